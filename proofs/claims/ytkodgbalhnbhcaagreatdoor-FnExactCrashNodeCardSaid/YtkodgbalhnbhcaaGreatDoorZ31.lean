/-
  slices.Grow and slices.Concat of nodes: two slices put together.
-/
import Derived.Test.YtkodgbalhnbhcaaGreatDoorZ17
import Derived.Test.YtkodgbalhnbhcaaGreatDoorZ25
import Derived.Test.YtkodgbalhnbhcaaGreatDoorZ30
import Derived.Test.YtkodgbalhnbhcaaGreatDoorZ2
import Derived.Laws.AppendOwn
import Derived.Lib.AppendZerosOnto
import Derived.Lib.AppendZeros
import Derived.Test.YtkodgbalhnbhcaaGreatDoorZ12
import Derived.Test.YtkodgbalhnbhcaaGreatDoorSortC
import Derived.Sort.Grow
import Derived.Test.YtkodgbalhnbhcaaGreatDoorZ18
import Derived.Test.YtkodgbalhnbhcaaGreatDoorZ9
import Derived.Lib.QuietBelow
import Derived.BigQuiet
namespace Go.Proofs.YtkodgbalhnbhcaaGreatDoor
namespace Clus
open Go.RowKit Base Marks Plc
set_option linter.unusedVariables false

theorem info_node : ∃ i, Tryz.prog.info? 76 = some i ∧ i.zero = some (.agg #[.string ByteArray.empty, .int .i64 0]) ∧ i.size = 2 ∧ i.bytes = 24 := by
  have h : (Tryz.prog.info? 76).map (fun i => (i.zero, i.size, i.bytes)) = some (some (.agg #[.string ByteArray.empty, .int .i64 0]), 2, 24) := by kernel_rfl
  obtain ⟨i, hi, hz⟩ := Option.map_eq_some_iff.1 h
  simp only [Prod.mk.injEq] at hz
  exact ⟨i, hi, hz.1, hz.2.1, hz.2.2⟩

set_option maxRecDepth 10000 in
set_option maxHeartbeats 1000000 in
theorem ngrow_any (n : Nat) (h0 : 0 < n) (hn : n ≤ 60) (w : World) :
    Calls Tryz.prog 159 #[.slice none 0 0, .int .i64 (n : Int)] w fun e w' => ∃ v, e = .returned v ∧ w'.ownsRow w.heap.size 76 2 v 0 [] ∧ Below w.heap.size w w' := by
  obtain ⟨i0, hi, hz0, hz1, hz2⟩ := info_node
  have hrz : ∀ ty, (Builtin.append_ #[27, 3] ty #[.slice none 0 0, .int .i64 (n : Int)]).run Tryz.prog w =
      .ok (.slice (some ⟨w.heap.size, 0, none⟩) n (grownCap w n 0 76)) (w.drew.alloc (.cells (Builtin.zeroCells #[.string ByteArray.empty, .int .i64 0] n ++ Builtin.zeroCells #[.string ByteArray.empty, .int .i64 0] (grownCap w n 0 76 - n)) 76)) := fun ty => by
    have h := Lib.run_append_grow_zeros w 27 3 ty 76 i0 _ .i64 .i64 Tryz.underlying27 Tryz.underlying3 hi hz0 none 0 0 [] (run_firstCells_none w.drew i0.size 0 0 0) n (by omega) (by rw [hz1]; decide) (by omega) (by omega) (by rw [hz2]; omega) (by rw [hz2]; exact growslice_fits (by omega) (by omega))
    simpa [Value.cells] using h
  have hGn : n ≤ grownCap w n 0 76 := grownCap_ge w _ _ _
  have hGm : grownCap w n 0 76 ≤ maxLen := grownCap_le_maxLen w n 0 76 (by unfold maxLen; omega)
  have HOWN : Hid (((w.drew.alloc (.cells (Builtin.zeroCells #[.string ByteArray.empty, .int .i64 0] n ++ Builtin.zeroCells #[.string ByteArray.empty, .int .i64 0] (grownCap w n 0 76 - n)) 76))).ownsRow w.heap.size 76 2 (.slice (some ⟨w.heap.size, 0, none⟩) 0 (grownCap w n 0 76)) 0 []) := by
    refine ⟨rfl, .inr ⟨w.heap.size, _, _, rfl, Nat.le_refl _, heap_alloc_new w.drew _, Nat.zero_le _, hGm, ?_, rfl⟩⟩
    rw [Array.size_append, size_zeroCells, size_zeroCells]
    show n * 2 + (_ - n) * 2 = _
    omega
  have HB : Hid (Below w.heap.size w (w.drew.alloc (.cells (Builtin.zeroCells #[.string ByteArray.empty, .int .i64 0] n ++ Builtin.zeroCells #[.string ByteArray.empty, .int .i64 0] (grownCap w n 0 76 - n)) 76))) := (Below.refl _ w).drew.alloc (by simp) _
  have hG63 : grownCap w n 0 76 ≤ 9223372036854775807 := by unfold maxLen at hGm; omega
  generalize grownCap w n 0 76 = G at hrz hGn hGm HOWN HB hG63
  generalize (w.drew.alloc (.cells (Builtin.zeroCells #[.string ByteArray.empty, .int .i64 0] n ++ Builtin.zeroCells #[.string ByteArray.empty, .int .i64 0] (G - n)) 76)) = W at hrz HOWN HB
  have h1 : ¬ ((n : Int) < 0) := by omega
  have h2 : IntKind.i64.wrap (0 : Int) = 0 := rfl
  have h3 : IntKind.i64.wrap (n : Int) = (n : Int) := by rw [IntKind.wrap_i64]; omega
  have h4 : (0 : Int) < (n : Int) := by omega
  clear hi hz0 hz1 hz2
  go_enter Tryz.func159, Tryz.ntmps159
  go_wp2_with (at_builtin; refine Lib.wpList_append_run _ rfl _ _ _ _ rfl _ _ rfl rfl _ _ (hrz _) ?_)
  go_ret
  exact ⟨_, rfl, unhide HOWN, unhide HB⟩

def catN (N : Nat → List Nodes.D) (k : Nat) : List Nodes.D := (List.range k).flatMap N
theorem catN_succ (N : Nat → List Nodes.D) (k : Nat) : catN N (k + 1) = catN N k ++ N k := by
  unfold catN; rw [List.range_succ, List.flatMap_append]; simp
theorem nflat_append (a b : List Nodes.D) : nflat (a ++ b) = nflat a ++ nflat b := by simp [nflat]

set_option maxRecDepth 10000 in
set_option maxHeartbeats 2000000 in
theorem concat2 (tb : Nat) (A : Nat → Nat) (N : Nat → List Nodes.D) (w : World) (ht : ∀ i, i < 2 → w.cell? ⟨tb, i, none⟩ = some (.slice (some ⟨A i, 0, none⟩) (N i).length (N i).length)) (hr : ∀ i, i < 2 → w.rowIs (A i) 76 ((N i).length * 2) (Nodes.icell (N i))) (hl : ∀ i, i < 2 → (N i).length ≤ 8) (h0 : 0 < (N 0).length) :
    Calls Tryz.prog 133 #[.slice (some ⟨tb, 0, none⟩) 2 2] w fun e w' => ∃ v, e = .returned v ∧ w'.ownsRow w.heap.size 76 2 v (catN N 2).length (nflat (catN N 2)) ∧ Below w.heap.size w w' := by
  have htl : tb < w.heap.size := block_lt_of_cell (ht 0 (by omega))
  have HT := hide ht
  have HR := hide hr
  have HL := hide hl
  have HGR := hide ngrow_any
  obtain ⟨i0, hi, hz0, hz1, hz2⟩ := info_node
  have HI := hide hi
  have HZ0 := hide hz0
  have HZ1 := hide hz1
  have HZ2 := hide hz2
  have HPOS : Hid (0 < (catN N 2).length) := by rw [catN_succ, catN_succ]; show 0 < _; simp [catN]; omega
  clear ht hr hl hi hz0 hz1 hz2 h0
  go_enter Tryz.func133, Tryz.ntmps133
  go_wp2_with fail
  go_loopw [3, 11] (fun zv iv wr => ∃ (k z : Nat), k ≤ 2 ∧ iv = .int .i64 (k : Int) ∧ zv = .int .i64 (z : Int) ∧ z ≤ k * 8 ∧ Hid (z = (catN N k).length) ∧ Hid (Below w.heap.size w wr)) (fun _ iv _ => 2 - (intOf iv).toNat)
  case atStart => exact ⟨0, 0, Nat.zero_le _, rfl, rfl, Nat.le_refl _, hide rfl, hide (Below.refl _ _)⟩
  case round =>
    obtain ⟨k, z, hk, rfl, rfl, hzk, hz, hbw⟩ := hrel
    by_cases hlt : k < 2
    · have c0 := ((unhide hbw).cell (p := ⟨tb, k, none⟩) htl).trans (unhide HT k hlt)
      have hlk := unhide HL k hlt
      have HZ : Hid (z + (N k).length = (catN N (k + 1)).length) := hide (by rw [catN_succ, List.length_append, ← unhide hz])
      generalize (N k).length = m at c0 hlk HZ
      have hw0 : IntKind.i64.wrap ((z : Int) + (m : Int)) = ((z + m : Nat) : Int) := by rw [IntKind.wrap_i64]; omega
      have hnn : ¬ ((z + m : Nat) : Int) < 0 := by omega
      have hnn2 : ¬ (z : Int) + (m : Int) < 0 := by omega
      clear hz
      go_wp2
      go_roundw
      case rel => exact ⟨k + 1, z + m, by omega, by go_num, by first | rfl | (congr 1; omega) | go_num, by omega, HZ, hbw⟩
      case measure => simp [intOf]; omega
    · obtain rfl : k = 2 := by omega
      clear hlt
      have hzp : 0 < z := by have h1 := unhide hz; have h2 := unhide HPOS; omega
      go_wp2_with fail
      refine (unhide HGR z hzp (by omega) wr).mono ?_
      rintro e w1 ⟨v1, rfl, ho1, hb1⟩
      obtain ⟨a1, c1, rfl⟩ := OwnR.own_form ho1
      have B1 := hide ((unhide hbw).trans (hb1.mono (unhide hbw).size))
      have O1 := hide (OwnR.own_le ho1 (unhide hbw).size)
      have hzz := (unhide B1).size
      clear ho1 hb1 hbw hz hzp
      go_wp2_with fail
      go_loopw [6, 27] (fun rv iv wr => ∃ (q n : Nat) (ra : Option Addr) (rc : Nat), q ≤ 2 ∧ iv = .int .i64 (q : Int) ∧ rv = .slice ra n rc ∧ Hid (n = (catN N q).length) ∧ n ≤ q * 8 ∧ Hid (wr.ownsRow w.heap.size 76 2 (.slice ra n rc) n (nflat (catN N q))) ∧ Hid (Below w.heap.size w wr)) (fun _ iv _ => 2 - (intOf iv).toNat)
      case atStart => exact ⟨0, 0, a1, c1, Nat.zero_le _, rfl, rfl, hide rfl, Nat.le_refl _, O1, B1⟩
      case round =>
        obtain ⟨q, n, ra, rc, hq, rfl, rfl, hn, hnq, how, hbw⟩ := hrel
        by_cases hlt : q < 2
        · have c0 := ((unhide hbw).cell (p := ⟨tb, q, none⟩) htl).trans (unhide HT q hlt)
          have hlk := unhide HL q hlt
          have HROW := hide (((unhide HR q hlt).of_block ((unhide hbw).block _ (unhide HR q hlt).lt)))
          have HST := hide (catN_succ N q)
          have HCE := hide (fun j u hj => nflat_cells (off := 0) (Nodes.at_row (unhide HROW)) j u hj)
          have HLN := hide (nflat_len (N q))
          have HON := hide (fun u hu => nflat_one (l := N q) (u := u) hu)
          have hzr := (unhide hbw).size
          have HNL : Hid (∀ m, n + m = n + (N q).length → n + m = (catN N (q + 1)).length) := fun m e => by rw [unhide HST, List.length_append, ← unhide hn]; exact e
          have HNL := hide (unhide HNL (N q).length rfl)
          generalize N q = l at c0 hlk HST HCE HLN HON HNL
          generalize A q = aq at c0 HCE
          go_wp2_with (at_builtin; go_loud (refine wpList_append_own _ rfl _ _ 27 rfl w.heap.size 76 i0 _ 2 24 Tryz.underlying27 (unhide HI) (unhide HZ0) (unhide HZ1) (unhide HZ2) rfl (by decide) _ _ _ rfl (unhide how) ⟨aq, 0, none⟩ l.length l.length (nflat l) rfl (unhide HLN) (unhide HCE) (unhide HON) (by unfold maxLen; omega) (by omega) (by omega) ?_))
          intro v5 w5 h5 hg5 _
          obtain ⟨a5, c5, rfl⟩ := OwnR.own_form h5
          have HO : Hid (w5.ownsRow w.heap.size 76 2 (.slice a5 (n + l.length) c5) (n + l.length) (nflat (catN N (q + 1)))) := by rw [unhide HST, nflat_append]; exact h5
          have HB5 := hide ((unhide hbw).grown hg5 hzr (fun b e => OwnR.own_block (unhide how) b e))
          clear h5 hg5 how hn
          go_wp2
          go_roundw
          case rel => exact ⟨q + 1, n + l.length, a5, c5, by omega, by go_num, rfl, HNL, by omega, HO, HB5⟩
          case measure => simp [intOf]; omega
        · obtain rfl : q = 2 := by omega
          go_wp2
          go_ret
          exact ⟨_, rfl, by rw [← unhide hn]; exact unhide how, unhide hbw⟩
end Clus
end Go.Proofs.YtkodgbalhnbhcaaGreatDoor
/-
  The program's placeNames: the names of all nodes, rising, each once.
-/
namespace Go.Proofs.YtkodgbalhnbhcaaGreatDoor
namespace Clus
open Go.RowKit Base Marks Plc
set_option linter.unusedVariables false

theorem enc_toL (b : ByteArray) : encStr (toL b) = .string b := by
  obtain ⟨⟨l⟩⟩ := b
  rfl
theorem holds_row {w : World} {t : TypeId} {g n cap : Nat} {xs : List ByteArray} (h : Keep.Row w t 1 g n cap (StrN.cells xs)) (hn : xs.length = n) : Sort.Holds encStr w g 0 (xs.map toL).toArray := by
  intro j hj
  have hj' : j < xs.length := by simpa using hj
  refine ⟨?_, by rw [Nat.zero_add]; exact h.frozen j⟩
  rw [Nat.zero_add, h.cell (StrN.cells_get xs j hj')]
  have e : (xs.map toL).toArray[j]! = toL (xs.getD j ByteArray.empty) := by simp [hj', List.getD_eq_getElem?_getD]
  rw [e, enc_toL]
theorem below_put {α : Type} [Inhabited α] (enc : α → Value) (w : World) (n g off B : Nat) (d : Array α) (os : Array Obj) (hg : B ≤ g) (hB : B ≤ w.heap.size) : Below B w (Sort.grow (Sort.putRow enc (Sort.ahead w n) g off d) os) := by
  refine ⟨rfl, rfl, rfl, by simp, fun k hk => ?_⟩
  show ((w.heap.modify g _) ++ os)[k]? = w.heap[k]?
  rw [Array.getElem?_append_left (by simp; omega), Array.getElem?_modify, if_neg (by omega)]
theorem sort_any (g cap B : Nat) (xs : List ByteArray) (w : World) (h : Keep.Row w 9 1 g xs.length cap (StrN.cells xs)) (hg : B ≤ g) (hl : xs.length ≤ 1000) :
    Calls Tryz.prog 134 #[.slice (some ⟨g, 0, none⟩) xs.length cap] w fun e w' =>
      e = .returned (.tuple #[]) ∧ Sort.Holds encStr w' g 0 ((xs.map toL).mergeSort fun x y => decide (x ≤ y)).toArray ∧ Below B w w' := by
  have hlt := h.lt
  have hs := Tryz.slices_Sort_string g 0 cap (xs.map toL) w (holds_row h rfl) hlt (by simp; omega)
  rw [List.length_map] at hs
  refine hs.mono ?_
  rintro e w' ⟨rfl, n, os, rfl⟩
  refine ⟨rfl, ?_, below_put _ _ _ _ _ _ _ _ hg (by omega)⟩
  exact Sort.holds_grow _ _ _ _ _ _ (by simpa using hlt) (Sort.holds_putRow _ _ _ _ (xs.map toL).toArray _ (Sort.holds_ahead _ _ _ _ _ _ (holds_row h rfl)) (by simp))
theorem compact_any (g cap B : Nat) (xs : List ByteArray) (w : World) (h : Sort.Holds encStr w g 0 ((xs.map toL).mergeSort fun x y => decide (x ≤ y)).toArray) (hc : xs.length ≤ cap) (hg : B ≤ g) (hB : B ≤ w.heap.size) (hl : xs.length ≤ 1000) :
    Calls Tryz.prog 135 #[.slice (some ⟨g, 0, none⟩) xs.length cap] w fun e w' =>
      e = .returned (.slice (some ⟨g, 0, none⟩) (insAll xs).length cap) ∧ (∀ i, i < (insAll xs).length → w'.cell? ⟨g, i, none⟩ = some (.string ((insAll xs).getD i ByteArray.empty))) ∧ Below B w w' := by
  have hlen : ((xs.map toL).mergeSort fun x y => decide (x ≤ y)).length = xs.length := by simp
  have hs := Tryz.slices_Compact_string g 0 cap _ w h (by rw [hlen]; omega) (by rw [hlen]; exact hc)
  have hl2 : (insAll xs).length ≤ xs.length := insAll_len xs
  rw [hlen, sort_names, List.length_map] at hs
  refine hs.mono ?_
  rintro e w' ⟨rfl, q, rfl⟩
  refine ⟨rfl, fun i hi => ?_, ?_⟩
  · have hc := Sort.cell?_putRow encStr (Sort.ahead w q) g 0 _ ((insAll xs).map toL ++ List.replicate (xs.length - (insAll xs).length) []).toArray (Sort.holds_ahead encStr w q g 0 _ h) (by simp; omega) i (by simp; omega)
    rw [Nat.zero_add] at hc
    rw [hc]
    have e : ((insAll xs).map toL ++ List.replicate (xs.length - (insAll xs).length) []).toArray[i]! = toL ((insAll xs).getD i ByteArray.empty) := by
      have hi' : i < ((insAll xs).map toL).length := by simpa using hi
      simp [List.getElem?_append_left hi', List.getD_eq_getElem?_getD, hi]
    rw [e, enc_toL]
  · have := below_put encStr w q g 0 B ((insAll xs).map toL ++ List.replicate (xs.length - (insAll xs).length) []).toArray #[] hg hB
    rw [Sort.grow_empty] at this
    exact this
theorem concat_ns (tb b1 b2 : Nat) (ns cs : List Nodes.D) (w : World) (h0 : w.cell? ⟨tb, 0, none⟩ = some (.slice (some ⟨b1, 0, none⟩) ns.length ns.length)) (h1 : w.cell? ⟨tb, 1, none⟩ = some (.slice (some ⟨b2, 0, none⟩) cs.length cs.length)) (r1 : w.rowIs b1 76 (ns.length * 2) (Nodes.icell ns)) (r2 : w.rowIs b2 76 (cs.length * 2) (Nodes.icell cs)) (l1 : ns.length ≤ 8) (l2 : cs.length ≤ 8) (hp : 0 < ns.length) :
    Calls Tryz.prog 133 #[.slice (some ⟨tb, 0, none⟩) 2 2] w fun e w' => ∃ g cap, e = .returned (.slice (some ⟨g, 0, none⟩) (ns ++ cs).length cap) ∧ Keep.Row w' 76 2 g (ns ++ cs).length cap (nflat (ns ++ cs)) ∧ Below w.heap.size w w' := by
  have h := concat2 tb (fun i => if i = 0 then b1 else b2) (fun i => if i = 0 then ns else cs) w (fun i hi => by
    obtain rfl | rfl : i = 0 ∨ i = 1 := by omega
    · exact h0
    · exact h1) (fun i hi => by
    obtain rfl | rfl : i = 0 ∨ i = 1 := by omega
    · exact r1
    · exact r2) (fun i hi => by
    obtain rfl | rfl : i = 0 ∨ i = 1 := by omega
    · exact l1
    · exact l2) hp
  have e : catN (fun i => if i = 0 then ns else cs) 2 = ns ++ cs := by rw [catN_succ, catN_succ]; simp [catN]
  rw [e] at h
  refine h.mono ?_
  rintro e w' ⟨v, rfl, how, hb⟩
  obtain ⟨g, cap, rfl, hg, hr⟩ := Keep.Row.of_owns how (by simp; omega)
  exact ⟨g, cap, rfl, hr, hb⟩
theorem row_name {w : World} {t : TypeId} {g n cap : Nat} {l : List Nodes.D} (h : Keep.Row w t 2 g n cap (nflat l)) {k : Nat} (hk : k < l.length) : Nodes.At w g (k * 2) (l.getD k Nodes.zero) := by
  refine ⟨?_, ?_⟩
  · rw [h.cell (nflat_get l (k * 2) (by omega)), Nodes.icell, if_pos (by omega), show k * 2 / 2 = k by omega]
  · rw [h.cell (nflat_get l (k * 2 + 1) (by omega)), Nodes.icell, if_neg (by omega), show (k * 2 + 1) / 2 = k by omega]
theorem take_names {l : List Nodes.D} {k : Nat} (hk : k < l.length) : (l.map (·.name)).take (k + 1) = (l.map (·.name)).take k ++ [(l.getD k Nodes.zero).name] := by
  rw [List.take_succ_eq_append_getElem (by simpa using hk)]
  simp [List.getD_eq_getElem?_getD, List.getElem?_eq_getElem hk]

set_option maxRecDepth 10000 in
set_option maxHeartbeats 2000000 in
theorem names_any (now nx lim lost : Int) (b1 b2 b3 : Nat) (ns cs : List Nodes.D) (L : List Pls.Pl) (w : World) (hR : CR w b1 b2 b3 ns cs L) (l1 : ns.length ≤ 8) (l2 : cs.length ≤ 8) (hp : 0 < ns.length) :
    Calls Tryz.prog 101 #[.agg #[.int .i64 now, .int .i64 nx, .int .i64 lim, .int .i64 lost, .slice (some ⟨b1, 0, none⟩) ns.length ns.length, .slice (some ⟨b2, 0, none⟩) cs.length cs.length, .slice (some ⟨b3, 0, none⟩) L.length L.length]] w fun e w' => ∃ g cap, e = .returned (.slice (some ⟨g, 0, none⟩) (insAll (ns.map (·.name) ++ cs.map (·.name))).length cap) ∧ (∀ i, i < (insAll (ns.map (·.name) ++ cs.map (·.name))).length → w'.cell? ⟨g, i, none⟩ = some (.string ((insAll (ns.map (·.name) ++ cs.map (·.name))).getD i ByteArray.empty))) ∧ Below w.heap.size w w' := by
  obtain ⟨i0, hi, hz0, hz1, hz2⟩ := StrN.info_ex
  have HI := hide hi
  have HZ0 := hide hz0
  have HZ1 := hide hz1
  have HZ2 := hide hz2
  have HR := hide hR
  have HCO := hide (fun (tb : Nat) w' h0 h1 (hb : Below w.heap.size w w') => concat_ns tb b1 b2 ns cs w' h0 h1 (hR.below hb (Nat.le_refl _)).n (hR.below hb (Nat.le_refl _)).c l1 l2 hp)
  have HLEN : Hid ((ns ++ cs).length ≤ 16) := by show (ns ++ cs).length ≤ 16; simp; omega
  have HPOS : Hid (0 < (ns ++ cs).length) := by show 0 < (ns ++ cs).length; simp; omega
  have HNM : Hid ((ns ++ cs).map (·.name) = ns.map (·.name) ++ cs.map (·.name)) := hide (List.map_append ..)
  rw [← unhide HNM]
  obtain ⟨l, hall⟩ : ∃ l, l = ns ++ cs := ⟨_, rfl⟩
  rw [← hall] at HCO HLEN HPOS ⊢
  clear hi hz0 hz1 hz2 hR HNM hall
  go_enter Tryz.func101, Tryz.ntmps101
  go_wp2_with fail
  refine (unhide HCO (w.heap.size + 1) _ ?_ ?_ (bel2 w _ _)).mono ?_
  · have e : w.heap.size + 1 = (w.alloc (.cells #[.int .i64 now, .int .i64 nx, .int .i64 lim, .int .i64 lost, .slice (some ⟨b1, 0, none⟩) ns.length ns.length, .slice (some ⟨b2, 0, none⟩) cs.length cs.length, .slice (some ⟨b3, 0, none⟩) L.length L.length] 30)).heap.size := by simp
    rw [e, World.cell?_alloc_new]; rfl
  · have e : w.heap.size + 1 = (w.alloc (.cells #[.int .i64 now, .int .i64 nx, .int .i64 lim, .int .i64 lost, .slice (some ⟨b1, 0, none⟩) ns.length ns.length, .slice (some ⟨b2, 0, none⟩) cs.length cs.length, .slice (some ⟨b3, 0, none⟩) L.length L.length] 30)).heap.size := by simp
    rw [e, World.cell?_alloc_new]; rfl
  rintro e w1 ⟨gn, cn, rfl, hrow, hb1⟩
  have B1 := hide ((bel2 w _ _).trans (hb1.mono (by simp; omega)))
  have ROW := hide hrow
  have hl16 := unhide HLEN
  have hpos := unhide HPOS
  clear hb1 hrow HLEN HPOS HCO
  go_wp2_with fail
  go_loopw [3, 13] (fun nv iv wr => ∃ (k : Nat) (oa : Option Addr) (oc : Nat), k ≤ l.length ∧ iv = .int .i64 (k : Int) ∧ nv = .slice oa k oc ∧ Hid (wr.ownsRow w1.heap.size 9 1 (.slice oa k oc) k (StrN.cells ((l.map (·.name)).take k))) ∧ Hid (Below w1.heap.size w1 wr)) (fun _ iv _ => l.length - (intOf iv).toNat)
  case atStart => exact ⟨0, none, 0, Nat.zero_le _, rfl, rfl, hide (World.ownsRow_nil _ _ _ _), hide (Below.refl _ _)⟩
  case round =>
    obtain ⟨k, oa, oc, hk, rfl, rfl, how, hbk⟩ := hrel
    have hzk := (unhide hbk).size
    by_cases hlt : k < l.length
    · obtain ⟨c0, c1⟩ := (row_name (unhide ROW) hlt).below (unhide hbk) (unhide ROW).lt
      have HST := hide (take_names hlt)
      generalize l.getD k Nodes.zero = nd at c0 c1 HST
      obtain ⟨x, wt⟩ := nd
      dsimp only at c0 c1 HST
      go_wp2_with (at_builtin; go_loud (refine wpList_append_own _ rfl _ _ 47 rfl w1.heap.size 9 i0 _ 1 16 Tryz.underlying47 (unhide HI) (unhide HZ0) (unhide HZ1) (unhide HZ2) rfl (by decide) _ _ _ rfl (((unhide how).alloc _).alloc _) ⟨wr.heap.size + 1, 0, none⟩ 1 1 [.string x] rfl rfl ?c1 (StrN.news_one x) ?c3 ?c4 ?c5 ?_))
      case c3 => unfold maxLen; omega
      case c4 => omega
      case c5 => first | omega | (simp; omega)
      intro v' we hown' hgrow _
      obtain ⟨a5, c5, rfl⟩ := OwnR.own_form hown'
      have O4 : Hid (we.ownsRow w1.heap.size 9 1 (.slice a5 (k + 1) c5) (k + 1) (StrN.cells ((l.map (·.name)).take (k + 1)))) := by
        rw [unhide HST]
        have : StrN.cells ((l.map (·.name)).take k ++ [x]) = StrN.cells ((l.map (·.name)).take k) ++ [.string x] := by simp [StrN.cells]
        rw [this]
        exact hown'
      have C4 := hide ((((unhide hbk).alloc hzk _).alloc (by simp; omega) _).grown hgrow (by simp; omega) (OwnR.own_block (unhide how)))
      clear hown' hgrow how
      go_wp2
      go_roundw
      case rel => exact ⟨k + 1, a5, c5, by omega, by go_num, rfl, O4, C4⟩
      case measure => simp [intOf]; omega
    · obtain rfl : k = l.length := by omega
      obtain ⟨g, cap, hv, hg, hrow⟩ := Keep.Row.of_owns (unhide how) hpos
      simp only [Value.slice.injEq, true_and] at hv
      obtain ⟨rfl, rfl⟩ := hv
      rw [show (l.map (·.name)).take l.length = l.map (·.name) from List.take_of_length_le (by simp)] at hrow
      have hcap : l.length ≤ oc := by obtain ⟨_, _, _, h, _⟩ := hrow; exact h
      have HRW : Hid (Keep.Row wr 9 1 g (l.map (·.name)).length oc (StrN.cells (l.map (·.name)))) := by rw [List.length_map]; exact hrow
      have HSO := hide (sort_any g oc w1.heap.size (l.map (·.name)) wr (unhide HRW) hg (by simp; omega))
      have HCP := hide (fun w2 h (hB : w1.heap.size ≤ w2.heap.size) => compact_any g oc w1.heap.size (l.map (·.name)) w2 h (by simpa using hcap) hg hB (by simp; omega))
      rw [List.length_map] at HSO HCP
      clear hrow how HRW ROW hlt
      go_wp2_with fail
      refine (unhide HSO).mono ?_
      rintro e w2 ⟨rfl, hh2, hb2⟩
      have B2 := hide ((unhide hbk).trans hb2)
      have H2 := hide hh2
      clear hh2 hb2 HSO
      go_wp2_with fail
      refine (unhide HCP _ (unhide H2) (unhide B2).size).mono ?_
      rintro e w3 ⟨rfl, hh3, hb3⟩
      have B3 := hide ((unhide B1).trans (((unhide B2).trans hb3).mono (unhide B1).size))
      have H3 := hide hh3
      clear hh3 hb3 H2 HCP
      go_wp2
      go_ret
      exact ⟨g, oc, rfl, unhide H3, unhide B3⟩
end Clus
end Go.Proofs.YtkodgbalhnbhcaaGreatDoor
/-
  The program's goodPlaces: it answers by the plain function, for every cluster that a call has laid itself.
-/
namespace Go.Proofs.YtkodgbalhnbhcaaGreatDoor
namespace Clus
open Go.RowKit Base GoodKey Items Store Plc
set_option linter.unusedVariables false

theorem places_len {c : CC} (h : (names c).length ≠ c.ps.length) : placesB c = false := by simp [placesB, h]
theorem places_bad {c : CC} {L : List Pls.Pl} {k : Nat} (hL : c.ps = L.map Pls.core) (hk : k < L.length) (h : ¬ ((L.getD k Pls.zeroL).name = (names c).getD k ByteArray.empty ∧ gsB (L.getD k Pls.zeroL).lim (L.getD k Pls.zeroL).nx (L.getD k Pls.zeroL).its = true ∧ (L.getD k Pls.zeroL).lim = c.lim ∧ (L.getD k Pls.zeroL).nx ≤ c.nx)) : placesB c = false := by
  have h2 : plB c k = false := Bool.eq_false_iff.2 (fun e => h ((pl_iff hL).1 e))
  have : (List.range c.ps.length).all (plB c) = false := by rw [List.all_eq_false]; exact ⟨k, by rw [hL]; simpa using hk, by simp [h2]⟩
  unfold placesB; rw [this, Bool.and_false]
theorem places_end {c : CC} (hl : (names c).length = c.ps.length) (h : ∀ i, i < c.ps.length → plB c i = true) : placesB c = true := by
  have : (List.range c.ps.length).all (plB c) = true := by rw [List.all_eq_true]; intro i hi; exact h i (by simpa using hi)
  unfold placesB; rw [this, decide_eq_true hl]; rfl

set_option maxRecDepth 10000 in
set_option maxHeartbeats 4000000 in
theorem places_impl (now nx lim lost : Int) (b1 b2 b3 : Nat) (ns cs : List Nodes.D) (L : List Pls.Pl) (w : World) (hR : CR w b1 b2 b3 ns cs L) (ln : ns.length ≤ 8) (lc : cs.length ≤ 8) (hp : 0 < ns.length) (lp : L.length ≤ 1048576) (fp : ∀ x ∈ L, Pls.Fits x) :
    Calls Tryz.prog 65 #[.agg #[.int .i64 now, .int .i64 nx, .int .i64 lim, .int .i64 lost, .slice (some ⟨b1, 0, none⟩) ns.length ns.length, .slice (some ⟨b2, 0, none⟩) cs.length cs.length, .slice (some ⟨b3, 0, none⟩) L.length L.length]] w fun e w' => e = .returned (.bool (placesB ⟨now, nx, lim, lost, ns, cs, L.map Pls.core⟩)) ∧ Below w.heap.size w w' := by
  obtain ⟨C, hC⟩ : ∃ C : CC, C = ⟨now, nx, lim, lost, ns, cs, L.map Pls.core⟩ := ⟨_, rfl⟩
  rw [← hC]
  have hCL : C.ps = L.map Pls.core := by rw [hC]
  have hmix : Tryz.prog.follows .mixedOrders = true := by kernel_rfl
  have HMIX := hide hmix
  have HR := hide hR
  have HFP := hide fp
  have HP := hide (fun w' (hb : Below w.heap.size w w') => names_any now nx lim lost b1 b2 b3 ns cs L w' (hR.below hb (Nat.le_refl _)) ln lc hp)
  have HNM : Hid (insAll (ns.map (·.name) ++ cs.map (·.name)) = names C) := by rw [hC]; exact hide rfl
  rw [unhide HNM] at HP
  have HLE := hide (@places_len C)
  have HEND := hide (@places_end C)
  have HCPS : Hid (C.ps.length = L.length) := by rw [hCL]; exact hide (by simp)
  rw [unhide HCPS] at HLE HEND
  have HBP := hide (fun k => @places_bad C L k hCL)
  have HPL := hide (fun k => @pl_iff C L k hCL)
  have e1 : C.lim = lim := by rw [hC]
  have e2 : C.nx = nx := by rw [hC]
  rw [e1, e2] at HBP HPL
  clear e1 e2 hCL fp hmix HNM HCPS hC hR
  generalize (names C).length = m at HP HLE HEND
  go_enter Tryz.func65, Tryz.ntmps65
  go_wp2_with fail
  refine (unhide HP _ (bel1 w _)).mono ?_
  rintro e w3 ⟨g, cap, rfl, hg, hb3⟩
  simp only [World.size_alloc] at hb3
  have X3 := hide hb3
  have hz3 : w.heap.size + 1 ≤ w3.heap.size := by have := hb3.size; simp at this; omega
  have B3 := hide ((bel1 w _).trans (hb3.mono (by omega)))
  have hx3 := boxcell hb3
  have HG := hide hg
  clear hb3 hg
  by_cases hlen : m = L.length
  case neg =>
    have H := hide (unhide HLE hlen)
    have hlen1 : ¬ (L.length : Int) = (m : Int) := by omega
    have hlen2 : ((L.length : Int) == (m : Int)) = false := by simp only [beq_eq_false_iff_ne]; omega
    have hlen3 : decide ((L.length : Int) = (m : Int)) = false := by simp only [decide_eq_false_iff_not]; omega
    go_wp2
    go_ret
    exact ⟨ret_bool (unhide H).symm, unhide B3⟩
  have HEN2 := hide (unhide HEND hlen)
  clear HEND HLE
  subst hlen
  go_wp2_with fail
  clear hx3
  go_loopw [17] (fun iv wr => ∃ k : Nat, k ≤ L.length ∧ iv = .int .i64 (k : Int) ∧ Hid (∀ i, i < k → plB C i = true) ∧ Hid (Below w3.heap.size w3 wr)) (fun iv _ => L.length - (intOf iv).toNat)
  case atStart => exact ⟨0, Nat.zero_le _, rfl, hide (fun i hi => absurd hi (by omega)), hide (Below.refl _ _)⟩
  case round =>
    obtain ⟨k, hk, rfl, hst, hbk⟩ := hrel
    obtain ⟨wk, hname⟩ : ∃ v, v = wr := ⟨_, rfl⟩
    subst hname
    have hzk := (unhide hbk).size
    have BK := hide ((unhide B3).trans ((unhide hbk).mono (unhide B3).size))
    by_cases hlt : k < L.length
    case neg =>
      obtain rfl : k = L.length := by omega
      have H := hide (unhide HEN2 (unhide hst))
      go_wp2
      go_ret
      exact ⟨ret_bool (unhide H).symm, unhide BK⟩
    have XK := hide ((unhide X3).trans ((unhide hbk).mono hz3))
    obtain ⟨c0, c1, c2, c3⟩ := Pls.lcell_at ((unhide HR).below (unhide BK) (Nat.le_refl _)).p.row k hlt
    rw [Nat.zero_add] at c0 c1 c2 c3
    have d0 := ((unhide hbk).cell (block_lt_of_cell (unhide HG k hlt))).trans (unhide HG k hlt)
    have HSTR := hide (fun w' (hb : Below w.heap.size w w') => ((unhide HR).below hb (Nat.le_refl _)).p.str k hlt)
    have HFK := hide (unhide HFP _ (Pls.getD_mem hlt))
    have hBP := hide (unhide HBP k hlt)
    have hPL := hide (unhide HPL k)
    generalize L.getD k Pls.zeroL = x at c0 c1 c2 c3 HSTR HFK hBP hPL
    generalize (names C).getD k ByteArray.empty = nm at d0 hBP hPL
    have ha := (unhide HSTR w (Below.refl _ _)).1
    have hca := (unhide HSTR w (Below.refl _ _)).2.2
    rw [ha, hca] at c3
    have hSP := fun w' (hb : Below w.heap.size w w') => impl_some x.lim x.nx (Pls.blk x) 0 x.its.length x.its w' (unhide HSTR w' hb).lt (Items.at_row (unhide HSTR w' hb).2.1) (unhide HFK).2.2.1 (Nat.le_refl _) (unhide HFK).2.2.2
    have hil : x.its.length ≤ 9223372036854775807 := by have := (unhide HFK).2.2.1; unfold maxLen at this; exact this
    clear ha hca
    generalize gsB x.lim x.nx x.its = gs at hSP hBP hPL
    have HSP := hide hSP
    clear hSP
    generalize hgi : Pls.blk x = gi at c3 HSP
    clear hgi
    have hxk := boxcell (unhide XK)
    go_wp2_with fail
    have q0 : (wk.alloc (.cells #[.string x.name, .int .i64 x.lim, .int .i64 x.nx, .slice (some ⟨gi, 0, none⟩) x.its.length x.its.length] 59)).cell? ⟨wk.heap.size, 0, none⟩ = some (.string x.name) := by rw [World.cell?_alloc_new]; rfl
    have q1 : (wk.alloc (.cells #[.string x.name, .int .i64 x.lim, .int .i64 x.nx, .slice (some ⟨gi, 0, none⟩) x.its.length x.its.length] 59)).cell? ⟨wk.heap.size, 1, none⟩ = some (.int .i64 x.lim) := by rw [World.cell?_alloc_new]; rfl
    have q2 : (wk.alloc (.cells #[.string x.name, .int .i64 x.lim, .int .i64 x.nx, .slice (some ⟨gi, 0, none⟩) x.its.length x.its.length] 59)).cell? ⟨wk.heap.size, 2, none⟩ = some (.int .i64 x.nx) := by rw [World.cell?_alloc_new]; rfl
    have q3 : (wk.alloc (.cells #[.string x.name, .int .i64 x.lim, .int .i64 x.nx, .slice (some ⟨gi, 0, none⟩) x.its.length x.its.length] 59)).cell? ⟨wk.heap.size, 3, none⟩ = some (.slice (some ⟨gi, 0, none⟩) x.its.length x.its.length) := by rw [World.cell?_alloc_new]; rfl
    have hzk1 : w.heap.size + 1 ≤ wk.heap.size := by omega
    have XW := hide ((unhide XK).alloc hzk1 (.cells #[.string x.name, .int .i64 x.lim, .int .i64 x.nx, .slice (some ⟨gi, 0, none⟩) x.its.length x.its.length] 59))
    have BW := hide ((unhide BK).alloc (unhide BK).size (.cells #[.string x.name, .int .i64 x.lim, .int .i64 x.nx, .slice (some ⟨gi, 0, none⟩) x.its.length x.its.length] 59))
    have YW := hide ((unhide hbk).alloc hzk (.cells #[.string x.name, .int .i64 x.lim, .int .i64 x.nx, .slice (some ⟨gi, 0, none⟩) x.its.length x.its.length] 59))
    have d0 := ((bel1 wk (.cells #[.string x.name, .int .i64 x.lim, .int .i64 x.nx, .slice (some ⟨gi, 0, none⟩) x.its.length x.its.length] 59)).cell (block_lt_of_cell d0)).trans d0
    generalize wk.alloc (.cells #[.string x.name, .int .i64 x.lim, .int .i64 x.nx, .slice (some ⟨gi, 0, none⟩) x.its.length x.its.length] 59) = W at q0 q1 q2 q3 XW BW YW d0 ⊢
    clear c0 c1 c2 c3 hxk
    have t1 : W.cell? ⟨w.heap.size, 1, none⟩ = some (.int .i64 nx) := (boxcell (unhide XW) 1).trans (by rw [World.cell?_alloc_new]; rfl)
    have t2 : W.cell? ⟨w.heap.size, 2, none⟩ = some (.int .i64 lim) := (boxcell (unhide XW) 2).trans (by rw [World.cell?_alloc_new]; rfl)
    have cC := fun d os => Calls.regrown_of (unhide HSP (Go.Sort.grow (redrawn W d) os) ((unhide BW).trans ((below_regrown W d os).mono (unhide BW).size)))
    have q0 := cell_regrown q0
    have q1 := cell_regrown q1
    have q2 := cell_regrown q2
    have q3 := cell_regrown q3
    have d0 := cell_regrown d0
    have t1 := cell_regrown t1
    have t2 := cell_regrown t2
    generalize wk.heap.size = pb at q0 q1 q2 q3 hzk1 hzk ⊢
    by_cases hne : x.name = nm
    case neg =>
      have hne' := str_ne hne
      have H := hide (unhide hBP (fun h => hne h.1))
      clear hne
      refine wp_region_quiet_below (unhide HMIX) (by kernel_rfl) ?_
      repeat (go_big_quiet_step (exact cC _ _))
      refine wpQuiet_nil ?_
      intro _ hw'
      obtain ⟨⟨dq, osq⟩, hw''⟩ := hw'
      subst hw''
      have BQ := hide ((unhide BW).trans ((below_regrown W dq osq).mono (unhide BW).size))
      clear q0 q1 q2 q3 d0 t1 t2 cC
      generalize (Go.Sort.grow (redrawn W dq) osq) = v at BQ ⊢
      go_wp2
      go_ret
      exact ⟨ret_bool (unhide H).symm, unhide BQ⟩
    have hne' := str_eq hne
    have HNE := hide hne
    clear hne
    by_cases hli : x.lim = lim
    case neg =>
      have hli2 : (x.lim == lim) = false := by simpa using hli
      have hli3 : (x.lim != lim) = true := by simpa using hli
      have hli4 : decide (x.lim = lim) = false := by simpa using hli
      have H := hide (unhide hBP (fun h => hli h.2.2.1))
      refine wp_region_quiet_below (unhide HMIX) (by kernel_rfl) ?_
      repeat (go_big_quiet_step (exact cC _ _))
      refine wpQuiet_nil ?_
      intro _ hw'
      obtain ⟨⟨dq, osq⟩, hw''⟩ := hw'
      subst hw''
      have BQ := hide ((unhide BW).trans ((below_regrown W dq osq).mono (unhide BW).size))
      clear q0 q1 q2 q3 d0 t1 t2 cC
      generalize (Go.Sort.grow (redrawn W dq) osq) = v at BQ ⊢
      go_wp2
      go_ret
      exact ⟨ret_bool (unhide H).symm, unhide BQ⟩
    have hli2 : (x.lim == lim) = true := by simpa using hli
    have hli3 : (x.lim != lim) = false := by simpa using hli
    have hli4 : decide (x.lim = lim) = true := by simpa using hli
    have HLI := hide hli
    clear hli
    by_cases hnx : nx < x.nx
    · have hnx2 : decide (nx < x.nx) = true := by simpa using hnx
      have H := hide (unhide hBP (fun h => by have := h.2.2.2; omega))
      refine wp_region_quiet_below (unhide HMIX) (by kernel_rfl) ?_
      repeat (go_big_quiet_step (exact cC _ _))
      refine wpQuiet_nil ?_
      intro _ hw'
      obtain ⟨⟨dq, osq⟩, hw''⟩ := hw'
      subst hw''
      have BQ := hide ((unhide BW).trans ((below_regrown W dq osq).mono (unhide BW).size))
      clear q0 q1 q2 q3 d0 t1 t2 cC
      generalize (Go.Sort.grow (redrawn W dq) osq) = v at BQ ⊢
      go_wp2
      go_ret
      exact ⟨ret_bool (unhide H).symm, unhide BQ⟩
    have hnx2 : decide (nx < x.nx) = false := by simpa using hnx
    cases gs
    · have H := hide (unhide hBP (fun h => by have := h.2.1; simp at this))
      refine wp_region_quiet_below (unhide HMIX) (by kernel_rfl) ?_
      repeat (go_big_quiet_step (exact cC _ _))
      refine wpQuiet_nil ?_
      intro _ hw'
      obtain ⟨⟨dq, osq⟩, hw''⟩ := hw'
      subst hw''
      have BQ := hide ((unhide BW).trans ((below_regrown W dq osq).mono (unhide BW).size))
      clear q0 q1 q2 q3 d0 t1 t2 cC
      generalize (Go.Sort.grow (redrawn W dq) osq) = v at BQ ⊢
      go_wp2
      go_ret
      exact ⟨ret_bool (unhide H).symm, unhide BQ⟩
    have HPB := hide ((unhide hPL).2 ⟨unhide HNE, rfl, unhide HLI, by omega⟩)
    have HST : Hid (∀ i, i < k + 1 → plB C i = true) := fun i hi => if e : i = k then (e ▸ unhide HPB) else unhide hst i (by omega)
    clear hBP hPL HPB
    refine wp_region_quiet_below (unhide HMIX) (by kernel_rfl) ?_
    repeat (go_big_quiet_step (exact cC _ _))
    refine wpQuiet_nil ?_
    intro _ hw'
    obtain ⟨⟨dq, osq⟩, hw''⟩ := hw'
    subst hw''
    have YQ := hide ((unhide YW).trans ((below_regrown W dq osq).mono (unhide YW).size))
    clear q0 q1 q2 q3 d0 t1 t2 cC
    generalize (Go.Sort.grow (redrawn W dq) osq) = v at YQ ⊢
    go_wp2
    go_roundw
    case rel => exact ⟨k + 1, by omega, by go_num, HST, YQ⟩
    case measure => simp [intOf]; omega
end Clus
end Go.Proofs.YtkodgbalhnbhcaaGreatDoor
