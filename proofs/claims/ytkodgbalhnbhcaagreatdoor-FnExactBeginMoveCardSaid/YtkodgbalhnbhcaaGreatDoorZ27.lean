/-
  slices.Grow and slices.Concat of nodes: two slices put together.
-/
import Derived.Test.YtkodgbalhnbhcaaGreatDoorZ13
import Derived.Test.YtkodgbalhnbhcaaGreatDoorZ18
import Derived.Test.YtkodgbalhnbhcaaGreatDoorZ26
import Derived.Test.YtkodgbalhnbhcaaGreatDoorZ1
import Derived.Laws.AppendOwn
import Derived.Lib.AppendZerosOnto
import Derived.Lib.AppendZeros
import Derived.Test.YtkodgbalhnbhcaaGreatDoorZ9
import Derived.Test.YtkodgbalhnbhcaaGreatDoorSortC
import Derived.Sort.Grow
import Derived.Test.YtkodgbalhnbhcaaGreatDoorZ14
import Derived.Test.YtkodgbalhnbhcaaGreatDoorZ7
import Derived.Lib.QuietBelow
import Derived.BigQuiet
import Derived.Test.YtkodgbalhnbhcaaGreatDoorZ17
namespace Go.Proofs.YtkodgbalhnbhcaaGreatDoor
namespace Clus
open Go.RowKit Base Marks Plc
set_option linter.unusedVariables false

theorem info_node : ∃ i, Tryz.prog.info? 76 = some i ∧ i.zero = some (.agg #[.string ByteArray.empty, .int .i64 0]) ∧ i.size = 2 ∧ i.bytes = 24 := by
  have h : (Tryz.prog.info? 76).map (fun i => (i.zero, i.size, i.bytes)) = some (some (.agg #[.string ByteArray.empty, .int .i64 0]), 2, 24) := by kernel_rfl
  obtain ⟨i, hi, hz⟩ := Option.map_eq_some_iff.1 h
  simp only [Prod.mk.injEq] at hz
  exact ⟨i, hi, hz.1, hz.2.1, hz.2.2⟩

set_option maxRecDepth 10000 in
set_option maxHeartbeats 1000000 in
theorem ngrow_any (n : Nat) (h0 : 0 < n) (hn : n ≤ 60) (w : World) :
    Calls Tryz.prog 159 #[.slice none 0 0, .int .i64 (n : Int)] w fun e w' => ∃ v, e = .returned v ∧ w'.ownsRow w.heap.size 76 2 v 0 [] ∧ Below w.heap.size w w' := by
  obtain ⟨i0, hi, hz0, hz1, hz2⟩ := info_node
  have hrz : ∀ ty, (Builtin.append_ #[27, 3] ty #[.slice none 0 0, .int .i64 (n : Int)]).run Tryz.prog w =
      .ok (.slice (some ⟨w.heap.size, 0, none⟩) n (grownCap w n 0 76)) (w.drew.alloc (.cells (Builtin.zeroCells #[.string ByteArray.empty, .int .i64 0] n ++ Builtin.zeroCells #[.string ByteArray.empty, .int .i64 0] (grownCap w n 0 76 - n)) 76)) := fun ty => by
    have h := Lib.run_append_grow_zeros w 27 3 ty 76 i0 _ .i64 .i64 Tryz.underlying27 Tryz.underlying3 hi hz0 none 0 0 [] (run_firstCells_none w.drew i0.size 0 0 0) n (by omega) (by rw [hz1]; decide) (by omega) (by omega) (by rw [hz2]; omega) (by rw [hz2]; exact growslice_fits (by omega) (by omega))
    simpa [Value.cells] using h
  have hGn : n ≤ grownCap w n 0 76 := grownCap_ge w _ _ _
  have hGm : grownCap w n 0 76 ≤ maxLen := grownCap_le_maxLen w n 0 76 (by unfold maxLen; omega)
  have HOWN : Hid (((w.drew.alloc (.cells (Builtin.zeroCells #[.string ByteArray.empty, .int .i64 0] n ++ Builtin.zeroCells #[.string ByteArray.empty, .int .i64 0] (grownCap w n 0 76 - n)) 76))).ownsRow w.heap.size 76 2 (.slice (some ⟨w.heap.size, 0, none⟩) 0 (grownCap w n 0 76)) 0 []) := by
    refine ⟨rfl, .inr ⟨w.heap.size, _, _, rfl, Nat.le_refl _, heap_alloc_new w.drew _, Nat.zero_le _, hGm, ?_, rfl⟩⟩
    rw [Array.size_append, size_zeroCells, size_zeroCells]
    show n * 2 + (_ - n) * 2 = _
    omega
  have HB : Hid (Below w.heap.size w (w.drew.alloc (.cells (Builtin.zeroCells #[.string ByteArray.empty, .int .i64 0] n ++ Builtin.zeroCells #[.string ByteArray.empty, .int .i64 0] (grownCap w n 0 76 - n)) 76))) := (Below.refl _ w).drew.alloc (by simp) _
  have hG63 : grownCap w n 0 76 ≤ 9223372036854775807 := by unfold maxLen at hGm; omega
  generalize grownCap w n 0 76 = G at hrz hGn hGm HOWN HB hG63
  generalize (w.drew.alloc (.cells (Builtin.zeroCells #[.string ByteArray.empty, .int .i64 0] n ++ Builtin.zeroCells #[.string ByteArray.empty, .int .i64 0] (G - n)) 76)) = W at hrz HOWN HB
  have h1 : ¬ ((n : Int) < 0) := by omega
  have h2 : IntKind.i64.wrap (0 : Int) = 0 := rfl
  have h3 : IntKind.i64.wrap (n : Int) = (n : Int) := by rw [IntKind.wrap_i64]; omega
  have h4 : (0 : Int) < (n : Int) := by omega
  clear hi hz0 hz1 hz2
  go_enter Tryz.func159, Tryz.ntmps159
  go_wp2_with (at_builtin; refine Lib.wpList_append_run _ rfl _ _ _ _ rfl _ _ rfl rfl _ _ (hrz _) ?_)
  go_ret
  exact ⟨_, rfl, unhide HOWN, unhide HB⟩

def catN (N : Nat → List Nodes.D) (k : Nat) : List Nodes.D := (List.range k).flatMap N
theorem catN_succ (N : Nat → List Nodes.D) (k : Nat) : catN N (k + 1) = catN N k ++ N k := by
  unfold catN; rw [List.range_succ, List.flatMap_append]; simp
theorem nflat_append (a b : List Nodes.D) : nflat (a ++ b) = nflat a ++ nflat b := by simp [nflat]

set_option maxRecDepth 10000 in
set_option maxHeartbeats 2000000 in
theorem concat2 (tb : Nat) (A : Nat → Nat) (N : Nat → List Nodes.D) (w : World) (ht : ∀ i, i < 2 → w.cell? ⟨tb, i, none⟩ = some (.slice (some ⟨A i, 0, none⟩) (N i).length (N i).length)) (hr : ∀ i, i < 2 → w.rowIs (A i) 76 ((N i).length * 2) (Nodes.icell (N i))) (hl : ∀ i, i < 2 → (N i).length ≤ 8) (h0 : 0 < (N 0).length) :
    Calls Tryz.prog 133 #[.slice (some ⟨tb, 0, none⟩) 2 2] w fun e w' => ∃ v, e = .returned v ∧ w'.ownsRow w.heap.size 76 2 v (catN N 2).length (nflat (catN N 2)) ∧ Below w.heap.size w w' := by
  have htl : tb < w.heap.size := block_lt_of_cell (ht 0 (by omega))
  have HT := hide ht
  have HR := hide hr
  have HL := hide hl
  have HGR := hide ngrow_any
  obtain ⟨i0, hi, hz0, hz1, hz2⟩ := info_node
  have HI := hide hi
  have HZ0 := hide hz0
  have HZ1 := hide hz1
  have HZ2 := hide hz2
  have HPOS : Hid (0 < (catN N 2).length) := by rw [catN_succ, catN_succ]; show 0 < _; simp [catN]; omega
  clear ht hr hl hi hz0 hz1 hz2 h0
  go_enter Tryz.func133, Tryz.ntmps133
  go_wp2_with fail
  go_loopw [3, 11] (fun zv iv wr => ∃ (k z : Nat), k ≤ 2 ∧ iv = .int .i64 (k : Int) ∧ zv = .int .i64 (z : Int) ∧ z ≤ k * 8 ∧ Hid (z = (catN N k).length) ∧ Hid (Below w.heap.size w wr)) (fun _ iv _ => 2 - (intOf iv).toNat)
  case atStart => exact ⟨0, 0, Nat.zero_le _, rfl, rfl, Nat.le_refl _, hide rfl, hide (Below.refl _ _)⟩
  case round =>
    obtain ⟨k, z, hk, rfl, rfl, hzk, hz, hbw⟩ := hrel
    by_cases hlt : k < 2
    · have c0 := ((unhide hbw).cell (p := ⟨tb, k, none⟩) htl).trans (unhide HT k hlt)
      have hlk := unhide HL k hlt
      have HZ : Hid (z + (N k).length = (catN N (k + 1)).length) := hide (by rw [catN_succ, List.length_append, ← unhide hz])
      generalize (N k).length = m at c0 hlk HZ
      have hw0 : IntKind.i64.wrap ((z : Int) + (m : Int)) = ((z + m : Nat) : Int) := by rw [IntKind.wrap_i64]; omega
      have hnn : ¬ ((z + m : Nat) : Int) < 0 := by omega
      have hnn2 : ¬ (z : Int) + (m : Int) < 0 := by omega
      clear hz
      go_wp2
      go_roundw
      case rel => exact ⟨k + 1, z + m, by omega, by go_num, by first | rfl | (congr 1; omega) | go_num, by omega, HZ, hbw⟩
      case measure => simp [intOf]; omega
    · obtain rfl : k = 2 := by omega
      clear hlt
      have hzp : 0 < z := by have h1 := unhide hz; have h2 := unhide HPOS; omega
      go_wp2_with fail
      refine (unhide HGR z hzp (by omega) wr).mono ?_
      rintro e w1 ⟨v1, rfl, ho1, hb1⟩
      obtain ⟨a1, c1, rfl⟩ := OwnR.own_form ho1
      have B1 := hide ((unhide hbw).trans (hb1.mono (unhide hbw).size))
      have O1 := hide (OwnR.own_le ho1 (unhide hbw).size)
      have hzz := (unhide B1).size
      clear ho1 hb1 hbw hz hzp
      go_wp2_with fail
      go_loopw [6, 27] (fun rv iv wr => ∃ (q n : Nat) (ra : Option Addr) (rc : Nat), q ≤ 2 ∧ iv = .int .i64 (q : Int) ∧ rv = .slice ra n rc ∧ Hid (n = (catN N q).length) ∧ n ≤ q * 8 ∧ Hid (wr.ownsRow w.heap.size 76 2 (.slice ra n rc) n (nflat (catN N q))) ∧ Hid (Below w.heap.size w wr)) (fun _ iv _ => 2 - (intOf iv).toNat)
      case atStart => exact ⟨0, 0, a1, c1, Nat.zero_le _, rfl, rfl, hide rfl, Nat.le_refl _, O1, B1⟩
      case round =>
        obtain ⟨q, n, ra, rc, hq, rfl, rfl, hn, hnq, how, hbw⟩ := hrel
        by_cases hlt : q < 2
        · have c0 := ((unhide hbw).cell (p := ⟨tb, q, none⟩) htl).trans (unhide HT q hlt)
          have hlk := unhide HL q hlt
          have HROW := hide (((unhide HR q hlt).of_block ((unhide hbw).block _ (unhide HR q hlt).lt)))
          have HST := hide (catN_succ N q)
          have HCE := hide (fun j u hj => nflat_cells (off := 0) (Nodes.at_row (unhide HROW)) j u hj)
          have HLN := hide (nflat_len (N q))
          have HON := hide (fun u hu => nflat_one (l := N q) (u := u) hu)
          have hzr := (unhide hbw).size
          have HNL : Hid (∀ m, n + m = n + (N q).length → n + m = (catN N (q + 1)).length) := fun m e => by rw [unhide HST, List.length_append, ← unhide hn]; exact e
          have HNL := hide (unhide HNL (N q).length rfl)
          generalize N q = l at c0 hlk HST HCE HLN HON HNL
          generalize A q = aq at c0 HCE
          go_wp2_with (at_builtin; go_loud (refine wpList_append_own _ rfl _ _ 27 rfl w.heap.size 76 i0 _ 2 24 Tryz.underlying27 (unhide HI) (unhide HZ0) (unhide HZ1) (unhide HZ2) rfl (by decide) _ _ _ rfl (unhide how) ⟨aq, 0, none⟩ l.length l.length (nflat l) rfl (unhide HLN) (unhide HCE) (unhide HON) (by unfold maxLen; omega) (by omega) (by omega) ?_))
          intro v5 w5 h5 hg5 _
          obtain ⟨a5, c5, rfl⟩ := OwnR.own_form h5
          have HO : Hid (w5.ownsRow w.heap.size 76 2 (.slice a5 (n + l.length) c5) (n + l.length) (nflat (catN N (q + 1)))) := by rw [unhide HST, nflat_append]; exact h5
          have HB5 := hide ((unhide hbw).grown hg5 hzr (fun b e => OwnR.own_block (unhide how) b e))
          clear h5 hg5 how hn
          go_wp2
          go_roundw
          case rel => exact ⟨q + 1, n + l.length, a5, c5, by omega, by go_num, rfl, HNL, by omega, HO, HB5⟩
          case measure => simp [intOf]; omega
        · obtain rfl : q = 2 := by omega
          go_wp2
          go_ret
          exact ⟨_, rfl, by rw [← unhide hn]; exact unhide how, unhide hbw⟩
end Clus
end Go.Proofs.YtkodgbalhnbhcaaGreatDoor
/-
  The program's placeNames: the names of all nodes, rising, each once.
-/
namespace Go.Proofs.YtkodgbalhnbhcaaGreatDoor
namespace Clus
open Go.RowKit Base Marks Plc
set_option linter.unusedVariables false

theorem enc_toL (b : ByteArray) : encStr (toL b) = .string b := by
  obtain ⟨⟨l⟩⟩ := b
  rfl
theorem holds_row {w : World} {t : TypeId} {g n cap : Nat} {xs : List ByteArray} (h : Keep.Row w t 1 g n cap (StrN.cells xs)) (hn : xs.length = n) : Sort.Holds encStr w g 0 (xs.map toL).toArray := by
  intro j hj
  have hj' : j < xs.length := by simpa using hj
  refine ⟨?_, by rw [Nat.zero_add]; exact h.frozen j⟩
  rw [Nat.zero_add, h.cell (StrN.cells_get xs j hj')]
  have e : (xs.map toL).toArray[j]! = toL (xs.getD j ByteArray.empty) := by simp [hj', List.getD_eq_getElem?_getD]
  rw [e, enc_toL]
theorem below_put {α : Type} [Inhabited α] (enc : α → Value) (w : World) (n g off B : Nat) (d : Array α) (os : Array Obj) (hg : B ≤ g) (hB : B ≤ w.heap.size) : Below B w (Sort.grow (Sort.putRow enc (Sort.ahead w n) g off d) os) := by
  refine ⟨rfl, rfl, rfl, by simp, fun k hk => ?_⟩
  show ((w.heap.modify g _) ++ os)[k]? = w.heap[k]?
  rw [Array.getElem?_append_left (by simp; omega), Array.getElem?_modify, if_neg (by omega)]
theorem sort_any (g cap B : Nat) (xs : List ByteArray) (w : World) (h : Keep.Row w 9 1 g xs.length cap (StrN.cells xs)) (hg : B ≤ g) (hl : xs.length ≤ 1000) :
    Calls Tryz.prog 134 #[.slice (some ⟨g, 0, none⟩) xs.length cap] w fun e w' =>
      e = .returned (.tuple #[]) ∧ Sort.Holds encStr w' g 0 ((xs.map toL).mergeSort fun x y => decide (x ≤ y)).toArray ∧ Below B w w' := by
  have hlt := h.lt
  have hs := Tryz.slices_Sort_string g 0 cap (xs.map toL) w (holds_row h rfl) hlt (by simp; omega)
  rw [List.length_map] at hs
  refine hs.mono ?_
  rintro e w' ⟨rfl, n, os, rfl⟩
  refine ⟨rfl, ?_, below_put _ _ _ _ _ _ _ _ hg (by omega)⟩
  exact Sort.holds_grow _ _ _ _ _ _ (by simpa using hlt) (Sort.holds_putRow _ _ _ _ (xs.map toL).toArray _ (Sort.holds_ahead _ _ _ _ _ _ (holds_row h rfl)) (by simp))
theorem compact_any (g cap B : Nat) (xs : List ByteArray) (w : World) (h : Sort.Holds encStr w g 0 ((xs.map toL).mergeSort fun x y => decide (x ≤ y)).toArray) (hc : xs.length ≤ cap) (hg : B ≤ g) (hB : B ≤ w.heap.size) (hl : xs.length ≤ 1000) :
    Calls Tryz.prog 135 #[.slice (some ⟨g, 0, none⟩) xs.length cap] w fun e w' =>
      e = .returned (.slice (some ⟨g, 0, none⟩) (insAll xs).length cap) ∧ (∀ i, i < (insAll xs).length → w'.cell? ⟨g, i, none⟩ = some (.string ((insAll xs).getD i ByteArray.empty))) ∧ Below B w w' := by
  have hlen : ((xs.map toL).mergeSort fun x y => decide (x ≤ y)).length = xs.length := by simp
  have hs := Tryz.slices_Compact_string g 0 cap _ w h (by rw [hlen]; omega) (by rw [hlen]; exact hc)
  have hl2 : (insAll xs).length ≤ xs.length := insAll_len xs
  rw [hlen, sort_names, List.length_map] at hs
  refine hs.mono ?_
  rintro e w' ⟨rfl, q, rfl⟩
  refine ⟨rfl, fun i hi => ?_, ?_⟩
  · have hc := Sort.cell?_putRow encStr (Sort.ahead w q) g 0 _ ((insAll xs).map toL ++ List.replicate (xs.length - (insAll xs).length) []).toArray (Sort.holds_ahead encStr w q g 0 _ h) (by simp; omega) i (by simp; omega)
    rw [Nat.zero_add] at hc
    rw [hc]
    have e : ((insAll xs).map toL ++ List.replicate (xs.length - (insAll xs).length) []).toArray[i]! = toL ((insAll xs).getD i ByteArray.empty) := by
      have hi' : i < ((insAll xs).map toL).length := by simpa using hi
      simp [List.getElem?_append_left hi', List.getD_eq_getElem?_getD, hi]
    rw [e, enc_toL]
  · have := below_put encStr w q g 0 B ((insAll xs).map toL ++ List.replicate (xs.length - (insAll xs).length) []).toArray #[] hg hB
    rw [Sort.grow_empty] at this
    exact this
theorem concat_ns (tb b1 b2 : Nat) (ns cs : List Nodes.D) (w : World) (h0 : w.cell? ⟨tb, 0, none⟩ = some (.slice (some ⟨b1, 0, none⟩) ns.length ns.length)) (h1 : w.cell? ⟨tb, 1, none⟩ = some (.slice (some ⟨b2, 0, none⟩) cs.length cs.length)) (r1 : w.rowIs b1 76 (ns.length * 2) (Nodes.icell ns)) (r2 : w.rowIs b2 76 (cs.length * 2) (Nodes.icell cs)) (l1 : ns.length ≤ 8) (l2 : cs.length ≤ 8) (hp : 0 < ns.length) :
    Calls Tryz.prog 133 #[.slice (some ⟨tb, 0, none⟩) 2 2] w fun e w' => ∃ g cap, e = .returned (.slice (some ⟨g, 0, none⟩) (ns ++ cs).length cap) ∧ Keep.Row w' 76 2 g (ns ++ cs).length cap (nflat (ns ++ cs)) ∧ Below w.heap.size w w' := by
  have h := concat2 tb (fun i => if i = 0 then b1 else b2) (fun i => if i = 0 then ns else cs) w (fun i hi => by
    obtain rfl | rfl : i = 0 ∨ i = 1 := by omega
    · exact h0
    · exact h1) (fun i hi => by
    obtain rfl | rfl : i = 0 ∨ i = 1 := by omega
    · exact r1
    · exact r2) (fun i hi => by
    obtain rfl | rfl : i = 0 ∨ i = 1 := by omega
    · exact l1
    · exact l2) hp
  have e : catN (fun i => if i = 0 then ns else cs) 2 = ns ++ cs := by rw [catN_succ, catN_succ]; simp [catN]
  rw [e] at h
  refine h.mono ?_
  rintro e w' ⟨v, rfl, how, hb⟩
  obtain ⟨g, cap, rfl, hg, hr⟩ := Keep.Row.of_owns how (by simp; omega)
  exact ⟨g, cap, rfl, hr, hb⟩
theorem row_name {w : World} {t : TypeId} {g n cap : Nat} {l : List Nodes.D} (h : Keep.Row w t 2 g n cap (nflat l)) {k : Nat} (hk : k < l.length) : Nodes.At w g (k * 2) (l.getD k Nodes.zero) := by
  refine ⟨?_, ?_⟩
  · rw [h.cell (nflat_get l (k * 2) (by omega)), Nodes.icell, if_pos (by omega), show k * 2 / 2 = k by omega]
  · rw [h.cell (nflat_get l (k * 2 + 1) (by omega)), Nodes.icell, if_neg (by omega), show (k * 2 + 1) / 2 = k by omega]
theorem take_names {l : List Nodes.D} {k : Nat} (hk : k < l.length) : (l.map (·.name)).take (k + 1) = (l.map (·.name)).take k ++ [(l.getD k Nodes.zero).name] := by
  rw [List.take_succ_eq_append_getElem (by simpa using hk)]
  simp [List.getD_eq_getElem?_getD, List.getElem?_eq_getElem hk]

set_option maxRecDepth 10000 in
set_option maxHeartbeats 2000000 in
theorem names_any (now nx lim lost : Int) (b1 b2 b3 : Nat) (ns cs : List Nodes.D) (L : List Pls.Pl) (w : World) (hR : CR w b1 b2 b3 ns cs L) (l1 : ns.length ≤ 8) (l2 : cs.length ≤ 8) (hp : 0 < ns.length) :
    Calls Tryz.prog 101 #[.agg #[.int .i64 now, .int .i64 nx, .int .i64 lim, .int .i64 lost, .slice (some ⟨b1, 0, none⟩) ns.length ns.length, .slice (some ⟨b2, 0, none⟩) cs.length cs.length, .slice (some ⟨b3, 0, none⟩) L.length L.length]] w fun e w' => ∃ g cap, e = .returned (.slice (some ⟨g, 0, none⟩) (insAll (ns.map (·.name) ++ cs.map (·.name))).length cap) ∧ (∀ i, i < (insAll (ns.map (·.name) ++ cs.map (·.name))).length → w'.cell? ⟨g, i, none⟩ = some (.string ((insAll (ns.map (·.name) ++ cs.map (·.name))).getD i ByteArray.empty))) ∧ Below w.heap.size w w' := by
  obtain ⟨i0, hi, hz0, hz1, hz2⟩ := StrN.info_ex
  have HI := hide hi
  have HZ0 := hide hz0
  have HZ1 := hide hz1
  have HZ2 := hide hz2
  have HR := hide hR
  have HCO := hide (fun (tb : Nat) w' h0 h1 (hb : Below w.heap.size w w') => concat_ns tb b1 b2 ns cs w' h0 h1 (hR.below hb (Nat.le_refl _)).n (hR.below hb (Nat.le_refl _)).c l1 l2 hp)
  have HLEN : Hid ((ns ++ cs).length ≤ 16) := by show (ns ++ cs).length ≤ 16; simp; omega
  have HPOS : Hid (0 < (ns ++ cs).length) := by show 0 < (ns ++ cs).length; simp; omega
  have HNM : Hid ((ns ++ cs).map (·.name) = ns.map (·.name) ++ cs.map (·.name)) := hide (List.map_append ..)
  rw [← unhide HNM]
  obtain ⟨l, hall⟩ : ∃ l, l = ns ++ cs := ⟨_, rfl⟩
  rw [← hall] at HCO HLEN HPOS ⊢
  clear hi hz0 hz1 hz2 hR HNM hall
  go_enter Tryz.func101, Tryz.ntmps101
  go_wp2_with fail
  refine (unhide HCO (w.heap.size + 1) _ ?_ ?_ (bel2 w _ _)).mono ?_
  · have e : w.heap.size + 1 = (w.alloc (.cells #[.int .i64 now, .int .i64 nx, .int .i64 lim, .int .i64 lost, .slice (some ⟨b1, 0, none⟩) ns.length ns.length, .slice (some ⟨b2, 0, none⟩) cs.length cs.length, .slice (some ⟨b3, 0, none⟩) L.length L.length] 30)).heap.size := by simp
    rw [e, World.cell?_alloc_new]; rfl
  · have e : w.heap.size + 1 = (w.alloc (.cells #[.int .i64 now, .int .i64 nx, .int .i64 lim, .int .i64 lost, .slice (some ⟨b1, 0, none⟩) ns.length ns.length, .slice (some ⟨b2, 0, none⟩) cs.length cs.length, .slice (some ⟨b3, 0, none⟩) L.length L.length] 30)).heap.size := by simp
    rw [e, World.cell?_alloc_new]; rfl
  rintro e w1 ⟨gn, cn, rfl, hrow, hb1⟩
  have B1 := hide ((bel2 w _ _).trans (hb1.mono (by simp; omega)))
  have ROW := hide hrow
  have hl16 := unhide HLEN
  have hpos := unhide HPOS
  clear hb1 hrow HLEN HPOS HCO
  go_wp2_with fail
  go_loopw [3, 13] (fun nv iv wr => ∃ (k : Nat) (oa : Option Addr) (oc : Nat), k ≤ l.length ∧ iv = .int .i64 (k : Int) ∧ nv = .slice oa k oc ∧ Hid (wr.ownsRow w1.heap.size 9 1 (.slice oa k oc) k (StrN.cells ((l.map (·.name)).take k))) ∧ Hid (Below w1.heap.size w1 wr)) (fun _ iv _ => l.length - (intOf iv).toNat)
  case atStart => exact ⟨0, none, 0, Nat.zero_le _, rfl, rfl, hide (World.ownsRow_nil _ _ _ _), hide (Below.refl _ _)⟩
  case round =>
    obtain ⟨k, oa, oc, hk, rfl, rfl, how, hbk⟩ := hrel
    have hzk := (unhide hbk).size
    by_cases hlt : k < l.length
    · obtain ⟨c0, c1⟩ := (row_name (unhide ROW) hlt).below (unhide hbk) (unhide ROW).lt
      have HST := hide (take_names hlt)
      generalize l.getD k Nodes.zero = nd at c0 c1 HST
      obtain ⟨x, wt⟩ := nd
      dsimp only at c0 c1 HST
      go_wp2_with (at_builtin; go_loud (refine wpList_append_own _ rfl _ _ 47 rfl w1.heap.size 9 i0 _ 1 16 Tryz.underlying47 (unhide HI) (unhide HZ0) (unhide HZ1) (unhide HZ2) rfl (by decide) _ _ _ rfl (((unhide how).alloc _).alloc _) ⟨wr.heap.size + 1, 0, none⟩ 1 1 [.string x] rfl rfl ?c1 (StrN.news_one x) ?c3 ?c4 ?c5 ?_))
      case c3 => unfold maxLen; omega
      case c4 => omega
      case c5 => first | omega | (simp; omega)
      intro v' we hown' hgrow _
      obtain ⟨a5, c5, rfl⟩ := OwnR.own_form hown'
      have O4 : Hid (we.ownsRow w1.heap.size 9 1 (.slice a5 (k + 1) c5) (k + 1) (StrN.cells ((l.map (·.name)).take (k + 1)))) := by
        rw [unhide HST]
        have : StrN.cells ((l.map (·.name)).take k ++ [x]) = StrN.cells ((l.map (·.name)).take k) ++ [.string x] := by simp [StrN.cells]
        rw [this]
        exact hown'
      have C4 := hide ((((unhide hbk).alloc hzk _).alloc (by simp; omega) _).grown hgrow (by simp; omega) (OwnR.own_block (unhide how)))
      clear hown' hgrow how
      go_wp2
      go_roundw
      case rel => exact ⟨k + 1, a5, c5, by omega, by go_num, rfl, O4, C4⟩
      case measure => simp [intOf]; omega
    · obtain rfl : k = l.length := by omega
      obtain ⟨g, cap, hv, hg, hrow⟩ := Keep.Row.of_owns (unhide how) hpos
      simp only [Value.slice.injEq, true_and] at hv
      obtain ⟨rfl, rfl⟩ := hv
      rw [show (l.map (·.name)).take l.length = l.map (·.name) from List.take_of_length_le (by simp)] at hrow
      have hcap : l.length ≤ oc := by obtain ⟨_, _, _, h, _⟩ := hrow; exact h
      have HRW : Hid (Keep.Row wr 9 1 g (l.map (·.name)).length oc (StrN.cells (l.map (·.name)))) := by rw [List.length_map]; exact hrow
      have HSO := hide (sort_any g oc w1.heap.size (l.map (·.name)) wr (unhide HRW) hg (by simp; omega))
      have HCP := hide (fun w2 h (hB : w1.heap.size ≤ w2.heap.size) => compact_any g oc w1.heap.size (l.map (·.name)) w2 h (by simpa using hcap) hg hB (by simp; omega))
      rw [List.length_map] at HSO HCP
      clear hrow how HRW ROW hlt
      go_wp2_with fail
      refine (unhide HSO).mono ?_
      rintro e w2 ⟨rfl, hh2, hb2⟩
      have B2 := hide ((unhide hbk).trans hb2)
      have H2 := hide hh2
      clear hh2 hb2 HSO
      go_wp2_with fail
      refine (unhide HCP _ (unhide H2) (unhide B2).size).mono ?_
      rintro e w3 ⟨rfl, hh3, hb3⟩
      have B3 := hide ((unhide B1).trans (((unhide B2).trans hb3).mono (unhide B1).size))
      have H3 := hide hh3
      clear hh3 hb3 H2 HCP
      go_wp2
      go_ret
      exact ⟨g, oc, rfl, unhide H3, unhide B3⟩
end Clus
end Go.Proofs.YtkodgbalhnbhcaaGreatDoor
/-
  The program's goodPlaces: it answers by the plain function, for every cluster that a call has laid itself.
-/
namespace Go.Proofs.YtkodgbalhnbhcaaGreatDoor
namespace Clus
open Go.RowKit Base GoodKey Items Store Plc
set_option linter.unusedVariables false

theorem places_len {c : CC} (h : (names c).length ≠ c.ps.length) : placesB c = false := by simp [placesB, h]
theorem places_bad {c : CC} {L : List Pls.Pl} {k : Nat} (hL : c.ps = L.map Pls.core) (hk : k < L.length) (h : ¬ ((L.getD k Pls.zeroL).name = (names c).getD k ByteArray.empty ∧ gsB (L.getD k Pls.zeroL).lim (L.getD k Pls.zeroL).nx (L.getD k Pls.zeroL).its = true ∧ (L.getD k Pls.zeroL).lim = c.lim ∧ (L.getD k Pls.zeroL).nx ≤ c.nx)) : placesB c = false := by
  have h2 : plB c k = false := Bool.eq_false_iff.2 (fun e => h ((pl_iff hL).1 e))
  have : (List.range c.ps.length).all (plB c) = false := by rw [List.all_eq_false]; exact ⟨k, by rw [hL]; simpa using hk, by simp [h2]⟩
  unfold placesB; rw [this, Bool.and_false]
theorem places_end {c : CC} (hl : (names c).length = c.ps.length) (h : ∀ i, i < c.ps.length → plB c i = true) : placesB c = true := by
  have : (List.range c.ps.length).all (plB c) = true := by rw [List.all_eq_true]; intro i hi; exact h i (by simpa using hi)
  unfold placesB; rw [this, decide_eq_true hl]; rfl

set_option maxRecDepth 10000 in
set_option maxHeartbeats 4000000 in
theorem places_impl (now nx lim lost : Int) (b1 b2 b3 : Nat) (ns cs : List Nodes.D) (L : List Pls.Pl) (w : World) (hR : CR w b1 b2 b3 ns cs L) (ln : ns.length ≤ 8) (lc : cs.length ≤ 8) (hp : 0 < ns.length) (lp : L.length ≤ 1048576) (fp : ∀ x ∈ L, Pls.Fits x) :
    Calls Tryz.prog 65 #[.agg #[.int .i64 now, .int .i64 nx, .int .i64 lim, .int .i64 lost, .slice (some ⟨b1, 0, none⟩) ns.length ns.length, .slice (some ⟨b2, 0, none⟩) cs.length cs.length, .slice (some ⟨b3, 0, none⟩) L.length L.length]] w fun e w' => e = .returned (.bool (placesB ⟨now, nx, lim, lost, ns, cs, L.map Pls.core⟩)) ∧ Below w.heap.size w w' := by
  obtain ⟨C, hC⟩ : ∃ C : CC, C = ⟨now, nx, lim, lost, ns, cs, L.map Pls.core⟩ := ⟨_, rfl⟩
  rw [← hC]
  have hCL : C.ps = L.map Pls.core := by rw [hC]
  have hmix : Tryz.prog.follows .mixedOrders = true := by kernel_rfl
  have HMIX := hide hmix
  have HR := hide hR
  have HFP := hide fp
  have HP := hide (fun w' (hb : Below w.heap.size w w') => names_any now nx lim lost b1 b2 b3 ns cs L w' (hR.below hb (Nat.le_refl _)) ln lc hp)
  have HNM : Hid (insAll (ns.map (·.name) ++ cs.map (·.name)) = names C) := by rw [hC]; exact hide rfl
  rw [unhide HNM] at HP
  have HLE := hide (@places_len C)
  have HEND := hide (@places_end C)
  have HCPS : Hid (C.ps.length = L.length) := by rw [hCL]; exact hide (by simp)
  rw [unhide HCPS] at HLE HEND
  have HBP := hide (fun k => @places_bad C L k hCL)
  have HPL := hide (fun k => @pl_iff C L k hCL)
  have e1 : C.lim = lim := by rw [hC]
  have e2 : C.nx = nx := by rw [hC]
  rw [e1, e2] at HBP HPL
  clear e1 e2 hCL fp hmix HNM HCPS hC hR
  generalize (names C).length = m at HP HLE HEND
  go_enter Tryz.func65, Tryz.ntmps65
  go_wp2_with fail
  refine (unhide HP _ (bel1 w _)).mono ?_
  rintro e w3 ⟨g, cap, rfl, hg, hb3⟩
  simp only [World.size_alloc] at hb3
  have X3 := hide hb3
  have hz3 : w.heap.size + 1 ≤ w3.heap.size := by have := hb3.size; simp at this; omega
  have B3 := hide ((bel1 w _).trans (hb3.mono (by omega)))
  have hx3 := boxcell hb3
  have HG := hide hg
  clear hb3 hg
  by_cases hlen : m = L.length
  case neg =>
    have H := hide (unhide HLE hlen)
    have hlen1 : ¬ (L.length : Int) = (m : Int) := by omega
    have hlen2 : ((L.length : Int) == (m : Int)) = false := by simp only [beq_eq_false_iff_ne]; omega
    have hlen3 : decide ((L.length : Int) = (m : Int)) = false := by simp only [decide_eq_false_iff_not]; omega
    go_wp2
    go_ret
    exact ⟨ret_bool (unhide H).symm, unhide B3⟩
  have HEN2 := hide (unhide HEND hlen)
  clear HEND HLE
  subst hlen
  go_wp2_with fail
  clear hx3
  go_loopw [17] (fun iv wr => ∃ k : Nat, k ≤ L.length ∧ iv = .int .i64 (k : Int) ∧ Hid (∀ i, i < k → plB C i = true) ∧ Hid (Below w3.heap.size w3 wr)) (fun iv _ => L.length - (intOf iv).toNat)
  case atStart => exact ⟨0, Nat.zero_le _, rfl, hide (fun i hi => absurd hi (by omega)), hide (Below.refl _ _)⟩
  case round =>
    obtain ⟨k, hk, rfl, hst, hbk⟩ := hrel
    obtain ⟨wk, hname⟩ : ∃ v, v = wr := ⟨_, rfl⟩
    subst hname
    have hzk := (unhide hbk).size
    have BK := hide ((unhide B3).trans ((unhide hbk).mono (unhide B3).size))
    by_cases hlt : k < L.length
    case neg =>
      obtain rfl : k = L.length := by omega
      have H := hide (unhide HEN2 (unhide hst))
      go_wp2
      go_ret
      exact ⟨ret_bool (unhide H).symm, unhide BK⟩
    have XK := hide ((unhide X3).trans ((unhide hbk).mono hz3))
    obtain ⟨c0, c1, c2, c3⟩ := Pls.lcell_at ((unhide HR).below (unhide BK) (Nat.le_refl _)).p.row k hlt
    rw [Nat.zero_add] at c0 c1 c2 c3
    have d0 := ((unhide hbk).cell (block_lt_of_cell (unhide HG k hlt))).trans (unhide HG k hlt)
    have HSTR := hide (fun w' (hb : Below w.heap.size w w') => ((unhide HR).below hb (Nat.le_refl _)).p.str k hlt)
    have HFK := hide (unhide HFP _ (Pls.getD_mem hlt))
    have hBP := hide (unhide HBP k hlt)
    have hPL := hide (unhide HPL k)
    generalize L.getD k Pls.zeroL = x at c0 c1 c2 c3 HSTR HFK hBP hPL
    generalize (names C).getD k ByteArray.empty = nm at d0 hBP hPL
    have ha := (unhide HSTR w (Below.refl _ _)).1
    have hca := (unhide HSTR w (Below.refl _ _)).2.2
    rw [ha, hca] at c3
    have hSP := fun w' (hb : Below w.heap.size w w') => impl_some x.lim x.nx (Pls.blk x) 0 x.its.length x.its w' (unhide HSTR w' hb).lt (Items.at_row (unhide HSTR w' hb).2.1) (unhide HFK).2.2.1 (Nat.le_refl _) (unhide HFK).2.2.2
    have hil : x.its.length ≤ 9223372036854775807 := by have := (unhide HFK).2.2.1; unfold maxLen at this; exact this
    clear ha hca
    generalize gsB x.lim x.nx x.its = gs at hSP hBP hPL
    have HSP := hide hSP
    clear hSP
    generalize hgi : Pls.blk x = gi at c3 HSP
    clear hgi
    have hxk := boxcell (unhide XK)
    go_wp2_with fail
    have q0 : (wk.alloc (.cells #[.string x.name, .int .i64 x.lim, .int .i64 x.nx, .slice (some ⟨gi, 0, none⟩) x.its.length x.its.length] 59)).cell? ⟨wk.heap.size, 0, none⟩ = some (.string x.name) := by rw [World.cell?_alloc_new]; rfl
    have q1 : (wk.alloc (.cells #[.string x.name, .int .i64 x.lim, .int .i64 x.nx, .slice (some ⟨gi, 0, none⟩) x.its.length x.its.length] 59)).cell? ⟨wk.heap.size, 1, none⟩ = some (.int .i64 x.lim) := by rw [World.cell?_alloc_new]; rfl
    have q2 : (wk.alloc (.cells #[.string x.name, .int .i64 x.lim, .int .i64 x.nx, .slice (some ⟨gi, 0, none⟩) x.its.length x.its.length] 59)).cell? ⟨wk.heap.size, 2, none⟩ = some (.int .i64 x.nx) := by rw [World.cell?_alloc_new]; rfl
    have q3 : (wk.alloc (.cells #[.string x.name, .int .i64 x.lim, .int .i64 x.nx, .slice (some ⟨gi, 0, none⟩) x.its.length x.its.length] 59)).cell? ⟨wk.heap.size, 3, none⟩ = some (.slice (some ⟨gi, 0, none⟩) x.its.length x.its.length) := by rw [World.cell?_alloc_new]; rfl
    have hzk1 : w.heap.size + 1 ≤ wk.heap.size := by omega
    have XW := hide ((unhide XK).alloc hzk1 (.cells #[.string x.name, .int .i64 x.lim, .int .i64 x.nx, .slice (some ⟨gi, 0, none⟩) x.its.length x.its.length] 59))
    have BW := hide ((unhide BK).alloc (unhide BK).size (.cells #[.string x.name, .int .i64 x.lim, .int .i64 x.nx, .slice (some ⟨gi, 0, none⟩) x.its.length x.its.length] 59))
    have YW := hide ((unhide hbk).alloc hzk (.cells #[.string x.name, .int .i64 x.lim, .int .i64 x.nx, .slice (some ⟨gi, 0, none⟩) x.its.length x.its.length] 59))
    have d0 := ((bel1 wk (.cells #[.string x.name, .int .i64 x.lim, .int .i64 x.nx, .slice (some ⟨gi, 0, none⟩) x.its.length x.its.length] 59)).cell (block_lt_of_cell d0)).trans d0
    generalize wk.alloc (.cells #[.string x.name, .int .i64 x.lim, .int .i64 x.nx, .slice (some ⟨gi, 0, none⟩) x.its.length x.its.length] 59) = W at q0 q1 q2 q3 XW BW YW d0 ⊢
    clear c0 c1 c2 c3 hxk
    have t1 : W.cell? ⟨w.heap.size, 1, none⟩ = some (.int .i64 nx) := (boxcell (unhide XW) 1).trans (by rw [World.cell?_alloc_new]; rfl)
    have t2 : W.cell? ⟨w.heap.size, 2, none⟩ = some (.int .i64 lim) := (boxcell (unhide XW) 2).trans (by rw [World.cell?_alloc_new]; rfl)
    have cC := fun d os => Calls.regrown_of (unhide HSP (Go.Sort.grow (redrawn W d) os) ((unhide BW).trans ((below_regrown W d os).mono (unhide BW).size)))
    have q0 := cell_regrown q0
    have q1 := cell_regrown q1
    have q2 := cell_regrown q2
    have q3 := cell_regrown q3
    have d0 := cell_regrown d0
    have t1 := cell_regrown t1
    have t2 := cell_regrown t2
    generalize wk.heap.size = pb at q0 q1 q2 q3 hzk1 hzk ⊢
    by_cases hne : x.name = nm
    case neg =>
      have hne' := str_ne hne
      have H := hide (unhide hBP (fun h => hne h.1))
      clear hne
      refine wp_region_quiet_below (unhide HMIX) (by kernel_rfl) ?_
      repeat (go_big_quiet_step (exact cC _ _))
      refine wpQuiet_nil ?_
      intro _ hw'
      obtain ⟨⟨dq, osq⟩, hw''⟩ := hw'
      subst hw''
      have BQ := hide ((unhide BW).trans ((below_regrown W dq osq).mono (unhide BW).size))
      clear q0 q1 q2 q3 d0 t1 t2 cC
      generalize (Go.Sort.grow (redrawn W dq) osq) = v at BQ ⊢
      go_wp2
      go_ret
      exact ⟨ret_bool (unhide H).symm, unhide BQ⟩
    have hne' := str_eq hne
    have HNE := hide hne
    clear hne
    by_cases hli : x.lim = lim
    case neg =>
      have hli2 : (x.lim == lim) = false := by simpa using hli
      have hli3 : (x.lim != lim) = true := by simpa using hli
      have hli4 : decide (x.lim = lim) = false := by simpa using hli
      have H := hide (unhide hBP (fun h => hli h.2.2.1))
      refine wp_region_quiet_below (unhide HMIX) (by kernel_rfl) ?_
      repeat (go_big_quiet_step (exact cC _ _))
      refine wpQuiet_nil ?_
      intro _ hw'
      obtain ⟨⟨dq, osq⟩, hw''⟩ := hw'
      subst hw''
      have BQ := hide ((unhide BW).trans ((below_regrown W dq osq).mono (unhide BW).size))
      clear q0 q1 q2 q3 d0 t1 t2 cC
      generalize (Go.Sort.grow (redrawn W dq) osq) = v at BQ ⊢
      go_wp2
      go_ret
      exact ⟨ret_bool (unhide H).symm, unhide BQ⟩
    have hli2 : (x.lim == lim) = true := by simpa using hli
    have hli3 : (x.lim != lim) = false := by simpa using hli
    have hli4 : decide (x.lim = lim) = true := by simpa using hli
    have HLI := hide hli
    clear hli
    by_cases hnx : nx < x.nx
    · have hnx2 : decide (nx < x.nx) = true := by simpa using hnx
      have H := hide (unhide hBP (fun h => by have := h.2.2.2; omega))
      refine wp_region_quiet_below (unhide HMIX) (by kernel_rfl) ?_
      repeat (go_big_quiet_step (exact cC _ _))
      refine wpQuiet_nil ?_
      intro _ hw'
      obtain ⟨⟨dq, osq⟩, hw''⟩ := hw'
      subst hw''
      have BQ := hide ((unhide BW).trans ((below_regrown W dq osq).mono (unhide BW).size))
      clear q0 q1 q2 q3 d0 t1 t2 cC
      generalize (Go.Sort.grow (redrawn W dq) osq) = v at BQ ⊢
      go_wp2
      go_ret
      exact ⟨ret_bool (unhide H).symm, unhide BQ⟩
    have hnx2 : decide (nx < x.nx) = false := by simpa using hnx
    cases gs
    · have H := hide (unhide hBP (fun h => by have := h.2.1; simp at this))
      refine wp_region_quiet_below (unhide HMIX) (by kernel_rfl) ?_
      repeat (go_big_quiet_step (exact cC _ _))
      refine wpQuiet_nil ?_
      intro _ hw'
      obtain ⟨⟨dq, osq⟩, hw''⟩ := hw'
      subst hw''
      have BQ := hide ((unhide BW).trans ((below_regrown W dq osq).mono (unhide BW).size))
      clear q0 q1 q2 q3 d0 t1 t2 cC
      generalize (Go.Sort.grow (redrawn W dq) osq) = v at BQ ⊢
      go_wp2
      go_ret
      exact ⟨ret_bool (unhide H).symm, unhide BQ⟩
    have HPB := hide ((unhide hPL).2 ⟨unhide HNE, rfl, unhide HLI, by omega⟩)
    have HST : Hid (∀ i, i < k + 1 → plB C i = true) := fun i hi => if e : i = k then (e ▸ unhide HPB) else unhide hst i (by omega)
    clear hBP hPL HPB
    refine wp_region_quiet_below (unhide HMIX) (by kernel_rfl) ?_
    repeat (go_big_quiet_step (exact cC _ _))
    refine wpQuiet_nil ?_
    intro _ hw'
    obtain ⟨⟨dq, osq⟩, hw''⟩ := hw'
    subst hw''
    have YQ := hide ((unhide YW).trans ((below_regrown W dq osq).mono (unhide YW).size))
    clear q0 q1 q2 q3 d0 t1 t2 cC
    generalize (Go.Sort.grow (redrawn W dq) osq) = v at YQ ⊢
    go_wp2
    go_roundw
    case rel => exact ⟨k + 1, by omega, by go_num, HST, YQ⟩
    case measure => simp [intOf]; omega
end Clus
end Go.Proofs.YtkodgbalhnbhcaaGreatDoor
/-
  The program's goodKeeping: it answers by the plain function, for every cluster that a call has laid itself whose places are good.
-/
namespace Go.Proofs.YtkodgbalhnbhcaaGreatDoor
namespace Clus
open Go.RowKit Base GoodKey Items Store Plc Keep Marks Go.Maps
set_option linter.unusedVariables false

set_option maxRecDepth 10000 in
set_option maxHeartbeats 4000000 in
theorem keep_impl (now nx lim lost : Int) (b1 b2 b3 : Nat) (ns cs : List Nodes.D) (L : List Pls.Pl) (w : World) (hR : CR w b1 b2 b3 ns cs L) (h1 : NodesM.gnB ns = true) (h2 : cs = [] ∨ NodesM.gnB cs = true) (lp : L.length ≤ 16) (fp : ∀ x ∈ L, Pls.Fits x) (hg : ∀ k, k < L.length → gsB (L.getD k Pls.zeroL).lim (L.getD k Pls.zeroL).nx (L.getD k Pls.zeroL).its = true) (hv : Ring.Vars w) :
    Calls Tryz.prog 66 #[.agg #[.int .i64 now, .int .i64 nx, .int .i64 lim, .int .i64 lost, .slice (some ⟨b1, 0, none⟩) ns.length ns.length, .slice (some ⟨b2, 0, none⟩) cs.length cs.length, .slice (some ⟨b3, 0, none⟩) L.length L.length]] w fun e w' => e = .returned (.bool (keepB ⟨now, nx, lim, lost, ns, cs, L.map Pls.core⟩)) ∧ Below w.heap.size w w' := by
  obtain ⟨C, hC⟩ : ∃ C : CC, C = ⟨now, nx, lim, lost, ns, cs, L.map Pls.core⟩ := ⟨_, rfl⟩
  rw [← hC]
  have hCL : C.ps = L.map Pls.core := by rw [hC]
  have hmix : Tryz.prog.follows .mixedOrders = true := by kernel_rfl
  have HMIX := hide hmix
  have HR := hide hR
  have HFP := hide fp
  have HGS := hide hg
  have h3 := goal_good h1 h2
  have HRG := hide (fun w' (hb : Below w.heap.size w w') => rings_any now nx lim lost b1 b2 b3 ns cs L w' (hR.below hb (Nat.le_refl _)) h1 h2 (hv.below hb))
  have HKB := hide (fun k q => @keep_bad C L k q hCL)
  have HKE := hide (@keep_end C L hCL)
  have e3 : C.ns = ns := by rw [hC]
  have e4 : C.cs = cs := by rw [hC]
  rw [e3, e4] at HKB HKE
  have p1 := Ring.points_pos h1
  have p2 := Ring.points_len h1
  have p3 := Ring.points_pos h3
  have p4 := Ring.points_len h3
  have HOF := hide (fun (g c : Nat) (key : ByteArray) w' hr hk => Ring.ownerIn_some g c (Ring.points ns).length (Ring.ring (Ring.points ns)) key w' hr (Ring.ring_length _) (by omega) (by omega) (Ring.ring_sorted _) hk)
  have HOT := hide (fun (g c : Nat) (key : ByteArray) w' hr hk => Ring.ownerIn_some g c (Ring.points (goal ns cs)).length (Ring.ring (Ring.points (goal ns cs))) key w' hr (Ring.ring_length _) (by omega) (by omega) (Ring.ring_sorted _) hk)
  have HOO : Hid (∀ key, Ring.ownerN (Ring.ring (Ring.points ns)) (Hash.hashN key.data.toList) = own ns key) := fun _ => rfl
  have HOP : Hid (∀ key, Ring.ownerN (Ring.ring (Ring.points (goal ns cs))) (Hash.hashN key.data.toList) = own (goal ns cs) key) := fun _ => rfl
  clear e3 e4 hCL fp hg hmix hC hR h1 h2 h3 hv p1 p3
  generalize (Ring.points ns).length = n1 at HRG HOF p2
  generalize (Ring.points (goal ns cs)).length = n2 at HRG HOT p4
  generalize Ring.ring (Ring.points ns) = R1 at HRG HOF HOO
  generalize Ring.ring (Ring.points (goal ns cs)) = R2 at HRG HOT HOP
  have hmm := @run_makeMap Tryz.prog
  go_enter Tryz.func66, Tryz.ntmps66
  go_wp2_with fail
  refine (unhide HRG _ (bel1 w _)).mono ?_
  rintro e w1 ⟨g1, c1, g2, c2, rfl, hr1, hr2, hb1⟩
  simp only [World.size_alloc] at hb1
  have B1 := hide ((bel1 w _).trans (hb1.mono (by omega)))
  have X1 := hide hb1
  have hz1 : w.heap.size + 1 ≤ w1.heap.size := by have := hb1.size; simp at this; omega
  have S1 := hide hr1
  have S2 := hide hr2
  have hx1 := boxcell hb1
  have HCF := hide (fun (key : ByteArray) w' (hb : Below w1.heap.size w1 w') hk => unhide HOF g1 c1 key w' ((unhide S1).below hb (unhide S1).lt) hk)
  have HCT := hide (fun (key : ByteArray) w' (hb : Below w1.heap.size w1 w') hk => unhide HOT g2 c2 key w' ((unhide S2).below hb (unhide S2).lt) hk)
  have hgl1 := (unhide S1).lt
  have hgl2 := (unhide S2).lt
  have M1 : Hid (((w1.alloc (.map #[] 0)).alloc (.map #[] 0)).ownsMap Tryz.prog 9 (unitElem (H := Unit)) w1.heap.size 0 (Maps.setOf (.agg []) (([] : List Itm).map kL))) := (World.ownsMap_made w1 Tryz.prog 9 (unitElem (H := Unit))).alloc _
  have M2 : Hid (((w1.alloc (.map #[] 0)).alloc (.map #[] 0)).ownsMap Tryz.prog 3 (unitElem (H := Unit)) (w1.heap.size + 1) 0 (Maps.setOf (.agg []) (([] : List Itm).map tL))) := by
    have h := World.ownsMap_made (w1.alloc (.map #[] 0)) Tryz.prog 3 (unitElem (H := Unit))
    rw [World.size_alloc] at h
    exact h
  have BM : Hid (Below w1.heap.size w1 ((w1.alloc (.map #[] 0)).alloc (.map #[] 0))) := ((Below.refl _ _).alloc (Nat.le_refl _) _).alloc (by simp) _
  have hbw1 : w.heap.size < w1.heap.size := by omega
  clear hb1 hr1 hr2 HOF HOT HRG S1 S2
  go_wp2
  clear hx1 hmm
  go_loopw [7, 22] (fun mv iv wr => ∃ (k n : Nat), k ≤ L.length ∧ iv = .int .i64 (k : Int) ∧ mv = .int .i64 (n : Int) ∧ n ≤ k * 60 ∧ Hid (n = (fl L k).length) ∧ Hid (∀ j, j < k → ∀ q, q < (L.getD j Pls.zeroL).its.length → homeB ns cs (L.getD j Pls.zeroL).name ((L.getD j Pls.zeroL).its.getD q zero) = true) ∧
      Hid (wr.ownsMap Tryz.prog 9 (unitElem (H := Unit)) w1.heap.size n (Maps.setOf (.agg []) ((fl L k).map kL))) ∧ Hid (wr.ownsMap Tryz.prog 3 (unitElem (H := Unit)) (w1.heap.size + 1) n (Maps.setOf (.agg []) ((fl L k).map tL))) ∧ Hid (Below w1.heap.size w1 wr)) (fun _ iv _ => L.length - (intOf iv).toNat)
  case atStart => exact ⟨0, 0, Nat.zero_le _, rfl, rfl, Nat.zero_le _, hide (by simp [fl]), hide (fun j hj => absurd hj (by omega)), M1, M2, BM⟩
  case round =>
    obtain ⟨k, n, hk, rfl, rfl, hn60, hn, hho, hmk, hmt, hbk⟩ := hrel
    obtain ⟨wk, hname⟩ : ∃ v, v = wr := ⟨_, rfl⟩
    subst hname
    have hzk := (unhide hbk).size
    have hzt : w1.heap.size + 1 < wk.heap.size := (unhide hmt).lt
    have BK := hide ((unhide B1).trans ((unhide hbk).mono (unhide B1).size))
    by_cases hlt : k < L.length
    case neg =>
      obtain rfl : k = L.length := by omega
      have H := hide (unhide HKE (unhide hho))
      rw [← unhide hn] at H
      generalize Maps.setOf (.agg []) ((fl L L.length).map kL) = Dk at H hmk
      generalize Maps.setOf (.agg []) ((fl L L.length).map tL) = Dt at H hmt
      have hlk := fun ty => (unhide hmk).len Tryz.underlying134 ty
      have hlt' := fun ty => (unhide hmt).len Tryz.underlying135 ty
      generalize Maps.size Dk = nk at H hlk
      generalize Maps.size Dt = nt at H hlt'
      clear hmk hmt hn hho
      by_cases a1 : (nk : Int) = (n : Int)
      · have a2 : ((nk : Int) == (n : Int)) = true := by simpa using a1
        have a3 := decide_eq_true a1
        by_cases d1 : (nt : Int) = (n : Int)
        · have d2 : ((nt : Int) == (n : Int)) = true := by simpa using d1
          have d3 := decide_eq_true d1
          rw [a3, d3] at H
          clear a1 d1
          go_wp2
          go_ret
          exact ⟨ret_bool (unhide H).symm, unhide BK⟩
        · have d2 : ((nt : Int) == (n : Int)) = false := by simpa using d1
          have d3 := decide_eq_false d1
          rw [a3, d3] at H
          clear a1 d1
          go_wp2
          go_ret
          exact ⟨ret_bool (unhide H).symm, unhide BK⟩
      · have a2 : ((nk : Int) == (n : Int)) = false := by simpa using a1
        have a3 := decide_eq_false a1
        rw [a3] at H
        clear a1
        go_wp2
        go_ret
        exact ⟨ret_bool (unhide H).symm, unhide BK⟩
    have XK := hide ((unhide X1).trans ((unhide hbk).mono hz1))
    obtain ⟨c0, c1', c2', c3⟩ := Pls.lcell_at ((unhide HR).below (unhide BK) (Nat.le_refl _)).p.row k hlt
    rw [Nat.zero_add] at c0 c1' c2' c3
    have HSTR := hide (fun w' (hb : Below w.heap.size w w') => ((unhide HR).below hb (Nat.le_refl _)).p.str k hlt)
    have HFK := hide (unhide HFP _ (Pls.getD_mem hlt))
    have hi60 := (gs_item (unhide HGS k hlt)).1
    have HIT := hide (gs_item (unhide HGS k hlt)).2
    have hKB := hide (fun q => unhide HKB k q hlt)
    have HFL := hide (fl_succ hlt)
    have HHO : Hid (∀ y, L.getD k Pls.zeroL = y → (∀ q, q < y.its.length → homeB ns cs y.name (y.its.getD q zero) = true) → ∀ j, j < k + 1 → ∀ q, q < (L.getD j Pls.zeroL).its.length → homeB ns cs (L.getD j Pls.zeroL).name ((L.getD j Pls.zeroL).its.getD q zero) = true) := fun y e h j hj => if ej : j = k then (by rw [ej, e]; exact h) else unhide hho j (by omega)
    have HHO := hide (unhide HHO _ rfl)
    generalize L.getD k Pls.zeroL = x at c0 c1' c2' c3 HSTR HFK hi60 HIT hKB HFL HHO
    have ha := (unhide HSTR w (Below.refl _ _)).1
    have hca := (unhide HSTR w (Below.refl _ _)).2.2
    rw [ha, hca] at c3
    clear ha hca hho
    generalize hgi : Pls.blk x = gi at c3
    have HBK := hide hgi
    clear hgi
    go_wp2_with fail
    have q0 : (wk.alloc (.cells #[.string x.name, .int .i64 x.lim, .int .i64 x.nx, .slice (some ⟨gi, 0, none⟩) x.its.length x.its.length] 59)).cell? ⟨wk.heap.size, 0, none⟩ = some (.string x.name) := by rw [World.cell?_alloc_new]; rfl
    have MK := hide ((unhide hmk).alloc (.cells #[.string x.name, .int .i64 x.lim, .int .i64 x.nx, .slice (some ⟨gi, 0, none⟩) x.its.length x.its.length] 59))
    have MT := hide ((unhide hmt).alloc (.cells #[.string x.name, .int .i64 x.lim, .int .i64 x.nx, .slice (some ⟨gi, 0, none⟩) x.its.length x.its.length] 59))
    have BW := hide ((unhide hbk).alloc hzk (.cells #[.string x.name, .int .i64 x.lim, .int .i64 x.nx, .slice (some ⟨gi, 0, none⟩) x.its.length x.its.length] 59))
    have EL : Hid (fl L k = fl L k ++ x.its.take 0) := hide (by simp)
    rw [unhide EL] at MK MT hn
    clear EL
    have hzW : wk.heap.size < (wk.alloc (.cells #[.string x.name, .int .i64 x.lim, .int .i64 x.nx, .slice (some ⟨gi, 0, none⟩) x.its.length x.its.length] 59)).heap.size := by simp
    generalize wk.alloc (.cells #[.string x.name, .int .i64 x.lim, .int .i64 x.nx, .slice (some ⟨gi, 0, none⟩) x.its.length x.its.length] 59) = W at q0 MK MT BW hzW ⊢
    clear c0 c1' c2' c3 hmk hmt hbk XK BK
    generalize wk.heap.size = pb at q0 hzW hzk hzt ⊢
    have P0 := hide q0
    clear q0
    go_loopw [7, 30] (fun mv iv wr => ∃ (q n : Nat), q ≤ x.its.length ∧ iv = .int .i64 (q : Int) ∧ mv = .int .i64 (n : Int) ∧ n ≤ k * 60 + q ∧ Hid (n = (fl L k ++ x.its.take q).length) ∧ Hid (∀ r, r < q → homeB ns cs x.name (x.its.getD r zero) = true) ∧
      Hid (wr.ownsMap Tryz.prog 9 (unitElem (H := Unit)) w1.heap.size n (Maps.setOf (.agg []) ((fl L k ++ x.its.take q).map kL))) ∧ Hid (wr.ownsMap Tryz.prog 3 (unitElem (H := Unit)) (w1.heap.size + 1) n (Maps.setOf (.agg []) ((fl L k ++ x.its.take q).map tL))) ∧ Hid (wr.cell? ⟨pb, 0, none⟩ = some (.string x.name)) ∧ Hid (Below w1.heap.size w1 wr)) (fun _ iv _ => x.its.length - (intOf iv).toNat)
    case atStart => exact ⟨0, n, Nat.zero_le _, rfl, rfl, by omega, hn, hide (fun r hr => absurd hr (by omega)), MK, MT, P0, BW⟩
    case round =>
      obtain ⟨q, n, hq, rfl, rfl, hnq, hn, hhr, hmk, hmt, hpc, hbq⟩ := hrel
      obtain ⟨wq, hname⟩ : ∃ v, v = wr := ⟨_, rfl⟩
      subst hname
      have hzq := (unhide hbq).size
      by_cases hql : q < x.its.length
      case neg =>
        obtain rfl : q = x.its.length := by omega
        rw [List.take_length, ← unhide HFL] at hn hmk hmt
        have HH := hide (unhide HHO (unhide hhr))
        go_wp2
        go_roundw
        case rel => exact ⟨k + 1, n, by omega, by go_num, rfl, by omega, hn, HH, hmk, hmt, hbq⟩
        case measure => simp [intOf]; omega
      have BQ := hide ((unhide B1).trans ((unhide hbq).mono (unhide B1).size))
      obtain ⟨e0, e1, e2, e3, e4⟩ := Items.at_row (unhide HSTR wq (unhide BQ)).2.1 q hql
      rw [Nat.zero_add, unhide HBK] at e0 e1 e2 e3 e4
      have HFI := hide (Items.fits_getD (unhide HFK).2.2.2 q hql)
      have HIB := hide (unhide HIT q hql)
      have hKB1 := hide (unhide hKB q hql)
      have HTI := hide (take_it hql (fl L k))
      have HHR : Hid (∀ y, x.its.getD q zero = y → homeB ns cs x.name y = true → ∀ r, r < q + 1 → homeB ns cs x.name (x.its.getD r zero) = true) := fun y e h r hr => if er : r = q then (by rw [er, e]; exact h) else unhide hhr r (by omega)
      have HHR := hide (unhide HHR _ rfl)
      generalize x.its.getD q zero = it at e0 e1 e2 e3 e4 HFI HIB hKB1 HTI HHR
      rw [home_goal] at hKB1 HHR
      have hOF := fun w' (hb : Below w1.heap.size w1 w') => unhide HCF it.key w' hb (unhide HFI).1
      have hOT := fun w' (hb : Below w1.heap.size w1 w') => unhide HCT it.key w' hb (unhide HFI).1
      rw [unhide HOO] at hOF
      rw [unhide HOP] at hOT
      generalize own ns it.key = o1 at hOF hKB1 HHR
      generalize own (goal ns cs) it.key = o2 at hOT hKB1 HHR
      have HOF := hide hOF
      have HOT := hide hOT
      clear hOF hOT
      have p0 := unhide hpc
      go_wp2_with fail
      have i0 : (wq.alloc (.cells #[.string it.key, .int .i64 it.flags, .string it.data, .int .i64 it.upto, .int .i64 it.token] 85)).cell? ⟨wq.heap.size, 0, none⟩ = some (.string it.key) := by rw [World.cell?_alloc_new]; rfl
      have i4 : (wq.alloc (.cells #[.string it.key, .int .i64 it.flags, .string it.data, .int .i64 it.upto, .int .i64 it.token] 85)).cell? ⟨wq.heap.size, 4, none⟩ = some (.int .i64 it.token) := by rw [World.cell?_alloc_new]; rfl
      have MK := hide ((unhide hmk).alloc (.cells #[.string it.key, .int .i64 it.flags, .string it.data, .int .i64 it.upto, .int .i64 it.token] 85))
      have MT := hide ((unhide hmt).alloc (.cells #[.string it.key, .int .i64 it.flags, .string it.data, .int .i64 it.upto, .int .i64 it.token] 85))
      have BU := hide ((unhide hbq).alloc hzq (.cells #[.string it.key, .int .i64 it.flags, .string it.data, .int .i64 it.upto, .int .i64 it.token] 85))
      have p0 : (wq.alloc (.cells #[.string it.key, .int .i64 it.flags, .string it.data, .int .i64 it.upto, .int .i64 it.token] 85)).cell? ⟨pb, 0, none⟩ = some (.string x.name) := ((bel1 wq (.cells #[.string it.key, .int .i64 it.flags, .string it.data, .int .i64 it.upto, .int .i64 it.token] 85)).cell (p := ⟨pb, 0, none⟩) (block_lt_of_cell p0)).trans p0
      have hzU : wq.heap.size < (wq.alloc (.cells #[.string it.key, .int .i64 it.flags, .string it.data, .int .i64 it.upto, .int .i64 it.token] 85)).heap.size := by simp
      have hpq : pb < wq.heap.size := block_lt_of_cell (unhide hpc)
      generalize wq.alloc (.cells #[.string it.key, .int .i64 it.flags, .string it.data, .int .i64 it.upto, .int .i64 it.token] 85) = U at i0 i4 MK MT BU p0 hzU ⊢
      clear e0 e1 e2 e3 e4 hmk hmt hbq hpc BQ
      generalize wq.heap.size = ib at i0 i4 hzU hzq hpq ⊢
      have I0 := hide i0
      have I4 := hide i4
      have P1 := hide p0
      have cF := fun d os => Calls.regrown_of (unhide HOF (Go.Sort.grow (redrawn U d) os) ((unhide BU).trans ((below_regrown U d os).mono (unhide BU).size)))
      have cT := fun d os => Calls.regrown_of (unhide HOT (Go.Sort.grow (redrawn U d) os) ((unhide BU).trans ((below_regrown U d os).mono (unhide BU).size)))
      have i0 := cell_regrown i0
      have p0 := cell_regrown p0
      by_cases hh1 : o1 = x.name
      · have hs1 := str_eq hh1
        have HH2 := hide (unhide HHR (by rw [decide_eq_true hh1]; rfl))
        clear hh1 hKB1 HHR
        refine wp_region_quiet_below (unhide HMIX) (by kernel_rfl) ?_
        clear cT
        repeat (go_big_quiet_step (exact cF _ _))
        refine wpQuiet_nil ?_
        intro _ hw'
        obtain ⟨⟨dq, osq⟩, hw''⟩ := hw'
        subst hw''
        have hbu := below_regrown U dq osq
        clear i0 p0 cF
        generalize (Go.Sort.grow (redrawn U dq) osq) = u at hbu ⊢
        have MK := hide (map_below (unhide MK) hbu (by have := (unhide MK).lt; omega))
        have MT := hide (map_below (unhide MT) hbu (by have := (unhide MT).lt; omega))
        have BU := hide ((unhide BU).trans (hbu.mono (unhide BU).size))
        have i0 : u.cell? ⟨ib, 0, none⟩ = some (.string it.key) := (hbu.cell (p := ⟨ib, 0, none⟩) hzU).trans (unhide I0)
        have i4 : u.cell? ⟨ib, 4, none⟩ = some (.int .i64 it.token) := (hbu.cell (p := ⟨ib, 4, none⟩) hzU).trans (unhide I4)
        have p0 : u.cell? ⟨pb, 0, none⟩ = some (.string x.name) := (hbu.cell (p := ⟨pb, 0, none⟩) (by show pb < U.heap.size; omega)).trans (unhide P1)
        have hzu : U.heap.size ≤ u.heap.size := hbu.size
        have HP := hide p0
        clear hbu p0
        have HKEY : Hid (keyOf Tryz.prog 9 (.string it.key) = some (kL it)) := Go.WideMaps.keyOf_string_mk Tryz.underlying9 (unhide HFI).1
        have HTOK : Hid (keyOf Tryz.prog 3 (.int .i64 it.token) = some (tL it)) := keyOf_int_mk Tryz.underlying3 (WalkArith.wf_i64 (by have := (itemB_iff it).1 (unhide HIB); omega))
        go_wp2_with (at_mapUpdate; go_loud (refine wpList_mapUpdate_in _ rfl _ _ _ 134 rfl 9 137 keyLaw Tryz.underlying134 _ w1.heap.size n _ rfl (unhide MK) (by unfold maxLen; omega) _ _ _ rfl rfl (unhide HKEY) _ [] unitElem_mk ?_))
        intro w5 hown5 hturn5
        have hg5 := hturn5.grown
        have i4 : w5.cell? ⟨ib, 4, none⟩ = some (.int .i64 it.token) := (World.cell?_of_block (a := ⟨ib, 4, none⟩) (hg5.block ib (by omega) (by simp; omega))).trans i4
        have HP5 : Hid (w5.cell? ⟨pb, 0, none⟩ = some (.string x.name)) := (World.cell?_of_block (a := ⟨pb, 0, none⟩) (hg5.block pb (by omega) (by simp; omega))).trans (unhide HP)
        have MK5 := hide hown5
        have MT5 := hide ((unhide MT).kept hg5 (by simp))
        have B5 := hide ((unhide BU).grown hg5 (unhide BU).size (fun j e => by simp at e; omega))
        have hz5 := hg5.size
        clear i0 hg5 hown5 hturn5 MK MT HKEY BU HP
        go_wp2_with (at_mapUpdate; go_loud (refine wpList_mapUpdate_in _ rfl _ _ _ 135 rfl 3 137 tokLaw Tryz.underlying135 _ (w1.heap.size + 1) n _ rfl (unhide MT5) (by unfold maxLen; omega) _ _ _ rfl rfl (unhide HTOK) _ [] unitElem_mk ?_))
        intro w6 hown6 hturn6
        have hg6 := hturn6.grown
        have HP6 : Hid (w6.cell? ⟨pb, 0, none⟩ = some (.string x.name)) := (World.cell?_of_block (a := ⟨pb, 0, none⟩) (hg6.block pb (by omega) (by simp; omega))).trans (unhide HP5)
        have MT6 := hide hown6
        have MK6 := hide ((unhide MK5).kept hg6 (by simp))
        have B6 := hide ((unhide B5).grown hg6 (unhide B5).size (fun j e => by simp at e; omega))
        clear i4 hg6 hown6 hturn6 MK5 MT5 HTOK B5 HP5
        have HN : Hid (n + 1 = (fl L k ++ x.its.take (q + 1)).length) := hide (by rw [unhide HTI, List.length_append, ← unhide hn]; rfl)
        have hwr : IntKind.i64.wrap ((n : Int) + 1) = ((n + 1 : Nat) : Int) := by rw [IntKind.wrap_i64]; omega
        go_wp2
        go_roundw
        case rel =>
          refine ⟨q + 1, n + 1, by omega, by go_num, by first | rfl | go_num, by omega, HN, HH2, ?_, ?_, HP6, B6⟩
          · have h := unhide MK6; rw [unhide HTI, List.map_append, List.map_cons, List.map_nil, setOf_snoc]; refine hide ?_; simpa only [List.map_append, List.map_take] using h
          · have h := unhide MT6; rw [unhide HTI, List.map_append, List.map_cons, List.map_nil, setOf_snoc]; refine hide ?_; simpa only [List.map_append, List.map_take] using h
        case measure => simp [intOf]; omega
      have hs1 := str_ne hh1
      by_cases hh2 : o2 = x.name
      · have hs2 := str_eq hh2
        have HH2 := hide (unhide HHR (by rw [decide_eq_true hh2]; simp))
        clear hh1 hh2 hKB1 HHR
        refine wp_region_quiet_below (unhide HMIX) (by kernel_rfl) ?_
        iterate 5 (go_big_quiet_step (exact cF _ _))
        clear cF
        repeat (go_big_quiet_step (exact cT _ _))
        refine wpQuiet_nil ?_
        intro _ hw'
        obtain ⟨⟨dq, osq⟩, hw''⟩ := hw'
        subst hw''
        have hbu := below_regrown U dq osq
        clear i0 p0 cT
        generalize (Go.Sort.grow (redrawn U dq) osq) = u at hbu ⊢
        have MK := hide (map_below (unhide MK) hbu (by have := (unhide MK).lt; omega))
        have MT := hide (map_below (unhide MT) hbu (by have := (unhide MT).lt; omega))
        have BU := hide ((unhide BU).trans (hbu.mono (unhide BU).size))
        have i0 : u.cell? ⟨ib, 0, none⟩ = some (.string it.key) := (hbu.cell (p := ⟨ib, 0, none⟩) hzU).trans (unhide I0)
        have i4 : u.cell? ⟨ib, 4, none⟩ = some (.int .i64 it.token) := (hbu.cell (p := ⟨ib, 4, none⟩) hzU).trans (unhide I4)
        have p0 : u.cell? ⟨pb, 0, none⟩ = some (.string x.name) := (hbu.cell (p := ⟨pb, 0, none⟩) (by show pb < U.heap.size; omega)).trans (unhide P1)
        have hzu : U.heap.size ≤ u.heap.size := hbu.size
        have HP := hide p0
        clear hbu p0
        have HKEY : Hid (keyOf Tryz.prog 9 (.string it.key) = some (kL it)) := Go.WideMaps.keyOf_string_mk Tryz.underlying9 (unhide HFI).1
        have HTOK : Hid (keyOf Tryz.prog 3 (.int .i64 it.token) = some (tL it)) := keyOf_int_mk Tryz.underlying3 (WalkArith.wf_i64 (by have := (itemB_iff it).1 (unhide HIB); omega))
        go_wp2_with (at_mapUpdate; go_loud (refine wpList_mapUpdate_in _ rfl _ _ _ 134 rfl 9 137 keyLaw Tryz.underlying134 _ w1.heap.size n _ rfl (unhide MK) (by unfold maxLen; omega) _ _ _ rfl rfl (unhide HKEY) _ [] unitElem_mk ?_))
        intro w5 hown5 hturn5
        have hg5 := hturn5.grown
        have i4 : w5.cell? ⟨ib, 4, none⟩ = some (.int .i64 it.token) := (World.cell?_of_block (a := ⟨ib, 4, none⟩) (hg5.block ib (by omega) (by simp; omega))).trans i4
        have HP5 : Hid (w5.cell? ⟨pb, 0, none⟩ = some (.string x.name)) := (World.cell?_of_block (a := ⟨pb, 0, none⟩) (hg5.block pb (by omega) (by simp; omega))).trans (unhide HP)
        have MK5 := hide hown5
        have MT5 := hide ((unhide MT).kept hg5 (by simp))
        have B5 := hide ((unhide BU).grown hg5 (unhide BU).size (fun j e => by simp at e; omega))
        have hz5 := hg5.size
        clear i0 hg5 hown5 hturn5 MK MT HKEY BU HP
        go_wp2_with (at_mapUpdate; go_loud (refine wpList_mapUpdate_in _ rfl _ _ _ 135 rfl 3 137 tokLaw Tryz.underlying135 _ (w1.heap.size + 1) n _ rfl (unhide MT5) (by unfold maxLen; omega) _ _ _ rfl rfl (unhide HTOK) _ [] unitElem_mk ?_))
        intro w6 hown6 hturn6
        have hg6 := hturn6.grown
        have HP6 : Hid (w6.cell? ⟨pb, 0, none⟩ = some (.string x.name)) := (World.cell?_of_block (a := ⟨pb, 0, none⟩) (hg6.block pb (by omega) (by simp; omega))).trans (unhide HP5)
        have MT6 := hide hown6
        have MK6 := hide ((unhide MK5).kept hg6 (by simp))
        have B6 := hide ((unhide B5).grown hg6 (unhide B5).size (fun j e => by simp at e; omega))
        clear i4 hg6 hown6 hturn6 MK5 MT5 HTOK B5 HP5
        have HN : Hid (n + 1 = (fl L k ++ x.its.take (q + 1)).length) := hide (by rw [unhide HTI, List.length_append, ← unhide hn]; rfl)
        have hwr : IntKind.i64.wrap ((n : Int) + 1) = ((n + 1 : Nat) : Int) := by rw [IntKind.wrap_i64]; omega
        go_wp2
        go_roundw
        case rel =>
          refine ⟨q + 1, n + 1, by omega, by go_num, by first | rfl | go_num, by omega, HN, HH2, ?_, ?_, HP6, B6⟩
          · have h := unhide MK6; rw [unhide HTI, List.map_append, List.map_cons, List.map_nil, setOf_snoc]; refine hide ?_; simpa only [List.map_append, List.map_take] using h
          · have h := unhide MT6; rw [unhide HTI, List.map_append, List.map_cons, List.map_nil, setOf_snoc]; refine hide ?_; simpa only [List.map_append, List.map_take] using h
        case measure => simp [intOf]; omega
      have hs2 := str_ne hh2
      have H := hide (unhide hKB1 (by rw [decide_eq_false hh1, decide_eq_false hh2]; rfl))
      have BF := hide ((unhide B1).trans ((unhide BU).mono (unhide B1).size))
      clear hh1 hh2 hKB1 HHR
      refine wp_region_quiet_below (unhide HMIX) (by kernel_rfl) ?_
      iterate 5 (go_big_quiet_step (exact cF _ _))
      clear cF
      repeat (go_big_quiet_step (exact cT _ _))
      refine wpQuiet_nil ?_
      intro _ hw'
      obtain ⟨⟨dq, osq⟩, hw''⟩ := hw'
      subst hw''
      have BF := hide ((unhide BF).trans ((below_regrown U dq osq).mono (unhide BF).size))
      clear i0 p0 cT
      generalize (Go.Sort.grow (redrawn U dq) osq) = u at BF ⊢
      go_wp2
      go_ret
      exact ⟨ret_bool (unhide H).symm, unhide BF⟩
end Clus
end Go.Proofs.YtkodgbalhnbhcaaGreatDoor
