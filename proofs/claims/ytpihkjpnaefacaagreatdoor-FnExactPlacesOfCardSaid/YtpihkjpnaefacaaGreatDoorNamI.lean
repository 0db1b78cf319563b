/-
  The program's placeNames: the names of all nodes, rising, each once.
-/
import Derived.Test.YtpihkjpnaefacaaGreatDoorNamZ
import Derived.Test.YtpihkjpnaefacaaGreatDoorPlcZ
import Derived.Test.YtpihkjpnaefacaaGreatDoorSortC
import Derived.Sort.Grow
namespace Go.Proofs.YtpihkjpnaefacaaGreatDoor
namespace Clus
open Go.RowKit Base Marks Plc
set_option linter.unusedVariables false

theorem enc_toL (b : ByteArray) : encStr (toL b) = .string b := by
  obtain ⟨⟨l⟩⟩ := b
  rfl
theorem holds_row {w : World} {t : TypeId} {g n cap : Nat} {xs : List ByteArray} (h : Keep.Row w t 1 g n cap (StrN.cells xs)) (hn : xs.length = n) : Sort.Holds encStr w g 0 (xs.map toL).toArray := by
  intro j hj
  have hj' : j < xs.length := by simpa using hj
  refine ⟨?_, by rw [Nat.zero_add]; exact h.frozen j⟩
  rw [Nat.zero_add, h.cell (StrN.cells_get xs j hj')]
  have e : (xs.map toL).toArray[j]! = toL (xs.getD j ByteArray.empty) := by simp [hj', List.getD_eq_getElem?_getD]
  rw [e, enc_toL]
theorem below_put {α : Type} [Inhabited α] (enc : α → Value) (w : World) (n g off B : Nat) (d : Array α) (os : Array Obj) (hg : B ≤ g) (hB : B ≤ w.heap.size) : Below B w (Sort.grow (Sort.putRow enc (Sort.ahead w n) g off d) os) := by
  refine ⟨rfl, rfl, rfl, by simp, fun k hk => ?_⟩
  show ((w.heap.modify g _) ++ os)[k]? = w.heap[k]?
  rw [Array.getElem?_append_left (by simp; omega), Array.getElem?_modify, if_neg (by omega)]
theorem sort_any (g cap B : Nat) (xs : List ByteArray) (w : World) (h : Keep.Row w 9 1 g xs.length cap (StrN.cells xs)) (hg : B ≤ g) (hl : xs.length ≤ 1000) :
    Calls Tryz.prog 113 #[.slice (some ⟨g, 0, none⟩) xs.length cap] w fun e w' =>
      e = .returned (.tuple #[]) ∧ Sort.Holds encStr w' g 0 ((xs.map toL).mergeSort fun x y => decide (x ≤ y)).toArray ∧ Below B w w' := by
  have hlt := h.lt
  have hs := Tryz.slices_Sort_string g 0 cap (xs.map toL) w (holds_row h rfl) hlt (by simp; omega)
  rw [List.length_map] at hs
  refine hs.mono ?_
  rintro e w' ⟨rfl, n, os, rfl⟩
  refine ⟨rfl, ?_, below_put _ _ _ _ _ _ _ _ hg (by omega)⟩
  exact Sort.holds_grow _ _ _ _ _ _ (by simpa using hlt) (Sort.holds_putRow _ _ _ _ (xs.map toL).toArray _ (Sort.holds_ahead _ _ _ _ _ _ (holds_row h rfl)) (by simp))
theorem compact_any (g cap B : Nat) (xs : List ByteArray) (w : World) (h : Sort.Holds encStr w g 0 ((xs.map toL).mergeSort fun x y => decide (x ≤ y)).toArray) (hc : xs.length ≤ cap) (hg : B ≤ g) (hB : B ≤ w.heap.size) (hl : xs.length ≤ 1000) :
    Calls Tryz.prog 114 #[.slice (some ⟨g, 0, none⟩) xs.length cap] w fun e w' =>
      e = .returned (.slice (some ⟨g, 0, none⟩) (insAll xs).length cap) ∧ (∀ i, i < (insAll xs).length → w'.cell? ⟨g, i, none⟩ = some (.string ((insAll xs).getD i ByteArray.empty))) ∧ Below B w w' := by
  have hlen : ((xs.map toL).mergeSort fun x y => decide (x ≤ y)).length = xs.length := by simp
  have hs := Tryz.slices_Compact_string g 0 cap _ w h (by rw [hlen]; omega) (by rw [hlen]; exact hc)
  have hl2 : (insAll xs).length ≤ xs.length := insAll_len xs
  rw [hlen, sort_names, List.length_map] at hs
  refine hs.mono ?_
  rintro e w' ⟨rfl, q, rfl⟩
  refine ⟨rfl, fun i hi => ?_, ?_⟩
  · have hc := Sort.cell?_putRow encStr (Sort.ahead w q) g 0 _ ((insAll xs).map toL ++ List.replicate (xs.length - (insAll xs).length) []).toArray (Sort.holds_ahead encStr w q g 0 _ h) (by simp; omega) i (by simp; omega)
    rw [Nat.zero_add] at hc
    rw [hc]
    have e : ((insAll xs).map toL ++ List.replicate (xs.length - (insAll xs).length) []).toArray[i]! = toL ((insAll xs).getD i ByteArray.empty) := by
      have hi' : i < ((insAll xs).map toL).length := by simpa using hi
      simp [List.getElem?_append_left hi', List.getD_eq_getElem?_getD, hi]
    rw [e, enc_toL]
  · have := below_put encStr w q g 0 B ((insAll xs).map toL ++ List.replicate (xs.length - (insAll xs).length) []).toArray #[] hg hB
    rw [Sort.grow_empty] at this
    exact this
theorem concat_ns (tb b1 b2 : Nat) (ns cs : List Nodes.D) (w : World) (h0 : w.cell? ⟨tb, 0, none⟩ = some (.slice (some ⟨b1, 0, none⟩) ns.length ns.length)) (h1 : w.cell? ⟨tb, 1, none⟩ = some (.slice (some ⟨b2, 0, none⟩) cs.length cs.length)) (r1 : w.rowIs b1 90 (ns.length * 2) (Nodes.icell ns)) (r2 : w.rowIs b2 90 (cs.length * 2) (Nodes.icell cs)) (l1 : ns.length ≤ 8) (l2 : cs.length ≤ 8) (hp : 0 < ns.length) :
    Calls Tryz.prog 112 #[.slice (some ⟨tb, 0, none⟩) 2 2] w fun e w' => ∃ g cap, e = .returned (.slice (some ⟨g, 0, none⟩) (ns ++ cs).length cap) ∧ Keep.Row w' 90 2 g (ns ++ cs).length cap (nflat (ns ++ cs)) ∧ Below w.heap.size w w' := by
  have h := concat2 tb (fun i => if i = 0 then b1 else b2) (fun i => if i = 0 then ns else cs) w (fun i hi => by
    obtain rfl | rfl : i = 0 ∨ i = 1 := by omega
    · exact h0
    · exact h1) (fun i hi => by
    obtain rfl | rfl : i = 0 ∨ i = 1 := by omega
    · exact r1
    · exact r2) (fun i hi => by
    obtain rfl | rfl : i = 0 ∨ i = 1 := by omega
    · exact l1
    · exact l2) hp
  have e : catN (fun i => if i = 0 then ns else cs) 2 = ns ++ cs := by rw [catN_succ, catN_succ]; simp [catN]
  rw [e] at h
  refine h.mono ?_
  rintro e w' ⟨v, rfl, how, hb⟩
  obtain ⟨g, cap, rfl, hg, hr⟩ := Keep.Row.of_owns how (by simp; omega)
  exact ⟨g, cap, rfl, hr, hb⟩
theorem row_name {w : World} {t : TypeId} {g n cap : Nat} {l : List Nodes.D} (h : Keep.Row w t 2 g n cap (nflat l)) {k : Nat} (hk : k < l.length) : Nodes.At w g (k * 2) (l.getD k Nodes.zero) := by
  refine ⟨?_, ?_⟩
  · rw [h.cell (nflat_get l (k * 2) (by omega)), Nodes.icell, if_pos (by omega), show k * 2 / 2 = k by omega]
  · rw [h.cell (nflat_get l (k * 2 + 1) (by omega)), Nodes.icell, if_neg (by omega), show (k * 2 + 1) / 2 = k by omega]
theorem take_names {l : List Nodes.D} {k : Nat} (hk : k < l.length) : (l.map (·.name)).take (k + 1) = (l.map (·.name)).take k ++ [(l.getD k Nodes.zero).name] := by
  rw [List.take_succ_eq_append_getElem (by simpa using hk)]
  simp [List.getD_eq_getElem?_getD, List.getElem?_eq_getElem hk]

set_option maxRecDepth 10000 in
set_option maxHeartbeats 2000000 in
theorem names_any (now nx lim lost : Int) (b1 b2 b3 : Nat) (ns cs : List Nodes.D) (L : List Pls.Pl) (w : World) (hR : CR w b1 b2 b3 ns cs L) (l1 : ns.length ≤ 8) (l2 : cs.length ≤ 8) (hp : 0 < ns.length) :
    Calls Tryz.prog 84 #[.agg #[.int .i64 now, .int .i64 nx, .int .i64 lim, .int .i64 lost, .slice (some ⟨b1, 0, none⟩) ns.length ns.length, .slice (some ⟨b2, 0, none⟩) cs.length cs.length, .slice (some ⟨b3, 0, none⟩) L.length L.length]] w fun e w' => ∃ g cap, e = .returned (.slice (some ⟨g, 0, none⟩) (insAll (ns.map (·.name) ++ cs.map (·.name))).length cap) ∧ (∀ i, i < (insAll (ns.map (·.name) ++ cs.map (·.name))).length → w'.cell? ⟨g, i, none⟩ = some (.string ((insAll (ns.map (·.name) ++ cs.map (·.name))).getD i ByteArray.empty))) ∧ Below w.heap.size w w' := by
  obtain ⟨i0, hi, hz0, hz1, hz2⟩ := StrN.info_ex
  have HI := hide hi
  have HZ0 := hide hz0
  have HZ1 := hide hz1
  have HZ2 := hide hz2
  have HR := hide hR
  have HCO := hide (fun (tb : Nat) w' h0 h1 (hb : Below w.heap.size w w') => concat_ns tb b1 b2 ns cs w' h0 h1 (hR.below hb (Nat.le_refl _)).n (hR.below hb (Nat.le_refl _)).c l1 l2 hp)
  have HLEN : Hid ((ns ++ cs).length ≤ 16) := by show (ns ++ cs).length ≤ 16; simp; omega
  have HPOS : Hid (0 < (ns ++ cs).length) := by show 0 < (ns ++ cs).length; simp; omega
  have HNM : Hid ((ns ++ cs).map (·.name) = ns.map (·.name) ++ cs.map (·.name)) := hide (List.map_append ..)
  rw [← unhide HNM]
  obtain ⟨l, hall⟩ : ∃ l, l = ns ++ cs := ⟨_, rfl⟩
  rw [← hall] at HCO HLEN HPOS ⊢
  clear hi hz0 hz1 hz2 hR HNM hall
  go_enter Tryz.func84, Tryz.ntmps84
  go_wp2_with fail
  refine (unhide HCO (w.heap.size + 1) _ ?_ ?_ (bel2 w _ _)).mono ?_
  · have e : w.heap.size + 1 = (w.alloc (.cells #[.int .i64 now, .int .i64 nx, .int .i64 lim, .int .i64 lost, .slice (some ⟨b1, 0, none⟩) ns.length ns.length, .slice (some ⟨b2, 0, none⟩) cs.length cs.length, .slice (some ⟨b3, 0, none⟩) L.length L.length] 31)).heap.size := by simp
    rw [e, World.cell?_alloc_new]; rfl
  · have e : w.heap.size + 1 = (w.alloc (.cells #[.int .i64 now, .int .i64 nx, .int .i64 lim, .int .i64 lost, .slice (some ⟨b1, 0, none⟩) ns.length ns.length, .slice (some ⟨b2, 0, none⟩) cs.length cs.length, .slice (some ⟨b3, 0, none⟩) L.length L.length] 31)).heap.size := by simp
    rw [e, World.cell?_alloc_new]; rfl
  rintro e w1 ⟨gn, cn, rfl, hrow, hb1⟩
  have B1 := hide ((bel2 w _ _).trans (hb1.mono (by simp; omega)))
  have ROW := hide hrow
  have hl16 := unhide HLEN
  have hpos := unhide HPOS
  clear hb1 hrow HLEN HPOS HCO
  go_wp2_with fail
  go_loopw [3, 13] (fun nv iv wr => ∃ (k : Nat) (oa : Option Addr) (oc : Nat), k ≤ l.length ∧ iv = .int .i64 (k : Int) ∧ nv = .slice oa k oc ∧ Hid (wr.ownsRow w1.heap.size 9 1 (.slice oa k oc) k (StrN.cells ((l.map (·.name)).take k))) ∧ Hid (Below w1.heap.size w1 wr)) (fun _ iv _ => l.length - (intOf iv).toNat)
  case atStart => exact ⟨0, none, 0, Nat.zero_le _, rfl, rfl, hide (World.ownsRow_nil _ _ _ _), hide (Below.refl _ _)⟩
  case round =>
    obtain ⟨k, oa, oc, hk, rfl, rfl, how, hbk⟩ := hrel
    have hzk := (unhide hbk).size
    by_cases hlt : k < l.length
    · obtain ⟨c0, c1⟩ := (row_name (unhide ROW) hlt).below (unhide hbk) (unhide ROW).lt
      have HST := hide (take_names hlt)
      generalize l.getD k Nodes.zero = nd at c0 c1 HST
      obtain ⟨x, wt⟩ := nd
      dsimp only at c0 c1 HST
      go_wp2_with (at_builtin; go_loud (refine wpList_append_own _ rfl _ _ 35 rfl w1.heap.size 9 i0 _ 1 16 Tryz.underlying35 (unhide HI) (unhide HZ0) (unhide HZ1) (unhide HZ2) rfl (by decide) _ _ _ rfl (((unhide how).alloc _).alloc _) ⟨wr.heap.size + 1, 0, none⟩ 1 1 [.string x] rfl rfl ?c1 (StrN.news_one x) ?c3 ?c4 ?c5 ?_))
      case c3 => unfold maxLen; omega
      case c4 => omega
      case c5 => first | omega | (simp; omega)
      intro v' we hown' hgrow _
      obtain ⟨a5, c5, rfl⟩ := OwnR.own_form hown'
      have O4 : Hid (we.ownsRow w1.heap.size 9 1 (.slice a5 (k + 1) c5) (k + 1) (StrN.cells ((l.map (·.name)).take (k + 1)))) := by
        rw [unhide HST]
        have : StrN.cells ((l.map (·.name)).take k ++ [x]) = StrN.cells ((l.map (·.name)).take k) ++ [.string x] := by simp [StrN.cells]
        rw [this]
        exact hown'
      have C4 := hide ((((unhide hbk).alloc hzk _).alloc (by simp; omega) _).grown hgrow (by simp; omega) (OwnR.own_block (unhide how)))
      clear hown' hgrow how
      go_wp2
      go_roundw
      case rel => exact ⟨k + 1, a5, c5, by omega, by go_num, rfl, O4, C4⟩
      case measure => simp [intOf]; omega
    · obtain rfl : k = l.length := by omega
      obtain ⟨g, cap, hv, hg, hrow⟩ := Keep.Row.of_owns (unhide how) hpos
      simp only [Value.slice.injEq, true_and] at hv
      obtain ⟨rfl, rfl⟩ := hv
      rw [show (l.map (·.name)).take l.length = l.map (·.name) from List.take_of_length_le (by simp)] at hrow
      have hcap : l.length ≤ oc := by obtain ⟨_, _, _, h, _⟩ := hrow; exact h
      have HRW : Hid (Keep.Row wr 9 1 g (l.map (·.name)).length oc (StrN.cells (l.map (·.name)))) := by rw [List.length_map]; exact hrow
      have HSO := hide (sort_any g oc w1.heap.size (l.map (·.name)) wr (unhide HRW) hg (by simp; omega))
      have HCP := hide (fun w2 h (hB : w1.heap.size ≤ w2.heap.size) => compact_any g oc w1.heap.size (l.map (·.name)) w2 h (by simpa using hcap) hg hB (by simp; omega))
      rw [List.length_map] at HSO HCP
      clear hrow how HRW ROW hlt
      go_wp2_with fail
      refine (unhide HSO).mono ?_
      rintro e w2 ⟨rfl, hh2, hb2⟩
      have B2 := hide ((unhide hbk).trans hb2)
      have H2 := hide hh2
      clear hh2 hb2 HSO
      go_wp2_with fail
      refine (unhide HCP _ (unhide H2) (unhide B2).size).mono ?_
      rintro e w3 ⟨rfl, hh3, hb3⟩
      have B3 := hide ((unhide B1).trans (((unhide B2).trans hb3).mono (unhide B1).size))
      have H3 := hide hh3
      clear hh3 hb3 H2 HCP
      go_wp2
      go_ret
      exact ⟨g, oc, rfl, unhide H3, unhide B3⟩
end Clus
end Go.Proofs.YtpihkjpnaefacaaGreatDoor
