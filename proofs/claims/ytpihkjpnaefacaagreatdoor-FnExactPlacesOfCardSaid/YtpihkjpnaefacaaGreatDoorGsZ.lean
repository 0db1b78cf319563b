/-
  The program's goodItem: what it answers, by the plain function.
-/
import Derived.Test.YtpihkjpnaefacaaGreatDoorStoreZ
import Derived.Test.YtpihkjpnaefacaaGreatDoorGoodKeyC
import Derived.Test.YtpihkjpnaefacaaGreatDoorStoreY
import Derived.Test.YtpihkjpnaefacaaGreatDoorKeep
namespace Go.Proofs.YtpihkjpnaefacaaGreatDoor
namespace Store
open Go.RowKit Base GoodKey Items
set_option linter.unusedVariables false

theorem itemB_iff (x : Itm) : itemB x = true ↔ gk x.key.data.toList = true ∧ 0 ≤ x.flags ∧ x.flags ≤ 1000000000 ∧ (x.data.size : Int) ≤ 100 ∧ 0 ≤ x.upto ∧ x.upto ≤ 2000000000 ∧ 1 ≤ x.token ∧ x.token ≤ 1000000000 := by
  simp only [itemB, inB, Bool.and_eq_true, decide_eq_true_eq]
  constructor
  · rintro ⟨⟨⟨⟨a, b, c⟩, d⟩, e, f⟩, g, h⟩
    exact ⟨a, b, c, d, e, f, g, h⟩
  · rintro ⟨a, b, c, d, e, f, g, h⟩
    exact ⟨⟨⟨⟨a, b, c⟩, d⟩, e, f⟩, g, h⟩
theorem item_no {x : Itm} (h : ¬ (gk x.key.data.toList = true ∧ 0 ≤ x.flags ∧ x.flags ≤ 1000000000 ∧ (x.data.size : Int) ≤ 100 ∧ 0 ≤ x.upto ∧ x.upto ≤ 2000000000 ∧ 1 ≤ x.token ∧ x.token ≤ 1000000000)) : false = itemB x := by
  cases e : itemB x
  · rfl
  · exact absurd ((itemB_iff x).1 e) h
theorem item_yes {x : Itm} (h : gk x.key.data.toList = true ∧ 0 ≤ x.flags ∧ x.flags ≤ 1000000000 ∧ (x.data.size : Int) ≤ 100 ∧ 0 ≤ x.upto ∧ x.upto ≤ 2000000000 ∧ 1 ≤ x.token) : decide (x.token ≤ 1000000000) = itemB x := by
  rw [Bool.eq_iff_iff, itemB_iff, decide_eq_true_eq]
  exact ⟨fun e => ⟨h.1, h.2.1, h.2.2.1, h.2.2.2.1, h.2.2.2.2.1, h.2.2.2.2.2.1, h.2.2.2.2.2.2, e⟩, fun e => e.2.2.2.2.2.2.2⟩

set_option maxRecDepth 10000 in
set_option maxHeartbeats 400000 in
theorem goodItem_any (x : Itm) (w : World) (hs : Fits x) : Calls Tryz.prog 115 #[.agg #[.string x.key, .int .i64 x.flags, .string x.data, .int .i64 x.upto, .int .i64 x.token]] w fun e w' => e = .returned (.bool (itemB x)) ∧ Below w.heap.size w w' := by
  obtain ⟨hk, hd⟩ := hs
  have HK := hide hk
  unfold maxLen at hk hd
  go_enter Tryz.func115, Tryz.ntmps115
  go_wp2_with (go_at_call 50; refine (GoodKey.impl_any _ _ (unhide HK)).mono ?_; rintro e w1 ⟨rfl, rfl⟩)
  all_goals
    go_ret
    refine ⟨ret_bool ?_, bel1 w _⟩
    first
      | exact item_no (fun hh => absurd hh.1 ‹_›)
      | exact item_no (fun hh => by omega)
      | exact item_yes ⟨‹_›, by omega, by omega, by omega, by omega, by omega, by omega⟩
end Store
end Go.Proofs.YtpihkjpnaefacaaGreatDoor
/-
  The program's chargeOfItem and GoodStore: what they answer, by the plain functions. GoodStore fills a set of keys and a set of tokens and compares their sizes.
-/
namespace Go.Proofs.YtpihkjpnaefacaaGreatDoor
namespace Store
open Go.RowKit Base GoodKey Items Keep Go.Maps
set_option linter.unusedVariables false

set_option maxRecDepth 10000 in
set_option maxHeartbeats 400000 in
theorem chargeOf_any (x : Itm) (w : World) (hf : Small x) :
    Calls Tryz.prog 116 #[.agg #[.string x.key, .int .i64 x.flags, .string x.data, .int .i64 x.upto, .int .i64 x.token]] w fun e w' => e = .returned (.int .i64 (charge x)) ∧ Below w.heap.size w w' := by
  obtain ⟨hk, hd⟩ := hf
  go_enter Tryz.func116, Tryz.ntmps116
  go_wp2
  go_ret
  exact ⟨ret_int rfl, bel1 w _⟩

theorem keyLaw : Keyed Tryz.prog 9 := string_keyed Tryz.underlying9
theorem tokLaw : Keyed Tryz.prog 3 := int_keyed Tryz.underlying3

set_option maxRecDepth 10000 in
set_option maxHeartbeats 2000000 in
theorem impl_some (lim nx : Int) (b off cap : Nat) (its : List Itm) (w : World) (hb : b < w.heap.size) (hc : ∀ i, i < its.length → At w b (off + i * 5) (its.getD i zero))
    (hl : its.length ≤ maxLen) (hcap : its.length ≤ cap) (hs : ∀ x ∈ its, Fits x) :
    Calls Tryz.prog 85 #[.agg #[.int .i64 lim, .int .i64 nx, .slice (some ⟨b, off, none⟩) its.length cap]] w fun e w' => e = .returned (.bool (gsB lim nx its)) ∧ Below w.heap.size w w' := by
  unfold maxLen at hl
  have hcs := hide hc
  have hss := hide hs
  clear hc hs
  have hno : inB lim 0 10000 = true → inB nx 1 1000000000 = true → ¬ 60 < (its.length : Int) → True := fun _ _ _ => trivial
  by_cases g1 : inB lim 0 10000 = true
  case neg =>
    have H := hide (gs_1 (nx := nx) (its := its) g1)
    have g1' : lim < 0 ∨ 10000 < lim := by simp [inB] at g1; omega
    clear g1
    rcases g1' with g | g
    all_goals
      go_enter Tryz.func85, Tryz.ntmps85
      go_wp2
      go_ret
      exact ⟨ret_bool (unhide H).symm, bel1 w _⟩
  by_cases g2 : inB nx 1 1000000000 = true
  case neg =>
    have H := hide (gs_2 (lim := lim) (its := its) g2)
    have g2' : nx < 1 ∨ 1000000000 < nx := by simp [inB] at g2; omega
    have g1' : 0 ≤ lim ∧ lim ≤ 10000 := by simp [inB] at g1; omega
    clear g2 g1
    rcases g2' with g | g
    all_goals
      go_enter Tryz.func85, Tryz.ntmps85
      go_wp2
      go_ret
      exact ⟨ret_bool (unhide H).symm, bel1 w _⟩
  have g1' : 0 ≤ lim ∧ lim ≤ 10000 := by simp [inB] at g1; omega
  have g2' : 1 ≤ nx ∧ nx ≤ 1000000000 := by simp [inB] at g2; omega
  by_cases g3 : 60 < (its.length : Int)
  · have H := hide (gs_3 (lim := lim) (nx := nx) g3)
    clear g1 g2
    go_enter Tryz.func85, Tryz.ntmps85
    go_wp2
    go_ret
    exact ⟨ret_bool (unhide H).symm, bel1 w _⟩
  have HG := hide (fun h => @gs_sets lim nx its g1 g2 g3 h (.agg []))
  clear g1 g2
  have hmm := @run_makeMap Tryz.prog
  go_enter Tryz.func85, Tryz.ntmps85
  go_wp2
  go_loopw [5, 29] (fun t i wr => ∃ (k : Nat) (z : Int), k ≤ its.length ∧ 0 ≤ z ∧ z ≤ 60 * 2097162 ∧ i = .int .i64 k ∧ t = .int .i64 z ∧ Hid (z = total (its.take k)) ∧ Hid (∀ j, j < k → okB nx (its.getD j zero) = true) ∧
      Hid (wr.ownsMap Tryz.prog 9 (unitElem (H := Unit)) (w.heap.size + 1) k (Maps.setOf (.agg []) ((its.map kL).take k))) ∧ Hid (wr.ownsMap Tryz.prog 3 (unitElem (H := Unit)) (w.heap.size + 1 + 1) k (Maps.setOf (.agg []) ((its.map tL).take k))) ∧
      Hid (Below (w.heap.size + 1) (w.alloc (.cells #[.int .i64 lim, .int .i64 nx, .slice (some ⟨b, off, none⟩) its.length cap] 59)) wr)) (fun _ i _ => its.length - (intOf i).toNat)
  case atStart =>
    refine ⟨0, 0, Nat.zero_le _, by omega, by omega, rfl, rfl, hide (by simp [total]), hide (fun j hj => absurd hj (Nat.not_lt_zero _)), hide ?_, hide ?_, hide ?_⟩
    · have h := World.ownsMap_made (w.alloc (.cells #[.int .i64 lim, .int .i64 nx, .slice (some ⟨b, off, none⟩) its.length cap] 59)) Tryz.prog 9 (unitElem (H := Unit))
      rw [World.size_alloc] at h
      exact h.alloc _
    · have h := World.ownsMap_made ((w.alloc (.cells #[.int .i64 lim, .int .i64 nx, .slice (some ⟨b, off, none⟩) its.length cap] 59)).alloc (.map #[] 0)) Tryz.prog 3 (unitElem (H := Unit))
      rw [World.size_alloc, World.size_alloc] at h
      exact h
    · exact ((Below.refl _ _).alloc (by simp) _).alloc (by simp) _
  case round =>
    obtain ⟨k, z, hk, hz0, hz1, rfl, rfl, ht, hok, hmk, hmt, hbel⟩ := hrel
    have hB : Hid (Below w.heap.size w wr) := (bel1 w _).trans ((unhide hbel).mono (by omega))
    have hbox := boxcell (unhide hbel)
    have hzw : w.heap.size + 1 + 1 < wr.heap.size := (unhide hmt).lt
    by_cases hlt : k < its.length
    · obtain ⟨c0, c1, c2, c3, c4⟩ := (unhide hcs k hlt).below (unhide hB) hb
      have hfit := hide (fits_getD (unhide hss) k hlt)
      have hbad := hide (@ok_bad lim nx its k hlt)
      have hst := hide (total_step its k hlt)
      have hkk := hide (map_step' kL its k hlt)
      have htt := hide (map_step' tL its k hlt)
      have hkx : its.getD k zero = its.getD k zero := rfl
      have hnext := hide (fun (h : okB nx (its.getD k zero) = true) j (hj : j < k + 1) => if e : j = k then (e ▸ h : okB nx (its.getD j zero) = true) else unhide hok j (by omega))
      generalize hx : its.getD k zero = x at c0 c1 c2 c3 c4 hfit hbad hst hkk htt hnext
      clear hx hkx
      cases hi : itemB x
      · have H := hide (unhide hbad (by simp [okB, hi]))
        have HI := hide hi
        clear hi hbad hnext
        go_wp2_with fail
        refine (goodItem_any x _ (unhide hfit)).mono ?_
        rintro e w1 ⟨rfl, hb1⟩
        rw [unhide HI]
        have hb1 := hide (((unhide hB).alloc (by omega) _).trans (hb1.mono (by simp; omega)))
        go_wp2
        go_ret
        exact ⟨ret_bool (unhide H).symm, unhide hb1⟩
      have HI := hide hi
      have hsm : Hid (Small x) := by
        have := (itemB_iff x).1 hi
        have e1 := this.1
        simp only [gk, inB, Bool.and_eq_true, decide_eq_true_eq] at e1
        have el : x.key.data.toList.length = x.key.size := by simp
        show x.key.size ≤ 1048576 ∧ x.data.size ≤ 1048576
        omega
      clear hi
      go_wp2_with fail
      refine (goodItem_any x _ (unhide hfit)).mono ?_
      rintro e w1 ⟨rfl, hb1⟩
      rw [unhide HI]
      simp only [World.size_alloc] at hb1
      have hB1 := hide (((unhide hbel).alloc (by omega) _).trans (hb1.mono (by omega)))
      have hx1 := boxcell hb1
      have hbx1 := boxcell (unhide hB1)
      have hz1' : wr.heap.size + 1 ≤ w1.heap.size := by have := hb1.size; simp at this; omega
      have hmk1 := hide (map_below ((unhide hmk).alloc _) hb1 (by omega))
      have hmt1 := hide (map_below ((unhide hmt).alloc _) hb1 (by omega))
      clear hb1 hbox
      by_cases g4 : nx ≤ x.token
      · have H := hide (unhide hbad (by simp [okB]; intro _; omega))
        clear hbad hnext
        go_wp2
        go_ret
        exact ⟨ret_bool (unhide H).symm, (bel1 w _).trans ((unhide hB1).mono (by omega))⟩
      have hok1 := hide (unhide hnext (by simp [okB, unhide HI]; omega))
      clear hbad hnext
      have hkey : keyOf Tryz.prog 9 (.string x.key) = some (kL x) := Go.WideMaps.keyOf_string_mk Tryz.underlying9 (unhide hfit).1
      have HKEY := hide hkey
      clear hkey
      go_wp2_with (at_mapUpdate; go_loud (refine wpList_mapUpdate_in _ rfl _ _ _ 112 rfl 9 115 keyLaw Tryz.underlying112 _ (w.heap.size + 1) k _ rfl (unhide hmk1) (by unfold maxLen; omega) _ _ _ rfl rfl (unhide HKEY) _ [] unitElem_mk ?_))
      intro w2 hown2 hturn2
      have hg2 := hturn2.grown
      have hx2 := fun o => (World.cell?_of_block (a := ⟨wr.heap.size, o, none⟩) (hg2.block wr.heap.size (by omega) (by simp; omega))).trans (hx1 o)
      have hbx2 := fun o => (World.cell?_of_block (a := ⟨w.heap.size, o, none⟩) (hg2.block w.heap.size (by omega) (by simp))).trans (hbx1 o)
      have hmk2 := hide hown2
      have hmt2 := hide ((unhide hmt1).kept hg2 (by simp))
      have hB2 := hide ((unhide hB1).grown hg2 (by omega) (fun j e => by simp at e; omega))
      have hz2' : wr.heap.size + 1 ≤ w2.heap.size := by have := hg2.size; omega
      have htok : keyOf Tryz.prog 3 (.int .i64 x.token) = some (tL x) := keyOf_int_mk Tryz.underlying3 (WalkArith.wf_i64 (by have := (itemB_iff x).1 (unhide HI); omega))
      have HTOK := hide htok
      clear hx1 hbx1 hg2 hown2 hturn2 hmk1 hmt1 hB1 hz1' htok HKEY
      go_wp2_with (at_mapUpdate; go_loud (refine wpList_mapUpdate_in _ rfl _ _ _ 113 rfl 3 115 tokLaw Tryz.underlying113 _ (w.heap.size + 1 + 1) k _ rfl (unhide hmt2) (by unfold maxLen; omega) _ _ _ rfl rfl (unhide HTOK) _ [] unitElem_mk ?_))
      intro w3 hown3 hturn3
      have hg3 := hturn3.grown
      have hx3 := fun o => (World.cell?_of_block (a := ⟨wr.heap.size, o, none⟩) (hg3.block wr.heap.size (by omega) (by simp; omega))).trans (hx2 o)
      have hbx3 := fun o => (World.cell?_of_block (a := ⟨w.heap.size, o, none⟩) (hg3.block w.heap.size (by omega) (by simp; omega))).trans (hbx2 o)
      have hmt3 := hide hown3
      have hmk3 := hide ((unhide hmk2).kept hg3 (by simp))
      have hB3 := hide ((unhide hB2).grown hg3 (by omega) (fun j e => by simp at e; omega))
      have hz3' : wr.heap.size + 1 ≤ w3.heap.size := by have := hg3.size; omega
      clear hx2 hbx2 hg3 hown3 hturn3 hmk2 hmt2 hB2 hz2' HTOK
      have hch : 0 ≤ charge x ∧ charge x ≤ 2097162 := by have := unhide hsm; unfold Small at this; unfold charge; omega
      go_wp2_with fail
      refine (chargeOf_any x _ (unhide hsm)).mono ?_
      rintro e w4 ⟨rfl, hb4⟩
      have hmk4 := hide (map_below (unhide hmk3) hb4 (by omega))
      have hmt4 := hide (map_below (unhide hmt3) hb4 (by omega))
      have hB4 := hide ((unhide hB3).trans (hb4.mono (by omega)))
      clear hb4 hx3 hbx3
      have hle := ok_total (show k + 1 ≤ its.length by omega) (by omega) (unhide hok1)
      generalize charge x = c at hst hch
      go_wp2
      go_roundw
      case rel =>
        refine ⟨k + 1, z + c, by omega, by omega, ?_, by go_num, rfl, hide ?_, hok1, ?_, ?_, hB4⟩
        · have := unhide hst; have := unhide ht; omega
        · have := unhide hst; have := unhide ht; omega
        · rw [unhide hkk, setOf_snoc]; exact hmk4
        · rw [unhide htt, setOf_snoc]; exact hmt4
      case measure => simp [intOf]; omega
    · obtain rfl : k = its.length := by omega
      have H := hide (unhide HG (unhide hok))
      have e1 : (its.map kL).take its.length = its.map kL := List.take_of_length_le (by simp)
      have e2 : (its.map tL).take its.length = its.map tL := List.take_of_length_le (by simp)
      rw [e1] at hmk
      rw [e2] at hmt
      have ht' : Hid (z = total its) := by show z = total its; rw [unhide ht, List.take_length]
      clear e1 e2 ht
      generalize Maps.setOf (.agg []) (its.map kL) = Dk at H hmk
      generalize Maps.setOf (.agg []) (its.map tL) = Dt at H hmt
      have hlk := fun ty => (unhide hmk).len Tryz.underlying112 ty
      have hlt' := fun ty => (unhide hmt).len Tryz.underlying113 ty
      generalize Maps.size Dk = nk at H hlk
      generalize Maps.size Dt = nt at H hlt'
      have hfin : Hid (gsB lim nx its = (decide ((nk : Int) = its.length) && decide ((nt : Int) = its.length) && decide (z ≤ lim))) := by
        show gsB lim nx its = _
        rw [unhide H, unhide ht']
      clear H ht'
      go_wp2
      all_goals
        go_ret
        refine ⟨ret_bool ?_, unhide hB⟩
        rw [unhide hfin]
        first
          | rfl
          | (simp [*]; done)
          | (simp_all; done)

end Store
end Go.Proofs.YtpihkjpnaefacaaGreatDoor
