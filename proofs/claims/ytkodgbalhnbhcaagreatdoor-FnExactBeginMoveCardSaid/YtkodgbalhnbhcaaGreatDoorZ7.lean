/-
  Sets of keys and of tokens told by the lists of what was put into them; what a good store is, by them. No Go function is spoken of here.
-/
import Derived.Test.YtkodgbalhnbhcaaGreatDoorZ5
import Derived.Maps.OwnSet
import Derived.Test.YtkodgbalhnbhcaaGreatDoorZ6
import Derived.Test.YtkodgbalhnbhcaaGreatDoorZ1
import Derived.Deep.DeepCutAuto
namespace Go.Proofs.YtkodgbalhnbhcaaGreatDoor
namespace Store
open Go.RowKit Base GoodKey Items
set_option linter.unusedVariables false

def kL (x : Itm) : Lit := .string x.key.data.toList
def tL (x : Itm) : Lit := .int .i64 x.token
theorem kL_key (x : Itm) : WideAt.IsKeyLit (kL x) := by simp [kL, WideAt.IsKeyLit]
theorem tL_key (x : Itm) : WideAt.IsKeyLit (tL x) := by simp [tL, WideAt.IsKeyLit]
theorem keysOf_key {f : Itm → Lit} (hf : ∀ x, WideAt.IsKeyLit (f x)) (its : List Itm) : ∀ l ∈ its.map f, WideAt.IsKeyLit l := by
  intro l hl
  obtain ⟨x, _, rfl⟩ := List.mem_map.1 hl
  exact hf x

theorem size_set (u : DataW Unit) (ls : List Lit) (h : ∀ x ∈ ls, WideAt.IsKeyLit x) : Maps.size (Maps.setOf u ls) ≤ ls.length ∧ (Maps.size (Maps.setOf u ls) = ls.length ↔ ls.Nodup) := by
  obtain ⟨n, hn⟩ : ∃ n, ls.length = n := ⟨_, rfl⟩
  induction n generalizing ls with
  | zero => rw [List.length_eq_zero_iff.1 hn]; simp [Maps.setOf, Maps.size]
  | succ n ih =>
    have hne : ls ≠ [] := by intro e; simp [e] at hn
    obtain ⟨r, y, rfl⟩ : ∃ r y, ls = r ++ [y] := ⟨ls.dropLast, ls.getLast hne, (List.dropLast_concat_getLast hne).symm⟩
    have hr : ∀ x ∈ r, WideAt.IsKeyLit x := fun x hx => h x (List.mem_append_left _ hx)
    obtain ⟨h1, h2⟩ := ih r hr (by simpa using hn)
    rw [Maps.setOf_snoc, Maps.size_put (Maps.tidy_setOf u r hr), Maps.has_setOf u y r hr]
    have hany : (r.any fun x => x.sameKey y) = true ↔ y ∈ r := by
      rw [List.any_eq_true]
      constructor
      · rintro ⟨x, hx, hs⟩
        exact (WideAt.sameKey_eq hs) ▸ hx
      · exact fun hy => ⟨y, hy, WideAt.sameKey_self (hr y hy)⟩
    have hnd : (r ++ [y]).Nodup ↔ r.Nodup ∧ y ∉ r := by
      rw [List.nodup_append]
      constructor
      · rintro ⟨a, _, c⟩
        exact ⟨a, fun hy => c y hy y (by simp) rfl⟩
      · rintro ⟨a, c⟩
        exact ⟨a, by simp, fun z hz t ht => by simp at ht; subst ht; intro e; subst e; exact c hz⟩
    rw [hnd, List.length_append]
    by_cases hy : y ∈ r
    · rw [if_pos (hany.2 hy)]
      simp
      constructor
      · omega
      · constructor
        · intro e; omega
        · intro e; exact absurd hy e.2
    · rw [if_neg (fun e => hy (hany.1 e))]
      simp
      exact ⟨h1, fun e => ⟨h2.1 e, hy⟩, fun e => h2.2 e.1⟩

theorem map_step {α : Type} (f : Itm → α) (its : List Itm) (k : Nat) (h : k < its.length) : (its.take (k + 1)).map f = (its.take k).map f ++ [f (its.getD k zero)] := by
  rw [List.take_succ_eq_append_getElem h, List.map_append]
  simp [List.getD_eq_getElem?_getD, List.getElem?_eq_getElem h]

/-- An item that is good, its token below Next. -/
def okB (nx : Int) (x : Itm) : Bool := itemB x && decide (x.token < nx)
theorem clash_iff (o x : Itm) : clash o x = true ↔ kL o = kL x ∨ tL o = tL x := by
  unfold clash kL tL
  rw [Lib.toList_data, Lib.toList_data]
  simp
theorem fresh_iff (x : Itm) (l : List Itm) : freshB x l = true ↔ kL x ∉ l.map kL ∧ tL x ∉ l.map tL := by
  unfold freshB
  rw [List.all_eq_true]
  simp only [List.mem_map, not_exists, not_and]
  constructor
  · intro h
    refine ⟨fun o ho e => ?_, fun o ho e => ?_⟩
    · have := h o ho
      rw [(clash_iff o x).2 (.inl e)] at this; simp at this
    · have := h o ho
      rw [(clash_iff o x).2 (.inr e)] at this; simp at this
  · rintro ⟨h1, h2⟩ o ho
    cases e : clash o x
    · rfl
    · rcases (clash_iff o x).1 e with e' | e'
      · exact absurd e' (h1 o ho)
      · exact absurd e' (h2 o ho)
theorem goodTo_iff (nx : Int) (its : List Itm) : ∀ k, k ≤ its.length → (goodTo nx its k = true ↔ (∀ i, i < k → okB nx (its.getD i zero) = true) ∧ ((its.take k).map kL).Nodup ∧ ((its.take k).map tL).Nodup)
  | 0, _ => by simp [goodTo]
  | k + 1, h => by
    have ih := goodTo_iff nx its k (by omega)
    have e : goodTo nx its (k + 1) = (goodTo nx its k && stepB nx its k) := by
      unfold goodTo
      rw [List.range_succ, List.all_append]
      simp
    have hnd : ∀ (r : List Lit) (y : Lit), (r ++ [y]).Nodup ↔ r.Nodup ∧ y ∉ r := by
      intro r y
      rw [List.nodup_append]
      constructor
      · rintro ⟨a, _, c⟩
        exact ⟨a, fun hy => c y hy y (by simp) rfl⟩
      · rintro ⟨a, c⟩
        exact ⟨a, by simp, fun z hz t ht => by simp at ht; subst ht; intro e; subst e; exact c hz⟩
    have es : stepB nx its k = (okB nx (its.getD k zero) && freshB (its.getD k zero) (its.take k)) := rfl
    rw [e, es, Bool.and_eq_true, Bool.and_eq_true, ih, map_step kL its k (by omega), map_step tL its k (by omega), hnd, hnd, fresh_iff]
    constructor
    · rintro ⟨⟨h1, h2, h3⟩, h4, h5, h6⟩
      refine ⟨fun i hi => ?_, ⟨h2, h5⟩, h3, h6⟩
      by_cases hik : i = k
      · rw [hik]; exact h4
      · exact h1 i (by omega)
    · rintro ⟨h1, ⟨h2, h5⟩, h3, h6⟩
      exact ⟨⟨fun i hi => h1 i (by omega), h2, h3⟩, h1 k (by omega), h5, h6⟩
theorem ok_bad {lim nx : Int} {its : List Itm} {k : Nat} (hk : k < its.length) (h : okB nx (its.getD k zero) = false) : gsB lim nx its = false := by
  refine gs_4 hk ?_
  have es : stepB nx its k = (okB nx (its.getD k zero) && freshB (its.getD k zero) (its.take k)) := rfl
  rw [es, h]; rfl
theorem ok_small {nx : Int} {x : Itm} (h : okB nx x = true) : Small x := by
  simp only [okB, itemB, gk, inB, Bool.and_eq_true, decide_eq_true_eq] at h
  have el : x.key.data.toList.length = x.key.size := by simp
  unfold Small
  omega
theorem ok_total {nx : Int} {its : List Itm} {k : Nat} (hk : k ≤ its.length) (h60 : k ≤ 60) (h : ∀ j, j < k → okB nx (its.getD j zero) = true) : total (its.take k) ≤ 60 * 2097162 := by
  have h1 := total_bd (its.take k) (fun x hx => by
    obtain ⟨i, hi, rfl⟩ := List.getElem_of_mem hx
    have hi' : i < k := by simp at hi; omega
    have h2 := ok_small (h i hi')
    rw [List.getD_eq_getElem?_getD, List.getElem?_eq_getElem (show i < its.length by omega)] at h2
    simpa using h2)
  have h3 : (its.take k).length ≤ 60 := by simp; omega
  omega
theorem map_step' (f : Itm → Lit) (its : List Itm) (k : Nat) (h : k < its.length) : (its.map f).take (k + 1) = (its.map f).take k ++ [f (its.getD k zero)] := by
  rw [← List.map_take, ← List.map_take]; exact map_step f its k h
/-- What the program's GoodStore says behind its loop. -/
theorem gs_sets {lim nx : Int} {its : List Itm} (h1 : inB lim 0 10000 = true) (h2 : inB nx 1 1000000000 = true) (h3 : ¬ 60 < (its.length : Int)) (h4 : ∀ i, i < its.length → okB nx (its.getD i zero) = true) (u : DataW Unit) :
    gsB lim nx its = (decide ((Maps.size (Maps.setOf u (its.map kL)) : Int) = its.length) && decide ((Maps.size (Maps.setOf u (its.map tL)) : Int) = its.length) && decide (total its ≤ lim)) := by
  have e1 := (size_set u (its.map kL) (keysOf_key kL_key its)).2
  have e2 := (size_set u (its.map tL) (keysOf_key tL_key its)).2
  rw [List.length_map] at e1 e2
  have eg := goodTo_iff nx its its.length (Nat.le_refl _)
  rw [List.take_length] at eg
  have d1 : ∀ c : Bool, (c = true ↔ (its.map kL).Nodup) → decide ((Maps.size (Maps.setOf u (its.map kL)) : Int) = its.length) = c := by
    intro c hc
    rw [Bool.eq_iff_iff, hc, ← e1, decide_eq_true_eq]; omega
  have d2 : ∀ c : Bool, (c = true ↔ (its.map tL).Nodup) → decide ((Maps.size (Maps.setOf u (its.map tL)) : Int) = its.length) = c := by
    intro c hc
    rw [Bool.eq_iff_iff, hc, ← e2, decide_eq_true_eq]; omega
  cases hg : goodTo nx its its.length
  · have hn : ¬ ((its.map kL).Nodup ∧ (its.map tL).Nodup) := fun hh => by rw [eg.2 ⟨h4, hh⟩] at hg; cases hg
    have e3 : gsB lim nx its = false := by unfold gsB; rw [hg]; simp
    rw [e3]
    by_cases n1 : (its.map kL).Nodup
    · rw [d2 false (by simp; exact fun n2 => hn ⟨n1, n2⟩)]; simp
    · rw [d1 false (by simp; exact n1)]; simp
  · obtain ⟨_, n1, n2⟩ := eg.1 hg
    rw [← gs_5 h1 h2 h3 hg, d1 true (by simp; exact n1), d2 true (by simp; exact n2)]; rfl
end Store
end Go.Proofs.YtkodgbalhnbhcaaGreatDoor
/-
  The program's chargeOfItem and GoodStore: what they answer, by the plain functions. GoodStore fills a set of keys and a set of tokens and compares their sizes.
-/
namespace Go.Proofs.YtkodgbalhnbhcaaGreatDoor
namespace Store
open Go.RowKit Base GoodKey Items Keep Go.Maps
set_option linter.unusedVariables false

set_option maxRecDepth 10000 in
set_option maxHeartbeats 400000 in
theorem chargeOf_any (x : Itm) (w : World) (hf : Small x) :
    Calls Tryz.prog 137 #[.agg #[.string x.key, .int .i64 x.flags, .string x.data, .int .i64 x.upto, .int .i64 x.token]] w fun e w' => e = .returned (.int .i64 (charge x)) ∧ Below w.heap.size w w' := by
  obtain ⟨hk, hd⟩ := hf
  go_enter Tryz.func137, Tryz.ntmps137
  go_wp2
  go_ret
  exact ⟨ret_int rfl, bel1 w _⟩

theorem keyLaw : Keyed Tryz.prog 9 := string_keyed Tryz.underlying9
theorem tokLaw : Keyed Tryz.prog 3 := int_keyed Tryz.underlying3

set_option maxRecDepth 10000 in
set_option maxHeartbeats 2000000 in
theorem impl_some (lim nx : Int) (b off cap : Nat) (its : List Itm) (w : World) (hb : b < w.heap.size) (hc : ∀ i, i < its.length → At w b (off + i * 5) (its.getD i zero))
    (hl : its.length ≤ maxLen) (hcap : its.length ≤ cap) (hs : ∀ x ∈ its, Fits x) :
    Calls Tryz.prog 102 #[.agg #[.int .i64 lim, .int .i64 nx, .slice (some ⟨b, off, none⟩) its.length cap]] w fun e w' => e = .returned (.bool (gsB lim nx its)) ∧ Below w.heap.size w w' := by
  unfold maxLen at hl
  have hcs := hide hc
  have hss := hide hs
  clear hc hs
  have hno : inB lim 0 10000 = true → inB nx 1 1000000000 = true → ¬ 60 < (its.length : Int) → True := fun _ _ _ => trivial
  by_cases g1 : inB lim 0 10000 = true
  case neg =>
    have H := hide (gs_1 (nx := nx) (its := its) g1)
    have g1' : lim < 0 ∨ 10000 < lim := by simp [inB] at g1; omega
    clear g1
    rcases g1' with g | g
    all_goals
      go_enter Tryz.func102, Tryz.ntmps102
      go_wp2
      go_ret
      exact ⟨ret_bool (unhide H).symm, bel1 w _⟩
  by_cases g2 : inB nx 1 1000000000 = true
  case neg =>
    have H := hide (gs_2 (lim := lim) (its := its) g2)
    have g2' : nx < 1 ∨ 1000000000 < nx := by simp [inB] at g2; omega
    have g1' : 0 ≤ lim ∧ lim ≤ 10000 := by simp [inB] at g1; omega
    clear g2 g1
    rcases g2' with g | g
    all_goals
      go_enter Tryz.func102, Tryz.ntmps102
      go_wp2
      go_ret
      exact ⟨ret_bool (unhide H).symm, bel1 w _⟩
  have g1' : 0 ≤ lim ∧ lim ≤ 10000 := by simp [inB] at g1; omega
  have g2' : 1 ≤ nx ∧ nx ≤ 1000000000 := by simp [inB] at g2; omega
  by_cases g3 : 60 < (its.length : Int)
  · have H := hide (gs_3 (lim := lim) (nx := nx) g3)
    clear g1 g2
    go_enter Tryz.func102, Tryz.ntmps102
    go_wp2
    go_ret
    exact ⟨ret_bool (unhide H).symm, bel1 w _⟩
  have HG := hide (fun h => @gs_sets lim nx its g1 g2 g3 h (.agg []))
  clear g1 g2
  have hmm := @run_makeMap Tryz.prog
  go_enter Tryz.func102, Tryz.ntmps102
  go_wp2
  go_loopw [5, 29] (fun t i wr => ∃ (k : Nat) (z : Int), k ≤ its.length ∧ 0 ≤ z ∧ z ≤ 60 * 2097162 ∧ i = .int .i64 k ∧ t = .int .i64 z ∧ Hid (z = total (its.take k)) ∧ Hid (∀ j, j < k → okB nx (its.getD j zero) = true) ∧
      Hid (wr.ownsMap Tryz.prog 9 (unitElem (H := Unit)) (w.heap.size + 1) k (Maps.setOf (.agg []) ((its.map kL).take k))) ∧ Hid (wr.ownsMap Tryz.prog 3 (unitElem (H := Unit)) (w.heap.size + 1 + 1) k (Maps.setOf (.agg []) ((its.map tL).take k))) ∧
      Hid (Below (w.heap.size + 1) (w.alloc (.cells #[.int .i64 lim, .int .i64 nx, .slice (some ⟨b, off, none⟩) its.length cap] 57)) wr)) (fun _ i _ => its.length - (intOf i).toNat)
  case atStart =>
    refine ⟨0, 0, Nat.zero_le _, by omega, by omega, rfl, rfl, hide (by simp [total]), hide (fun j hj => absurd hj (Nat.not_lt_zero _)), hide ?_, hide ?_, hide ?_⟩
    · have h := World.ownsMap_made (w.alloc (.cells #[.int .i64 lim, .int .i64 nx, .slice (some ⟨b, off, none⟩) its.length cap] 57)) Tryz.prog 9 (unitElem (H := Unit))
      rw [World.size_alloc] at h
      exact h.alloc _
    · have h := World.ownsMap_made ((w.alloc (.cells #[.int .i64 lim, .int .i64 nx, .slice (some ⟨b, off, none⟩) its.length cap] 57)).alloc (.map #[] 0)) Tryz.prog 3 (unitElem (H := Unit))
      rw [World.size_alloc, World.size_alloc] at h
      exact h
    · exact ((Below.refl _ _).alloc (by simp) _).alloc (by simp) _
  case round =>
    obtain ⟨k, z, hk, hz0, hz1, rfl, rfl, ht, hok, hmk, hmt, hbel⟩ := hrel
    have hB : Hid (Below w.heap.size w wr) := (bel1 w _).trans ((unhide hbel).mono (by omega))
    have hbox := boxcell (unhide hbel)
    have hzw : w.heap.size + 1 + 1 < wr.heap.size := (unhide hmt).lt
    by_cases hlt : k < its.length
    · obtain ⟨c0, c1, c2, c3, c4⟩ := (unhide hcs k hlt).below (unhide hB) hb
      have hfit := hide (fits_getD (unhide hss) k hlt)
      have hbad := hide (@ok_bad lim nx its k hlt)
      have hst := hide (total_step its k hlt)
      have hkk := hide (map_step' kL its k hlt)
      have htt := hide (map_step' tL its k hlt)
      have hkx : its.getD k zero = its.getD k zero := rfl
      have hnext := hide (fun (h : okB nx (its.getD k zero) = true) j (hj : j < k + 1) => if e : j = k then (e ▸ h : okB nx (its.getD j zero) = true) else unhide hok j (by omega))
      generalize hx : its.getD k zero = x at c0 c1 c2 c3 c4 hfit hbad hst hkk htt hnext
      clear hx hkx
      cases hi : itemB x
      · have H := hide (unhide hbad (by simp [okB, hi]))
        have HI := hide hi
        clear hi hbad hnext
        go_wp2_with fail
        refine (goodItem_any x _ (unhide hfit)).mono ?_
        rintro e w1 ⟨rfl, hb1⟩
        rw [unhide HI]
        have hb1 := hide (((unhide hB).alloc (by omega) _).trans (hb1.mono (by simp; omega)))
        go_wp2
        go_ret
        exact ⟨ret_bool (unhide H).symm, unhide hb1⟩
      have HI := hide hi
      have hsm : Hid (Small x) := by
        have := (itemB_iff x).1 hi
        have e1 := this.1
        simp only [gk, inB, Bool.and_eq_true, decide_eq_true_eq] at e1
        have el : x.key.data.toList.length = x.key.size := by simp
        show x.key.size ≤ 1048576 ∧ x.data.size ≤ 1048576
        omega
      clear hi
      go_wp2_with fail
      refine (goodItem_any x _ (unhide hfit)).mono ?_
      rintro e w1 ⟨rfl, hb1⟩
      rw [unhide HI]
      simp only [World.size_alloc] at hb1
      have hB1 := hide (((unhide hbel).alloc (by omega) _).trans (hb1.mono (by omega)))
      have hx1 := boxcell hb1
      have hbx1 := boxcell (unhide hB1)
      have hz1' : wr.heap.size + 1 ≤ w1.heap.size := by have := hb1.size; simp at this; omega
      have hmk1 := hide (map_below ((unhide hmk).alloc _) hb1 (by omega))
      have hmt1 := hide (map_below ((unhide hmt).alloc _) hb1 (by omega))
      clear hb1 hbox
      by_cases g4 : nx ≤ x.token
      · have H := hide (unhide hbad (by simp [okB]; intro _; omega))
        clear hbad hnext
        go_wp2
        go_ret
        exact ⟨ret_bool (unhide H).symm, (bel1 w _).trans ((unhide hB1).mono (by omega))⟩
      have hok1 := hide (unhide hnext (by simp [okB, unhide HI]; omega))
      clear hbad hnext
      have hkey : keyOf Tryz.prog 9 (.string x.key) = some (kL x) := Go.WideMaps.keyOf_string_mk Tryz.underlying9 (unhide hfit).1
      have HKEY := hide hkey
      clear hkey
      go_wp2_with (at_mapUpdate; go_loud (refine wpList_mapUpdate_in _ rfl _ _ _ 134 rfl 9 137 keyLaw Tryz.underlying134 _ (w.heap.size + 1) k _ rfl (unhide hmk1) (by unfold maxLen; omega) _ _ _ rfl rfl (unhide HKEY) _ [] unitElem_mk ?_))
      intro w2 hown2 hturn2
      have hg2 := hturn2.grown
      have hx2 := fun o => (World.cell?_of_block (a := ⟨wr.heap.size, o, none⟩) (hg2.block wr.heap.size (by omega) (by simp; omega))).trans (hx1 o)
      have hbx2 := fun o => (World.cell?_of_block (a := ⟨w.heap.size, o, none⟩) (hg2.block w.heap.size (by omega) (by simp))).trans (hbx1 o)
      have hmk2 := hide hown2
      have hmt2 := hide ((unhide hmt1).kept hg2 (by simp))
      have hB2 := hide ((unhide hB1).grown hg2 (by omega) (fun j e => by simp at e; omega))
      have hz2' : wr.heap.size + 1 ≤ w2.heap.size := by have := hg2.size; omega
      have htok : keyOf Tryz.prog 3 (.int .i64 x.token) = some (tL x) := keyOf_int_mk Tryz.underlying3 (WalkArith.wf_i64 (by have := (itemB_iff x).1 (unhide HI); omega))
      have HTOK := hide htok
      clear hx1 hbx1 hg2 hown2 hturn2 hmk1 hmt1 hB1 hz1' htok HKEY
      go_wp2_with (at_mapUpdate; go_loud (refine wpList_mapUpdate_in _ rfl _ _ _ 135 rfl 3 137 tokLaw Tryz.underlying135 _ (w.heap.size + 1 + 1) k _ rfl (unhide hmt2) (by unfold maxLen; omega) _ _ _ rfl rfl (unhide HTOK) _ [] unitElem_mk ?_))
      intro w3 hown3 hturn3
      have hg3 := hturn3.grown
      have hx3 := fun o => (World.cell?_of_block (a := ⟨wr.heap.size, o, none⟩) (hg3.block wr.heap.size (by omega) (by simp; omega))).trans (hx2 o)
      have hbx3 := fun o => (World.cell?_of_block (a := ⟨w.heap.size, o, none⟩) (hg3.block w.heap.size (by omega) (by simp; omega))).trans (hbx2 o)
      have hmt3 := hide hown3
      have hmk3 := hide ((unhide hmk2).kept hg3 (by simp))
      have hB3 := hide ((unhide hB2).grown hg3 (by omega) (fun j e => by simp at e; omega))
      have hz3' : wr.heap.size + 1 ≤ w3.heap.size := by have := hg3.size; omega
      clear hx2 hbx2 hg3 hown3 hturn3 hmk2 hmt2 hB2 hz2' HTOK
      have hch : 0 ≤ charge x ∧ charge x ≤ 2097162 := by have := unhide hsm; unfold Small at this; unfold charge; omega
      go_wp2_with fail
      refine (chargeOf_any x _ (unhide hsm)).mono ?_
      rintro e w4 ⟨rfl, hb4⟩
      have hmk4 := hide (map_below (unhide hmk3) hb4 (by omega))
      have hmt4 := hide (map_below (unhide hmt3) hb4 (by omega))
      have hB4 := hide ((unhide hB3).trans (hb4.mono (by omega)))
      clear hb4 hx3 hbx3
      have hle := ok_total (show k + 1 ≤ its.length by omega) (by omega) (unhide hok1)
      generalize charge x = c at hst hch
      go_wp2
      go_roundw
      case rel =>
        refine ⟨k + 1, z + c, by omega, by omega, ?_, by go_num, rfl, hide ?_, hok1, ?_, ?_, hB4⟩
        · have := unhide hst; have := unhide ht; omega
        · have := unhide hst; have := unhide ht; omega
        · rw [unhide hkk, setOf_snoc]; exact hmk4
        · rw [unhide htt, setOf_snoc]; exact hmt4
      case measure => simp [intOf]; omega
    · obtain rfl : k = its.length := by omega
      have H := hide (unhide HG (unhide hok))
      have e1 : (its.map kL).take its.length = its.map kL := List.take_of_length_le (by simp)
      have e2 : (its.map tL).take its.length = its.map tL := List.take_of_length_le (by simp)
      rw [e1] at hmk
      rw [e2] at hmt
      have ht' : Hid (z = total its) := by show z = total its; rw [unhide ht, List.take_length]
      clear e1 e2 ht
      generalize Maps.setOf (.agg []) (its.map kL) = Dk at H hmk
      generalize Maps.setOf (.agg []) (its.map tL) = Dt at H hmt
      have hlk := fun ty => (unhide hmk).len Tryz.underlying134 ty
      have hlt' := fun ty => (unhide hmt).len Tryz.underlying135 ty
      generalize Maps.size Dk = nk at H hlk
      generalize Maps.size Dt = nt at H hlt'
      have hfin : Hid (gsB lim nx its = (decide ((nk : Int) = its.length) && decide ((nt : Int) = its.length) && decide (z ≤ lim))) := by
        show gsB lim nx its = _
        rw [unhide H, unhide ht']
      clear H ht'
      go_wp2
      all_goals
        go_ret
        refine ⟨ret_bool ?_, unhide hB⟩
        rw [unhide hfin]
        first
          | rfl
          | (simp [*]; done)
          | (simp_all; done)

end Store
end Go.Proofs.YtkodgbalhnbhcaaGreatDoor
/-
  A shelf: a store at work, in memory; and the map of its keys. No Go function is spoken of here, but the shelf's cells.
-/
namespace Go.Proofs.YtkodgbalhnbhcaaGreatDoor
namespace Shelf
open Go.RowKit Base Items Keep Own Chain Store
set_option linter.unusedVariables false

def kk (k : ByteArray) : Lit := .string k.data.toList
theorem kk_key (k : ByteArray) : WideAt.IsKeyLit (kk k) := by simp [kk, WideAt.IsKeyLit]
theorem kk_inj {a b : ByteArray} (h : kk a = kk b) : a = b := by
  unfold kk at h
  simp only [Lit.string.injEq] at h
  exact Go.WideShapes.bytes_inj h
/-- The map beside the links: at each key the number of its link, and nothing else. -/
structure MapIs (D : DataW Unit) (ls : List Lnk) (order : List Nat) : Prop where
  hit : ∀ p ∈ order, Maps.has D (kk (lk ls p).val.key) = true ∧ D.atKey (kk (lk ls p).val.key) (.lit (.int .i64 0)) = .lit (.int .i64 (p : Nat))
  miss : ∀ k, (∀ p ∈ order, (lk ls p).val.key ≠ k) → Maps.has D (kk k) = false
  size : Maps.size D = order.length
theorem mapIs_new : MapIs (.map []) [zl] [] := ⟨fun p hp => by simp at hp, fun k _ => rfl, rfl⟩
theorem MapIs.congr {D : DataW Unit} {ls ls' : List Lnk} {order : List Nat} (h : MapIs D ls order) (e : ∀ p ∈ order, (lk ls' p).val = (lk ls p).val) : MapIs D ls' order :=
  ⟨fun p hp => by rw [e p hp]; exact h.hit p hp, fun k hk => h.miss k (fun p hp => by rw [← e p hp]; exact hk p hp), h.size⟩
theorem MapIs.put {D : DataW Unit} {ls : List Lnk} {order : List Nat} (h : MapIs D ls order) (ht : Maps.Tidy D) {n : Nat} (hk : ∀ p ∈ order, (lk ls p).val.key ≠ (lk ls n).val.key) : MapIs (D.put (kk (lk ls n).val.key) (.lit (.int .i64 (n : Nat)))) ls (order ++ [n]) := by
  refine ⟨fun p hp => ?_, fun k hm => ?_, ?_⟩
  · rcases List.mem_append.1 hp with h1 | h1
    · have hne : kk (lk ls p).val.key ≠ kk (lk ls n).val.key := fun e => hk p h1 (kk_inj e)
      rw [Maps.has_put_other hne, Maps.atKey_put_other hne]
      exact h.hit p h1
    · simp at h1
      subst h1
      exact ⟨Maps.has_put_same ht.isMap (kk_key _) _, Maps.atKey_put_same ht.isMap (kk_key _) _ _⟩
  · have hne : kk k ≠ kk (lk ls n).val.key := fun e => hm n (by simp) (kk_inj e).symm
    rw [Maps.has_put_other hne]
    exact h.miss k (fun p hp => hm p (List.mem_append_left _ hp))
  · rw [Maps.size_put ht, h.miss _ hk, h.size]
    simp
theorem MapIs.del {D : DataW Unit} {ls : List Lnk} {l1 l2 : List Nat} {n : Nat} (h : MapIs D ls (l1 ++ n :: l2)) (ht : Maps.Tidy D) (hk : ∀ p ∈ l1 ++ l2, (lk ls p).val.key ≠ (lk ls n).val.key) : MapIs (D.del (kk (lk ls n).val.key)) ls (l1 ++ l2) := by
  have hsub : ∀ p, p ∈ l1 ++ l2 → p ∈ l1 ++ n :: l2 := fun p hp => by
    rcases List.mem_append.1 hp with h1 | h1
    · exact List.mem_append_left _ h1
    · exact List.mem_append_right _ (List.mem_cons_of_mem _ h1)
  refine ⟨fun p hp => ?_, fun k hm => ?_, ?_⟩
  · have hne : kk (lk ls p).val.key ≠ kk (lk ls n).val.key := fun e => hk p hp (kk_inj e)
    rw [Maps.has_del_other hne, Maps.atKey_del_other hne]
    exact h.hit p (hsub p hp)
  · by_cases e : k = (lk ls n).val.key
    · rw [e]; exact Maps.has_del_same
    · rw [Maps.has_del_other (fun e' => e (kk_inj e'))]
      refine h.miss k (fun p hp => ?_)
      rcases List.mem_append.1 hp with h1 | h1
      · exact hm p (List.mem_append_left _ h1)
      · rcases List.mem_cons.1 h1 with h2 | h2
        · rw [h2]; exact fun e' => e e'.symm
        · exact hm p (List.mem_append_right _ h2)
  · have h1 := Maps.size_del (k := kk (lk ls n).val.key) ht
    rw [(h.hit n (by simp)).1, h.size] at h1
    simp at h1 ⊢
    omega

/-- A shelf in memory: S are its blocks. -/
structure Parts (w : World) (hb : Nat) (S : List Nat) (lim nx lost : Int) (its : List Itm) (gl : Nat) (gf : Option Nat) (bm : Nat) (ls : List Lnk) (free order : List Nat) (cl : Nat) (vf : Value) (D : DataW Unit) : Prop where
  mem : Mem w hb ⟨lim, nx, total its, lost, .map (some bm)⟩ gl gf ls free cl vf
  good : Chain.Good ls free order
  items : itemsOf ls order = its
  len : ls.length ≤ 500
  own : w.ownsMap Tryz.prog 9 (plainElem Tryz.prog 3) bm its.length D
  map : MapIs D ls order
  m1 : bm ≠ hb
  m2 : bm ≠ gl
  m3 : gf ≠ some bm
  blocks : S = [hb, gl, bm] ++ gf.toList
  keys : (its.map Itm.key).Nodup
  small : ∀ x ∈ its, Small x
def Shelf (w : World) (hb : Nat) (S : List Nat) (lim nx lost : Int) (its : List Itm) : Prop := ∃ gl gf bm ls free order cl vf D, Parts w hb S lim nx lost its gl gf bm ls free order cl vf D

theorem Parts.lt {w : World} {hb : Nat} {S : List Nat} {lim nx lost : Int} {its : List Itm} {gl : Nat} {gf : Option Nat} {bm : Nat} {ls : List Lnk} {free order : List Nat} {cl : Nat} {vf : Value} {D : DataW Unit}
    (h : Parts w hb S lim nx lost its gl gf bm ls free order cl vf D) : ∀ b ∈ S, b < w.heap.size := by
  intro b hm
  rw [h.blocks] at hm
  simp only [List.mem_append, List.mem_cons, List.not_mem_nil, or_false, Option.mem_toList] at hm
  rcases hm with (rfl | rfl | rfl) | hg
  · exact h.mem.box.lt
  · exact Row.lt h.mem.links
  · exact h.own.lt
  · exact h.mem.gf_lt hg
theorem Parts.keep {w w' : World} {hb : Nat} {S T : List Nat} {lim nx lost : Int} {its : List Itm} {gl : Nat} {gf : Option Nat} {bm : Nat} {ls : List Lnk} {free order : List Nat} {cl : Nat} {vf : Value} {D : DataW Unit}
    (h : Parts w hb S lim nx lost its gl gf bm ls free order cl vf D) (hk : Keeps T w w') (hT : ∀ b ∈ S, b ∉ T) : Parts w' hb S lim nx lost its gl gf bm ls free order cl vf D := by
  have h1 : hb ∈ S := by rw [h.blocks]; simp
  have h2 : gl ∈ S := by rw [h.blocks]; simp
  have h3 : bm ∈ S := by rw [h.blocks]; simp
  have h4 : ∀ g, gf = some g → g ∈ S := fun g hg => by rw [h.blocks, hg]; simp
  exact { h with mem := h.mem.keep hk (hT _ h1) (hT _ h2) (fun g hg => hT _ (h4 g hg)), own := hk.map h.own (hT _ h3) }
theorem Shelf.lt {w : World} {hb : Nat} {S : List Nat} {lim nx lost : Int} {its : List Itm} (h : Shelf w hb S lim nx lost its) : ∀ b ∈ S, b < w.heap.size := by
  obtain ⟨gl, gf, bm, ls, free, order, cl, vf, D, hp⟩ := h
  exact hp.lt
theorem Shelf.keep {w w' : World} {hb : Nat} {S T : List Nat} {lim nx lost : Int} {its : List Itm} (h : Shelf w hb S lim nx lost its) (hk : Keeps T w w') (hT : ∀ b ∈ S, b ∉ T) : Shelf w' hb S lim nx lost its := by
  obtain ⟨gl, gf, bm, ls, free, order, cl, vf, D, hp⟩ := h
  exact ⟨gl, gf, bm, ls, free, order, cl, vf, D, hp.keep hk hT⟩
theorem Shelf.below {w w' : World} {hb : Nat} {S : List Nat} {lim nx lost : Int} {its : List Itm} (h : Shelf w hb S lim nx lost its) (hk : Below w.heap.size w w') : Shelf w' hb S lim nx lost its :=
  h.keep (Keeps.of_below (S := []) hk (fun _ h1 _ => h1)) (by simp)
/-- What a step on a shelf leaves: another shelf in the same blocks and new ones. -/
def Step (w w' : World) (hb : Nat) (S : List Nat) (lim nx lost : Int) (its : List Itm) : Prop := ∃ S', Shelf w' hb S' lim nx lost its ∧ (∀ b ∈ S', b ∈ S ∨ w.heap.size ≤ b) ∧ Keeps S w w'
end Shelf
end Go.Proofs.YtkodgbalhnbhcaaGreatDoor
/-
  The program's shelf: putLast.
-/
namespace Go.Proofs.YtkodgbalhnbhcaaGreatDoor
namespace Shelf
open Go.RowKit Base Items Keep Own Chain Store
set_option linter.unusedVariables false

theorem total_small {its : List Itm} (h : ∀ x ∈ its, Small x) (hl : its.length ≤ 1000) : 0 ≤ total its ∧ total its ≤ 2097162000 := by
  have := total_bd its h
  omega

theorem box_set2 {w : World} {hb : Nat} {h : Hd} {vl vf : Value} (hB : Box w hb h vl vf) (c : Int) : Box (w.setCell ⟨hb, 2, none⟩ (.int .i64 c)) hb { h with chg := c } vl vf := by unfold Box at *; simp [World.setCell, Array.getElem?_modify, hB]
/-- A cell of the shelf itself is written. -/
theorem mem_set {w : World} {hb : Nat} {h h' : Hd} {gl : Nat} {gf : Option Nat} {ls : List Lnk} {free : List Nat} {cl : Nat} {vf : Value} (hm : Mem w hb h gl gf ls free cl vf) {o : Nat} {v : Value}
    (hB : Box (w.setCell ⟨hb, o, none⟩ v) hb h' (.slice (some ⟨gl, 0, none⟩) ls.length cl) vf) : Mem (w.setCell ⟨hb, o, none⟩ v) hb h' gl gf ls free cl vf :=
  ⟨hB, Row.setOther hm.links (Ne.symm hm.n1) _, own_blocks hm.fr (fun g hg => Below.heap_setCell _ _ _ _ (fun e => hm.n2 (by rw [← hm.own, hg]; exact congrArg some e))), hm.own, hm.n1, hm.n2, hm.n3⟩
theorem keeps_turned {w w' : World} {b : Nat} (h : w.mapTurned w' b) : Keeps [b] w w' := (Keeps.refl [b] w).turned h (.inl (by simp))
theorem total_snoc (its : List Itm) (x : Itm) : total (its ++ [x]) = total its + charge x := by rw [total_append]; simp [total]
theorem keys_of {its : List Itm} {ls : List Lnk} {order : List Nat} (hi : itemsOf ls order = its) : ∀ p ∈ order, (lk ls p).val ∈ its := fun p hp => by rw [← hi]; exact List.mem_map.2 ⟨p, hp, rfl⟩

theorem put_step {w w1 w2 w3 : World} {hb : Nat} {S : List Nat} {lim nx lost : Int} {its : List Itm} {gl : Nat} {gf : Option Nat} {bm : Nat} {ls : List Lnk} {free order : List Nat} {cl : Nat} {vf : Value} {D : DataW Unit} {x : Itm}
    (hp : Parts w hb S lim nx lost its gl gf bm ls free order cl vf D) (hl : its.length ≤ 100) (hx : Small x) (hk : ∀ y ∈ its, y.key ≠ x.key) {n : Nat} {ls1 : List Lnk} {free1 : List Nat} {gl1 cl1 : Nat} {vf1 : Value}
    (k1 : Keeps [hb, gl] w w1) (hm1 : Mem w1 hb ⟨lim, nx, total its, lost, .map (some bm)⟩ gl1 gf ls1 free1 cl1 vf1) (hG1 : Chain.Good ls1 free1 (order ++ [n])) (hit : itemsOf ls1 (order ++ [n]) = itemsOf ls order ++ [x]) (hl1 : ls1.length ≤ ls.length ∨ ls1.length = order.length + 2)
    (hgl : gl1 = gl ∨ w.heap.size ≤ gl1) (hv1 : ∀ p ∈ order, (lk ls1 p).val = (lk ls p).val) (hnx : (lk ls1 n).val = x)
    (hown2 : w2.ownsMap Tryz.prog 9 (plainElem Tryz.prog 3) bm (its.length + 1) (D.put (kk x.key) (.lit (.int .i64 (n : Nat))))) (hturn : w1.mapTurned w2 bm) (k3 : Keeps [] w2 w3) :
    Step w (w3.setCell ⟨hb, 2, none⟩ (.int .i64 (total its + charge x))) hb S lim nx lost (its ++ [x]) := by
  have hbl : bm < w.heap.size := hp.own.lt
  have hg1 : gl1 ≠ bm := hgl.elim (fun e => e ▸ Ne.symm hp.m2) (fun e => by omega)
  have k2 := keeps_turned hturn
  have hm2 := hm1.keep k2 (by simp; exact Ne.symm hp.m1) (by simpa using hg1) (fun g hg => by simp; intro e; exact hp.m3 (by rw [hg, e]))
  have hm3 := hm2.keep k3 (by simp) (by simp) (by simp)
  have ho3 := (k3.map hown2 (by simp)).setCell (a := ⟨hb, 2, none⟩) hp.m1 (.int .i64 (total its + charge x))
  have hol : order.length = its.length := by rw [← hp.items, items_len]
  refine ⟨[hb, gl1, bm] ++ gf.toList, ⟨gl1, gf, bm, ls1, free1, order ++ [n], cl1, vf1, D.put (kk x.key) (.lit (.int .i64 (n : Nat))), ?_⟩, ?_, ?_⟩
  · refine ⟨?_, hG1, ?_, ?_, ?_, ?_, hp.m1, Ne.symm hg1, hp.m3, rfl, ?_, ?_⟩
    · rw [total_snoc]
      exact mem_set hm3 (box_set2 hm3.box _)
    · rw [hit, hp.items]
    · have := hp.len; omega
    · rw [List.length_append]; exact ho3
    · have h1 := (hp.map.congr hv1).put (n := n) (hp.own.tidy keyLaw) (fun p hpo => by
        rw [hnx, hv1 p hpo]
        exact hk _ (keys_of hp.items p hpo))
      rw [hnx] at h1
      exact h1
    · rw [List.map_append]
      refine List.nodup_append.2 ⟨hp.keys, by simp, fun a ha b hb' => ?_⟩
      simp at hb'
      obtain ⟨y, hy, rfl⟩ := List.mem_map.1 ha
      rw [hb']
      exact hk y hy
    · intro y hy
      rcases List.mem_append.1 hy with h1 | h1
      · exact hp.small y h1
      · simp at h1; rw [h1]; exact hx
  · intro b hbm
    rw [hp.blocks]
    simp only [List.mem_append, List.mem_cons, List.not_mem_nil, or_false] at hbm ⊢
    rcases hbm with (h1 | h1 | h1) | h1
    · exact .inl (.inl (.inl h1))
    · rcases hgl with e | e
      · exact .inl (.inl (.inr (.inl (h1.trans e))))
      · exact .inr (by omega)
    · exact .inl (.inl (.inr (.inr h1)))
    · exact .inl (.inr h1)
  · have k1' : Keeps S w w1 := k1.mono (fun y hy => by rw [hp.blocks]; simp at hy ⊢; rcases hy with e | e <;> simp [e])
    refine ((k1'.trans k2 (fun y hy => .inl (by rw [hp.blocks]; simp at hy ⊢; simp [hy]))).trans k3 (by simp)).setCell (.inl (by rw [hp.blocks]; simp)) _

theorem alloc_le {w : World} {o : Obj} {g : Nat} (h : (w.alloc o).drew.heap.size ≤ g) : w.heap.size ≤ g := by
  have e : (w.alloc o).drew.heap.size = w.heap.size + 1 := by show (w.alloc o).heap.size = _; simp
  omega
theorem alloc_lt {w w1 : World} {o : Obj} (h : (w.alloc o).drew.heap.size ≤ w1.heap.size) : w.heap.size < w1.heap.size := by
  have e : (w.alloc o).drew.heap.size = w.heap.size + 1 := by show (w.alloc o).heap.size = _; simp
  omega
/-- Behind the first statement of putLast: the link is laid and the map written, the charge not yet. -/
def PutMid (w wc : World) (hb : Nat) (lim nx lost : Int) (its : List Itm) (gl : Nat) (gf : Option Nat) (bm : Nat) (ls : List Lnk) (order : List Nat) (D : DataW Unit) (x : Itm) : Prop :=
  ∃ (n : Nat) (ls1 : List Lnk) (free1 : List Nat) (gl1 cl1 : Nat) (vf1 : Value) (w1 : World), Keeps [hb, gl] w w1 ∧ Mem w1 hb ⟨lim, nx, total its, lost, .map (some bm)⟩ gl1 gf ls1 free1 cl1 vf1 ∧ Chain.Good ls1 free1 (order ++ [n]) ∧ itemsOf ls1 (order ++ [n]) = itemsOf ls order ++ [x] ∧
    (ls1.length ≤ ls.length ∨ ls1.length = order.length + 2) ∧ (gl1 = gl ∨ w.heap.size ≤ gl1) ∧ (∀ p ∈ order, (lk ls1 p).val = (lk ls p).val) ∧ (lk ls1 n).val = x ∧
    wc.ownsMap Tryz.prog 9 (plainElem Tryz.prog 3) bm (its.length + 1) (D.put (kk x.key) (.lit (.int .i64 (n : Nat)))) ∧ w1.mapTurned wc bm ∧ w.heap.size < w1.heap.size ∧ (∀ o, w1.cell? ⟨w.heap.size, o, none⟩ = (w.alloc (.cells #[.string x.key, .int .i64 x.flags, .string x.data, .int .i64 x.upto, .int .i64 x.token] 85)).cell? ⟨w.heap.size, o, none⟩)

set_option maxRecDepth 10000 in
set_option maxHeartbeats 2000000 in
theorem putLast_shelf (w : World) (hb : Nat) (S : List Nat) (lim nx lost : Int) (its : List Itm) (x : Itm) (hs : Shelf w hb S lim nx lost its) (hl : its.length ≤ 100) (hx : Small x) (hk : ∀ y ∈ its, y.key ≠ x.key) :
    Calls Tryz.prog 144 #[.pointer (some ⟨hb, 0, none⟩), .agg #[.string x.key, .int .i64 x.flags, .string x.data, .int .i64 x.upto, .int .i64 x.token]] w fun e w' => e = .returned (.tuple #[]) ∧ Step w w' hb S lim nx lost (its ++ [x]) := by
  obtain ⟨gl, gf, bm, ls, free, order, cl, vf, D, hp⟩ := hs
  have HP := hide hp
  clear hp
  go_enter Tryz.func144, Tryz.ntmps144
  go_upto_region 1 with fail
  go_cut [14] (fun s14 wx => Hid (PutMid w wx hb lim nx lost its gl gf bm ls order D x))
  case first =>
    have HP1 := hide ((unhide HP).keep ((Keeps.refl [] w).alloc (.cells #[.string x.key, .int .i64 x.flags, .string x.data, .int .i64 x.upto, .int .i64 x.token] 85)).drew (by simp))
    obtain ⟨c0, c1, c2, c3, c4, c5, c6⟩ := (unhide HP1).mem.box.cells
    have hlt := (unhide HP).mem.box.lt
    have hxs : w.heap.size ∉ [hb, gl] := by
      have h2 := Row.lt (unhide HP).mem.links
      simp; omega
    clear c0 c1 c2 c3 c4 c5
    go_region_with (first | (go_at_call 165; refine (putLast_any _ hb _ gl gf ls free order cl vf x (unhide HP1).mem (unhide HP1).good (by have := (unhide HP1).len; omega)).mono ?_; rintro e w1 ⟨n, ls1, free1, gl1, cl1, vf1, rfl, hm1, hG1, hit, hl1, hgl, hk1, hv1, hnx, hno⟩; obtain ⟨d0, d1, d2, d3, d4, d5, d6⟩ := hm1.box.cells; clear d0 d1 d2 d3 d4 d5; have hcx := fun o => hk1.cell (b := w.heap.size) (o := o) (by simp) hxs; obtain ⟨w2, hrun, hown2, hturn2⟩ := (hk1.map (unhide HP1).own (by have := (unhide HP1).m1; have := (unhide HP1).m2; simp; exact ⟨(unhide HP1).m1, (unhide HP1).m2⟩)).store keyLaw Tryz.underlying109 (by unfold maxLen; omega) (key := .string x.key) (val := .int .i64 (n : Nat)) (kl := kk x.key) (Go.WideMaps.keyOf_string_mk Tryz.underlying9 (by unfold maxLen; have := hx.1; omega)) (plainElem_int Tryz.underlying3 (WalkArith.wf_i64 (by have := (hG1.inO n (by simp)).2; have := (unhide HP1).len; have := (unhide HP1).good.len; omega)))))
    all_goals
      go_wp2_with fail
      go_meet
      exact ⟨n, ls1, free1, gl1, cl1, vf1, w1, ((Keeps.refl [hb, gl] w).alloc _).drew.trans hk1 (by simp), hm1, hG1, hit, hl1, hgl.imp id alloc_le, hv1, hnx, hown2, hturn2, alloc_lt hk1.size, hcx⟩
  case rest =>
  obtain ⟨n, ls1, free1, gl1, cl1, vf1, w1, hk1, hm1, hG1, hit, hl1, hgl, hv1, hnx, hown2, hturn2, hzw, hcx⟩ := unhide hcut
  have hm2 := hide (hm1.keep (keeps_turned hturn2) (by simp; exact Ne.symm (unhide HP).m1) (by
    simp
    rcases hgl with e | e
    · exact e ▸ Ne.symm (unhide HP).m2
    · have := (unhide HP).own.lt; omega) (fun g hg => by simp; intro e; exact (unhide HP).m3 (by rw [hg, e])))
  obtain ⟨e0, e1, e2, e3, e4, e5, e6⟩ := (unhide hm2).box.cells
  have f2 := (unhide hm2).box.frozen 2
  have hzz := hturn2.grown.size
  have hlt2 := (unhide hm2).box.lt
  have hbx2 := fun o => (World.cell?_of_block (a := ⟨w.heap.size, o, none⟩) (hturn2.grown.block w.heap.size (by omega) (by simp; have := (unhide HP).own.lt; omega))).trans (hcx o)
  have htot := total_small (unhide HP).small (by omega)
  have hch : 0 ≤ charge x ∧ charge x ≤ 2097162 := by have := hx; unfold Small at this; unfold charge; omega
  have hcc : IntKind.i64.wrap (total its + charge x) = total its + charge x := by rw [IntKind.wrap_i64]; omega
  have HF := hide (fun w3 k3 => put_step (w3 := w3) (unhide HP) hl hx hk hk1 hm1 hG1 hit hl1 hgl hv1 hnx hown2 hturn2 k3)
  have HX := hide hx
  clear e0 e1 e3 e4 e5 e6 hcx hm1 hG1 hit hl1 hv1 hnx hown2 hturn2 hk1 hgl hcut hx hk
  have hcal := fun w => chargeOf_any x w (unhide HX)
  generalize charge x = c at HF hch hcc hcal
  generalize total its = t at HF e2 htot hcc
  have HC := hide hcal
  clear hcal
  go_wp2_with fail
  go_region_with (go_at_call 137; refine (unhide HC _).mono ?_; rintro e w3 ⟨rfl, hb3⟩; have g2 := hb3.cell (p := ⟨hb, 2, none⟩) (show hb < wc.drew.heap.size from hlt2); have gf2 := hb3.frozen (p := ⟨hb, 2, none⟩) (show hb < wc.drew.heap.size from hlt2); have HB3 := hide hb3; clear hb3)
  all_goals
    have k3 : Keeps [] wc w3 := (Keeps.refl [] wc).drew.trans (Keeps.of_below (S := []) (unhide HB3) (fun _ h1 _ => h1)) (by simp)
    go_wp2_with fail
    exact bodyPost_end (v := .tuple #[]) (by simp [results, Tryz.results144, go_sem]) rfl ⟨rfl, unhide HF w3 k3⟩
end Shelf
end Go.Proofs.YtkodgbalhnbhcaaGreatDoor
