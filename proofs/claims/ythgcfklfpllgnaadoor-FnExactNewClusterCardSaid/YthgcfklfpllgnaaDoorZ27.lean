/-
  The program's list of links: values, newChain.
-/
import Derived.Test.YthgcfklfpllgnaaDoorZ26
import Derived.Test.YthgcfklfpllgnaaDoorZ11
import Derived.Test.YthgcfklfpllgnaaDoorZ4
import Derived.Test.YthgcfklfpllgnaaDoorZ22
import Derived.Test.YthgcfklfpllgnaaDoorZ9
import Derived.Test.YthgcfklfpllgnaaDoorZ5
import Derived.Test.YthgcfklfpllgnaaDoorZ13
namespace Go.Proofs.YthgcfklfpllgnaaDoor
namespace Chain
open Go.RowKit Base Items Keep Own
set_option linter.unusedVariables false

def lenOf : Value → Nat | .slice _ n _ => n | _ => 0
theorem fw_at {f : Nat → Nat} {a : Nat} {l : List Nat} (h : Fw f a l) {k : Nat} (hk : k < l.length) : f (l.getD k 0) = (l.drop (k + 1)).headD 0 := by
  have e : l = l.take k ++ l[k] :: l.drop (k + 1) := by rw [← List.drop_eq_getElem_cons hk, List.take_append_drop]
  rw [e] at h
  have h1 := h.mid.head
  rw [List.getD_eq_getElem?_getD, List.getElem?_eq_getElem hk]
  exact h1
theorem items_step (ls : List Lnk) (order : List Nat) {k : Nat} (hk : k < order.length) : (itemsOf ls order).take (k + 1) = (itemsOf ls order).take k ++ [(lk ls (order.getD k 0)).val] := by
  have hk' : k < (itemsOf ls order).length := by simpa [itemsOf] using hk
  rw [List.take_succ_eq_append_getElem hk']
  simp [itemsOf, List.getD_eq_getElem?_getD, List.getElem?_eq_getElem hk]
theorem items_len (ls : List Lnk) (order : List Nat) : (itemsOf ls order).length = order.length := by simp [itemsOf]

set_option maxRecDepth 10000 in
set_option maxHeartbeats 2000000 in
theorem values_any (w : World) (hb : Nat) (h : Hd) (gl : Nat) (gf : Option Nat) (ls : List Lnk) (free order : List Nat) (cl : Nat) (vf : Value) (hm : Mem w hb h gl gf ls free cl vf) (hG : Good ls free order) (hlen : ls.length ≤ 1000) :
    Calls Tryd.prog 45 #[.pointer (some ⟨hb, 4, none⟩)] w fun e w' => ∃ a cap, e = .returned (.slice a order.length cap) ∧ w'.ownsRow w.heap.size 92 5 (.slice a order.length cap) order.length (flat (itemsOf ls order)) ∧ Below w.heap.size w w' := by
  have hol : order.length ≤ 1000 := by have := hG.len; omega
  have hpos : 0 < ls.length := by have := hG.len; omega
  obtain ⟨c0, c1, c2, c3, c4, c5, c6⟩ := hm.box.cells
  have i6 : w.cell? ⟨gl, 6, none⟩ = some (.int .i64 (lk ls 0).behind) := by
    have := hm.links.behind (p := 0) hpos
    rwa [Nat.zero_mul, Nat.zero_add] at this
  have e0 : (lk ls 0).behind = order.headD 0 := hG.fw.head
  rw [e0] at i6
  have HF : Hid (∀ k, k < order.length → (lk ls (order.getD k 0)).behind = (order.drop (k + 1)).headD 0) := fun k hk => fw_at hG.fw hk
  have HI : Hid (∀ k, k < order.length → 0 < order.getD k 0 ∧ order.getD k 0 < ls.length) := fun k hk => by
    rw [List.getD_eq_getElem?_getD, List.getElem?_eq_getElem hk]
    exact hG.inO _ (List.getElem_mem _)
  have HM := hide hm
  clear hm hG c0 c1 c2 c3 c5 c6 e0
  obtain ⟨i0, hi, hz0, hz1, hz2⟩ := Store.info_ex
  have HI0 := hide hi
  have HZ0 := hide hz0
  have HZ1 := hide hz1
  have HZ2 := hide hz2
  clear hi hz0 hz1 hz2
  go_enter Tryd.func45, Tryd.ntmps45
  go_wp2
  go_loopw [3, 4] (fun v at_ wr => ∃ (k p : Nat), k ≤ order.length ∧ at_ = .int .i64 (p : Nat) ∧ Hid (p = (order.drop k).headD 0) ∧ Hid (wr.ownsRow w.heap.size 92 5 v k (flat ((itemsOf ls order).take k))) ∧ Hid (Below w.heap.size w wr)) (fun v _ _ => order.length - lenOf v)
  case atStart => exact ⟨0, _, Nat.zero_le _, rfl, hide (by cases order <;> rfl), hide (World.ownsRow_nil _ _ _ _), hide (Below.refl _ _)⟩
  case round =>
    obtain ⟨k, p, hk, rfl, hp, hown, hbel⟩ := hrel
    have HMr := hide ((unhide HM).keep (Keeps.of_below (S := []) (unhide hbel) (fun _ h1 _ => h1)) (by simp) (by simp) (by simp))
    obtain ⟨va, vc, hv⟩ := own_form (unhide hown)
    subst hv
    by_cases hlt : k < order.length
    · have hp1 : Hid (p = order.getD k 0) := by
        show p = _
        rw [unhide hp, List.drop_eq_getElem_cons hlt, List.getD_eq_getElem?_getD, List.getElem?_eq_getElem hlt]
        rfl
      have hpos' := unhide HI k hlt
      rw [← unhide hp1] at hpos'
      have hst := hide (items_step ls order hlt)
      have hnx := hide (unhide HF k hlt)
      rw [← unhide hp1] at hst hnx
      have hil := hide (items_len ls order)
      obtain ⟨hp0, hpl⟩ := hpos'
      have hpi : (p : Int) < ls.length := by omega
      have hp0' : ¬ (p : Int) = 0 := by omega
      obtain ⟨c0, c1, c2, c3, d4, c5, c6⟩ := (unhide HMr).box.cells
      obtain ⟨i0', i1, i2, i3, i4⟩ := (unhide HMr).links.item hpl
      have j6 := (unhide HMr).links.behind hpl
      clear c0 c1 c2 c3 c5 c6 hp1 hp
      have hltr := (unhide HMr).box.lt
      have hgtr := Row.lt (unhide HMr).links
      generalize (lk ls p).val = x at i0' i1 i2 i3 i4 hst
      rw [unhide hnx] at j6
      go_wp2_with (at_builtin; go_loud (refine wpList_append_own _ rfl _ _ 55 rfl w.heap.size 92 i0 _ 5 56 Tryd.underlying55 (unhide HI0) (unhide HZ0) (unhide HZ1) (unhide HZ2) rfl (by decide) _ _ _ rfl ((unhide hown).alloc _) ⟨wr.heap.size, 0, none⟩ 1 1 (cellsOf x) rfl rfl (news_cells wr x _) (news_one x) (by unfold maxLen; omega) (by omega) (by have := (unhide hbel).size; simp; omega) ?_))
      intro v' w2 hown' hgrow _
      have B2 := hide ((((unhide hbel).alloc (unhide hbel).size _).grown hgrow (by have := (unhide hbel).size; simp; omega) (fun j e => own_block (unhide hown) j e)))
      have O2 : Hid (w2.ownsRow w.heap.size 92 5 v' (k + 1) (flat ((itemsOf ls order).take (k + 1)))) := by
        show w2.ownsRow _ _ _ _ _ _
        rw [unhide hst, flat_append, flat_one]
        exact hown'
      clear hown' hgrow d4 i0' i1 i2 i3 i4 j6
      have HM2 := hide ((unhide HM).keep (Keeps.of_below (S := []) (unhide B2) (fun _ h1 _ => h1)) (by simp) (by simp) (by simp))
      obtain ⟨c0, c1, c2, c3, d4, c5, c6⟩ := (unhide HM2).box.cells
      have j6 := (unhide HM2).links.behind hpl
      rw [unhide hnx] at j6
      obtain ⟨va', vc', hv'⟩ := own_form (unhide O2)
      subst hv'
      clear c0 c1 c2 c3 c5 c6 HM2 HMr hnx
      generalize hq : (order.drop (k + 1)).headD 0 = q at j6
      go_wp2
      go_roundw
      case rel => exact ⟨k + 1, q, by omega, rfl, hide hq.symm, O2, B2⟩
      case measure => simp [lenOf]; omega
    · have hk' : k = order.length := by omega
      subst hk'
      have hp0 : p = 0 := by
        have := unhide hp
        rw [List.drop_eq_nil_of_le (Nat.le_refl _)] at this
        exact this
      subst hp0
      have et : (itemsOf ls order).take order.length = itemsOf ls order := List.take_of_length_le (by simp [itemsOf])
      rw [et] at hown
      go_wp2
      go_ret
      exact ⟨va, vc, rfl, unhide hown, unhide hbel⟩
end Chain
end Go.Proofs.YthgcfklfpllgnaaDoor
/-
  The program's goodItem: what it answers, by the plain function.
-/
namespace Go.Proofs.YthgcfklfpllgnaaDoor
namespace Store
open Go.RowKit Base GoodKey Items
set_option linter.unusedVariables false

theorem itemB_iff (x : Itm) : itemB x = true ↔ gk x.key.data.toList = true ∧ 0 ≤ x.flags ∧ x.flags ≤ 1000000000 ∧ (x.data.size : Int) ≤ 100 ∧ 0 ≤ x.upto ∧ x.upto ≤ 2000000000 ∧ 1 ≤ x.token ∧ x.token ≤ 1000000000 := by
  simp only [itemB, inB, Bool.and_eq_true, decide_eq_true_eq]
  constructor
  · rintro ⟨⟨⟨⟨a, b, c⟩, d⟩, e, f⟩, g, h⟩
    exact ⟨a, b, c, d, e, f, g, h⟩
  · rintro ⟨a, b, c, d, e, f, g, h⟩
    exact ⟨⟨⟨⟨a, b, c⟩, d⟩, e, f⟩, g, h⟩
theorem item_no {x : Itm} (h : ¬ (gk x.key.data.toList = true ∧ 0 ≤ x.flags ∧ x.flags ≤ 1000000000 ∧ (x.data.size : Int) ≤ 100 ∧ 0 ≤ x.upto ∧ x.upto ≤ 2000000000 ∧ 1 ≤ x.token ∧ x.token ≤ 1000000000)) : false = itemB x := by
  cases e : itemB x
  · rfl
  · exact absurd ((itemB_iff x).1 e) h
theorem item_yes {x : Itm} (h : gk x.key.data.toList = true ∧ 0 ≤ x.flags ∧ x.flags ≤ 1000000000 ∧ (x.data.size : Int) ≤ 100 ∧ 0 ≤ x.upto ∧ x.upto ≤ 2000000000 ∧ 1 ≤ x.token) : decide (x.token ≤ 1000000000) = itemB x := by
  rw [Bool.eq_iff_iff, itemB_iff, decide_eq_true_eq]
  exact ⟨fun e => ⟨h.1, h.2.1, h.2.2.1, h.2.2.2.1, h.2.2.2.2.1, h.2.2.2.2.2.1, h.2.2.2.2.2.2, e⟩, fun e => e.2.2.2.2.2.2.2⟩

end Store
end Go.Proofs.YthgcfklfpllgnaaDoor
/-
  The program's chargeOfItem and GoodStore: what they answer, by the plain functions. GoodStore fills a set of keys and a set of tokens and compares their sizes.
-/
namespace Go.Proofs.YthgcfklfpllgnaaDoor
namespace Store
open Go.RowKit Base GoodKey Items Keep Go.Maps
set_option linter.unusedVariables false

set_option maxRecDepth 10000 in
set_option maxHeartbeats 400000 in
theorem chargeOf_any (x : Itm) (w : World) (hf : Small x) :
    Calls Tryd.prog 62 #[.agg #[.string x.key, .int .i64 x.flags, .string x.data, .int .i64 x.upto, .int .i64 x.token]] w fun e w' => e = .returned (.int .i64 (charge x)) ∧ Below w.heap.size w w' := by
  obtain ⟨hk, hd⟩ := hf
  go_enter Tryd.func62, Tryd.ntmps62
  go_wp2
  go_ret
  exact ⟨ret_int rfl, bel1 w _⟩

theorem keyLaw : Keyed Tryd.prog 9 := string_keyed Tryd.underlying9
theorem tokLaw : Keyed Tryd.prog 3 := int_keyed Tryd.underlying3

end Store
end Go.Proofs.YthgcfklfpllgnaaDoor
