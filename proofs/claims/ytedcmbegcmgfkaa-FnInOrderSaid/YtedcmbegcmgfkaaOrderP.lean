/-
  What goes out is a beginning of all answers in order, and all of them once none is left: of the plain function. No Go function is spoken of here.
-/
import Derived.Test.YtedcmbegcmgfkaaPlayP
namespace Go.Proofs.Ytedcmbegcmgfkaa
namespace Rnd
open Go.RowKit Base Slots Sess
set_option linter.unusedVariables false

def catL : List ByteArray → ByteArray
  | [] => ByteArray.empty
  | t :: r => t ++ catL r
theorem cat_append (a b : List ByteArray) : catL (a ++ b) = catL a ++ catL b := by
  induction a with
  | nil => simp [catL]
  | cons t r ih => rw [List.cons_append, catL, catL, ih, ByteArray.append_assoc]
theorem cat_take (ts : List ByteArray) (k : Nat) (hk : k < ts.length) : catL (ts.take (k + 1)) = catL (ts.take k) ++ ts.getD k ByteArray.empty := by
  rw [List.take_succ_eq_append_getElem hk, cat_append]
  simp [catL, List.getD_eq_getElem?_getD, hk]
theorem cat_size (ts : List ByteArray) (h : ∀ k, k < ts.length → (ts.getD k ByteArray.empty).size ≤ 3000) : (catL ts).size ≤ 3000 * ts.length := by
  induction ts with
  | nil => simp [catL]
  | cons t r ih =>
    have h0 : t.size ≤ 3000 := h 0 (by simp)
    have := ih (fun k hk => h (k + 1) (by simpa using hk))
    rw [catL, ByteArray.size_append, List.length_cons]
    omega
/-- What is done at the front is the answers that come next. -/
theorem pop_next (ts : List ByteArray) (l : List D) (m : Nat) (hm : m + l.length ≤ ts.length) (h : ∀ i, i < l.length → (l.getD i zero).done = true → (l.getD i zero).answer = ts.getD (m + i) ByteArray.empty) :
    ∃ p, p ≤ l.length ∧ popL l = l.drop p ∧ popS l = catL ((ts.drop m).take p) ∧ (0 < (popL l).length → ((popL l).getD 0 zero).done = false) := by
  induction l generalizing m with
  | nil => exact ⟨0, Nat.le_refl _, rfl, rfl, fun h => by simp [popL] at h⟩
  | cons x r ih =>
    rw [List.length_cons] at hm
    cases hd : x.done
    · obtain ⟨e1, e2⟩ := pop_cons_open (r := r) hd
      refine ⟨0, Nat.zero_le _, by rw [e1]; rfl, by rw [e2]; simp [catL], fun _ => by rw [e1]; exact hd⟩
    · obtain ⟨e1, e2⟩ := pop_cons_done (r := r) hd
      obtain ⟨p, hp, h1, h2, h3⟩ := ih (m + 1) (by omega) (fun i hi hdn => by
        have := h (i + 1) (by simpa using hi) (by simpa using hdn)
        rw [show m + 1 + i = m + (i + 1) by omega]
        simpa using this)
      have hx : x.answer = ts.getD m ByteArray.empty := h 0 (by simp) hd
      refine ⟨p + 1, by simpa using hp, by rw [e1, h1]; rfl, ?_, by rw [e1]; exact h3⟩
      rw [e2, h2]
      have hmt : m < ts.length := by omega
      rw [List.drop_eq_getElem_cons hmt, List.take_succ_cons, catL, hx]
      simp [List.getD_eq_getElem?_getD, hmt]
structure Ord (ts : List ByteArray) (s : Pl) : Prop where
  ex : ∃ m, m ≤ ts.length ∧ s.l.length = ts.length - m ∧ (∀ i, i < s.l.length → (s.l.getD i zero).id = ((m + i : Nat) : Int) ∧ ((s.l.getD i zero).done = true → (s.l.getD i zero).answer = ts.getD (m + i) ByteArray.empty)) ∧ s.out = catL (ts.take m)
  head : 0 < s.l.length → (s.l.getD 0 zero).done = false
theorem ord_init (ts : List ByteArray) : Ord ts ⟨initL ts.length, ByteArray.empty⟩ := by
  refine ⟨⟨0, Nat.zero_le _, by rw [init_len]; omega, fun i hi => ?_, by simp [catL]⟩, fun h => ?_⟩
  · rw [init_len] at hi
    rw [init_get ts.length i hi]
    exact ⟨by simp, fun h => by simp at h⟩
  · rw [init_len] at h
    rw [init_get ts.length 0 h]
theorem ord_step {ts : List ByteArray} {s : Pl} (h : Ord ts s) (id : Int) : Ord ts (stepP ts s id) := by
  unfold stepP
  split
  · rename_i hid
    split
    · rename_i hok
      obtain ⟨⟨m, hm, hl, hs, ho⟩, hh⟩ := h
      have hF : finR s.l id (ansAt ts id) = ⟨popL (closeL s.l id (ansAt ts id)), popS (closeL s.l id (ansAt ts id)), true⟩ := by
        unfold finR at hok ⊢
        split
        · rfl
        · rename_i q
          rw [if_neg q] at hok
          simp at hok
      rw [hF]
      have hc : ∀ i, i < (closeL s.l id (ansAt ts id)).length → ((closeL s.l id (ansAt ts id)).getD i zero).id = ((m + i : Nat) : Int) ∧ (((closeL s.l id (ansAt ts id)).getD i zero).done = true → ((closeL s.l id (ansAt ts id)).getD i zero).answer = ts.getD (m + i) ByteArray.empty) := by
        intro i hi
        rw [closeL_len] at hi
        rw [closeL_get s.l id (ansAt ts id) i hi]
        obtain ⟨q1, q2⟩ := hs i hi
        refine ⟨by rw [shut_id]; exact q1, ?_⟩
        unfold shut
        split
        · rename_i hit
          intro _
          have : (s.l.getD i zero).id = id := by simp [hitB] at hit; exact hit.1
          show ansAt ts id = _
          unfold ansAt
          rw [show id.toNat = m + i by omega]
        · exact q2
      have hcl := closeL_len s.l id (ansAt ts id)
      obtain ⟨p, hp, h1, h2, h3⟩ := pop_next ts (closeL s.l id (ansAt ts id)) m (by omega) (fun i hi => (hc i hi).2)
      refine ⟨⟨m + p, by omega, ?_, fun i hi => ?_, ?_⟩, h3⟩
      · show (popL (closeL s.l id (ansAt ts id))).length = _
        rw [h1, List.length_drop]; omega
      · have hi' : i < (popL (closeL s.l id (ansAt ts id))).length := hi
        rw [h1, List.length_drop] at hi'
        show ((popL (closeL s.l id (ansAt ts id))).getD i zero).id = _ ∧ (((popL (closeL s.l id (ansAt ts id))).getD i zero).done = true → ((popL (closeL s.l id (ansAt ts id))).getD i zero).answer = _)
        rw [h1, drop_get, show m + p + i = m + (p + i) by omega]
        exact hc (p + i) (by omega)
      · show s.out ++ popS (closeL s.l id (ansAt ts id)) = _
        rw [ho, h2, List.take_add, cat_append]
    · exact h
  · exact h
theorem ord_fold {ts : List ByteArray} {s : Pl} (h : Ord ts s) (order : List Int) : Ord ts (foldP ts s order) := by
  unfold foldP
  induction order generalizing s with
  | nil => exact h
  | cons x r ih => exact ih (ord_step h x)
/-- The promise. -/
theorem in_order (order : List Int) (ts : List ByteArray) : (playR order ts).ok = true → ∃ r, catL ts = (playR order ts).s ++ r ∧ ((playR order ts).n = 0 → r = ByteArray.empty) := by
  intro hok
  unfold playR at hok ⊢
  split
  · have ⟨⟨m, hm, hl, hs, ho⟩, hh⟩ := ord_fold (ord_init ts) order
    refine ⟨catL (ts.drop m), ?_, fun hn => ?_⟩
    · show catL ts = (foldP ts ⟨initL ts.length, ByteArray.empty⟩ order).out ++ _
      rw [ho, ← cat_append, List.take_append_drop]
    · have hz : (openL (foldP ts ⟨initL ts.length, ByteArray.empty⟩ order).l).length = 0 := by
        have : ((openL (foldP ts ⟨initL ts.length, ByteArray.empty⟩ order).l).length : Int) = 0 := hn
        omega
      have h0 : (foldP ts ⟨initL ts.length, ByteArray.empty⟩ order).l.length = 0 := by
        rcases Nat.eq_zero_or_pos (foldP ts ⟨initL ts.length, ByteArray.empty⟩ order).l.length with q | q
        · exact q
        · have hd := hh q
          generalize (foldP ts ⟨initL ts.length, ByteArray.empty⟩ order).l = L at hz q hd
          cases L with
          | nil => simp at q
          | cons x r =>
            have hd' : x.done = false := hd
            simp [openL, hd'] at hz
      rw [show m = ts.length by omega]
      simp [catL]
  · rename_i q
    rw [if_neg q] at hok
    simp at hok
theorem out_size {order : List Int} {ts : List ByteArray} (h : (playR order ts).ok = true) : fitB ts = true := by
  unfold playR at h
  split at h
  · rename_i q; exact q.1
  · simp at h
theorem no_out {order : List Int} {ts : List ByteArray} (h : (playR order ts).ok = false) : (playR order ts).s = ByteArray.empty := by
  unfold playR at h ⊢
  split
  · rename_i q
    rw [if_pos q] at h
    simp at h
  · rfl
end Rnd
end Go.Proofs.Ytedcmbegcmgfkaa
