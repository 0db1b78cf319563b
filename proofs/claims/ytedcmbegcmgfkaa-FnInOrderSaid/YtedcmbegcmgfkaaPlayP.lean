/-
  Playing a session, as a plain function of the order and the answers. No Go function is spoken of here.
-/
import Derived.Test.YtedcmbegcmgfkaaRndF
namespace Go.Proofs.Ytedcmbegcmgfkaa
namespace Rnd
open Go.RowKit Base Slots Sess
set_option linter.unusedVariables false

structure Pl where
  l : List D
  out : ByteArray
def ansAt (ts : List ByteArray) (id : Int) : ByteArray := ts.getD id.toNat ByteArray.empty
def stepP (ts : List ByteArray) (s : Pl) (id : Int) : Pl :=
  if 0 ≤ id ∧ id < ts.length then if (finR s.l id (ansAt ts id)).ok = true then ⟨(finR s.l id (ansAt ts id)).l, s.out ++ (finR s.l id (ansAt ts id)).s⟩ else s else s
def foldP (ts : List ByteArray) (s : Pl) (order : List Int) : Pl := order.foldl (stepP ts) s
def initL (n : Nat) : List D := (List.range n).map (fun (i : Nat) => (⟨(i : Int), false, ByteArray.empty⟩ : D))
def fitB (ts : List ByteArray) : Bool := decide ((ts.length : Int) ≤ 30) && ts.all (fun a => decide ((a.size : Int) ≤ 3000))
theorem init_succ (n : Nat) : initL (n + 1) = initL n ++ [⟨n, false, ByteArray.empty⟩] := by simp [initL, List.range_succ]
theorem init_len (n : Nat) : (initL n).length = n := by simp [initL]
theorem init_get (n i : Nat) (h : i < n) : (initL n).getD i zero = ⟨i, false, ByteArray.empty⟩ := by
  rw [getD_lt _ _ (by rw [init_len]; exact h)]
  simp [initL]
theorem init_rising (n : Nat) : Rising (initL n) := by
  intro i j hij hj
  rw [init_len] at hj
  rw [init_get n i (by omega), init_get n j hj]
  show (i : Int) < (j : Int)
  omega
theorem init_small (n : Nat) : Small (initL n) := by
  intro i hi
  rw [init_len] at hi
  rw [init_get n i hi]
  simp
theorem fit_1 {ts : List ByteArray} (h : 30 < (ts.length : Int)) : fitB ts = false := by unfold fitB; rw [decide_eq_false (by omega)]; rfl
theorem fit_2 {ts : List ByteArray} {k : Nat} (hk : k < ts.length) (h : 3000 < ((ts.getD k ByteArray.empty).size : Int)) : fitB ts = false := by
  have ha : ts.all (fun a => decide ((a.size : Int) ≤ 3000)) = false := by
    rw [List.all_eq_false]
    refine ⟨ts[k], List.getElem_mem hk, ?_⟩
    have e : ts.getD k ByteArray.empty = ts[k] := by simp [List.getD_eq_getElem?_getD, hk]
    rw [e] at h
    simp; omega
  unfold fitB; rw [ha]; simp
theorem fit_3 {ts : List ByteArray} (h : ¬ 30 < (ts.length : Int)) (hs : ∀ k, k < ts.length → ((ts.getD k ByteArray.empty).size : Int) ≤ 3000) : fitB ts = true := by
  have ha : ts.all (fun a => decide ((a.size : Int) ≤ 3000)) = true := by
    rw [List.all_eq_true]
    intro a hm
    obtain ⟨k, hk, rfl⟩ := List.getElem_of_mem hm
    have := hs k hk
    have e : ts.getD k ByteArray.empty = ts[k] := by simp [List.getD_eq_getElem?_getD, hk]
    rw [e] at this
    simp; omega
  unfold fitB; rw [ha, decide_eq_true (by omega)]; rfl
theorem fit_len {ts : List ByteArray} (h : fitB ts = true) : ts.length ≤ 30 := by
  unfold fitB at h
  simp only [Bool.and_eq_true, decide_eq_true_eq] at h
  omega
theorem fit_size {ts : List ByteArray} (h : fitB ts = true) (k : Nat) (hk : k < ts.length) : (ts.getD k ByteArray.empty).size ≤ 3000 := by
  unfold fitB at h
  simp only [Bool.and_eq_true, decide_eq_true_eq, List.all_eq_true] at h
  have := h.2 ts[k] (List.getElem_mem hk)
  have e : ts.getD k ByteArray.empty = ts[k] := by simp [List.getD_eq_getElem?_getD, hk]
  rw [e]
  omega
/-- What holds of a session that is played. -/
structure Inv (s : Pl) (m : Nat) : Prop where
  rising : Rising s.l
  small : Small s.l
  len : s.l.length ≤ 30
  size : s.out.size ≤ 90000 * m
theorem fin_ok {l : List D} {id : Int} {ans : ByteArray} (hr : Rising l) (hs : Small l) (ha : ans.size ≤ 3000) : Rising (finR l id ans).l ∧ Small (finR l id ans).l ∧ (finR l id ans).l.length ≤ l.length ∧ (finR l id ans).s.size ≤ 3000 * l.length := by
  unfold finR
  split
  · refine ⟨pop_rising (close_rising hr id ans), pop_small (close_small hs id ha), ?_, ?_⟩
    · have := popL_len (closeL l id ans)
      rw [closeL_len] at this
      exact this
    · have := popS_size (close_small hs id ha)
      rw [closeL_len] at this
      exact this
  · exact ⟨hr, hs, Nat.le_refl _, by simp⟩
theorem ans_size {ts : List ByteArray} (h : fitB ts = true) {id : Int} (h0 : 0 ≤ id) (h1 : id < ts.length) : (ansAt ts id).size ≤ 3000 := fit_size h id.toNat (by omega)
theorem inv_step {ts : List ByteArray} (hf : fitB ts = true) {s : Pl} {m : Nat} (h : Inv s m) (id : Int) : Inv (stepP ts s id) (m + 1) := by
  unfold stepP
  split
  · rename_i hid
    have hq := fin_ok (id := id) h.rising h.small (ans_size hf hid.1 hid.2)
    split
    · refine ⟨hq.1, hq.2.1, Nat.le_trans hq.2.2.1 h.len, ?_⟩
      show (s.out ++ (finR s.l id (ansAt ts id)).s).size ≤ _
      rw [ByteArray.size_append]
      have := hq.2.2.2
      have := h.len
      have := h.size
      omega
    · exact ⟨h.rising, h.small, h.len, by have := h.size; omega⟩
  · exact ⟨h.rising, h.small, h.len, by have := h.size; omega⟩
theorem fold_take (ts : List ByteArray) (s : Pl) (order : List Int) (k : Nat) (hk : k < order.length) : foldP ts s (order.take (k + 1)) = stepP ts (foldP ts s (order.take k)) (order.getD k 0) := by
  unfold foldP
  rw [List.take_succ_eq_append_getElem hk, List.foldl_append]
  simp [List.getD_eq_getElem?_getD, hk]
theorem inv_fold {ts : List ByteArray} (hf : fitB ts = true) {s : Pl} (h : Inv s 0) (order : List Int) (k : Nat) (hk : k ≤ order.length) : Inv (foldP ts s (order.take k)) k := by
  induction k with
  | zero => simpa [foldP] using h
  | succ k ih =>
    rw [fold_take ts s order k (by omega)]
    exact inv_step hf (ih (by omega)) _
theorem step_out {ts : List ByteArray} {s : Pl} {id : Int} (h : ¬ (0 ≤ id ∧ id < ts.length)) : stepP ts s id = s := by unfold stepP; rw [if_neg h]
theorem step_in {ts : List ByteArray} {s : Pl} {id : Int} (h : 0 ≤ id ∧ id < ts.length) : stepP ts s id = if (finR s.l id (ansAt ts id)).ok = true then ⟨(finR s.l id (ansAt ts id)).l, s.out ++ (finR s.l id (ansAt ts id)).s⟩ else s := by unfold stepP; rw [if_pos h]
theorem inv_init (n : Nat) (h : n ≤ 30) : Inv ⟨initL n, ByteArray.empty⟩ 0 := ⟨init_rising n, init_small n, by rw [init_len]; exact h, by simp⟩
theorem fold_all (ts : List ByteArray) (s : Pl) (order : List Int) : foldP ts s (order.take order.length) = foldP ts s order := by rw [List.take_length]

/-- PlaySession, plain. -/
structure Played where
  s : ByteArray
  n : Int
  ok : Bool
def playR (order : List Int) (ts : List ByteArray) : Played :=
  if fitB ts = true ∧ order.length ≤ 100 then ⟨(foldP ts ⟨initL ts.length, ByteArray.empty⟩ order).out, (openL (foldP ts ⟨initL ts.length, ByteArray.empty⟩ order).l).length, true⟩ else ⟨ByteArray.empty, 0, false⟩
theorem play_no {order : List Int} {ts : List ByteArray} (h : ¬ (fitB ts = true ∧ order.length ≤ 100)) : playR order ts = ⟨ByteArray.empty, 0, false⟩ := by unfold playR; rw [if_neg h]
theorem play_ok {order : List Int} {ts : List ByteArray} (h : fitB ts = true) (h2 : order.length ≤ 100) : playR order ts = ⟨(foldP ts ⟨initL ts.length, ByteArray.empty⟩ order).out, (openL (foldP ts ⟨initL ts.length, ByteArray.empty⟩ order).l).length, true⟩ := by unfold playR; rw [if_pos ⟨h, h2⟩]
end Rnd
end Go.Proofs.Ytedcmbegcmgfkaa
