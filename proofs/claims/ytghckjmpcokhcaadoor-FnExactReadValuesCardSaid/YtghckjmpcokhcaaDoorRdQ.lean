/-
  The items of which a text is the ValuesText, as plain data. No Go function is spoken of here.
-/
import Derived.Test.YtghckjmpcokhcaaDoorRdP
namespace Go.Proofs.YtghckjmpcokhcaaDoor
namespace Rd
open Go.RowKit Base Items Store GoodKey NumText Sp Count Vals
set_option linter.unusedVariables false

def Okay (token : Bool) (l : List Itm) : Prop := ∀ x ∈ l, goodV x token = true ∧ Canon x token
structure Reads (s : ByteArray) (token : Bool) (l : List Itm) : Prop where
  len : l.length ≤ 60
  ok : Okay token l
  txt : told token l ++ lastS = s
theorem rv_last (token : Bool) : rv lastS token = none := by
  cases h : rv lastS token with
  | none => rfl
  | some p =>
    obtain ⟨x, r⟩ := p
    obtain ⟨h1, _, _⟩ := rv_sound h
    have e := congrArg (fun b => (bl b).head?) h1
    simp only [bl_app, value_bl] at e
    have e1 : (bl lastS).head? = some 69 := rfl
    rw [e1] at e
    unfold wordsOf join at e
    have e2 : bl wordS = [86, 65, 76, 85, 69] := rfl
    rw [e2] at e
    simp at e
theorem value_ne (x : Itm) (token : Bool) : 0 < (Shelf.valueR x token).size := by
  rw [← bl_len, value_bl, List.length_append, List.length_cons]; omega
theorem told_cons (token : Bool) (x : Itm) (l : List Itm) : told token (x :: l) = Shelf.valueR x token ++ told token l := rfl
/-- What has been read is a beginning of what can be read. -/
theorem prefix_of {token : Bool} {its L : List Itm} {cur : ByteArray} (h1 : Okay token its) (h2 : Okay token L) (h : told token L ++ lastS = told token its ++ cur) : ∃ L', L = its ++ L' ∧ cur = told token L' ++ lastS := by
  induction its generalizing L with
  | nil => exact ⟨L, rfl, by rw [h]; simp [told]⟩
  | cons x its ih =>
    have hx := h1 x (by simp)
    rw [told_cons, ByteArray.append_assoc] at h
    have hr := rv_complete hx.1 hx.2 (told token its ++ cur)
    rw [← h] at hr
    cases L with
    | nil =>
      have : told token [] ++ lastS = lastS := by simp [told]
      rw [this, rv_last] at hr
      exact absurd hr (by simp)
    | cons y L =>
      have hy := h2 y (by simp)
      rw [told_cons, ByteArray.append_assoc, rv_complete hy.1 hy.2] at hr
      simp only [Option.some.injEq, Prod.mk.injEq] at hr
      obtain ⟨rfl, hr⟩ := hr
      obtain ⟨L', e1, e2⟩ := ih (fun z hz => h1 z (by simp [hz])) (fun z hz => h2 z (by simp [hz])) hr
      exact ⟨L', by rw [e1]; rfl, e2⟩
theorem reads_unique {s : ByteArray} {token : Bool} {l m : List Itm} (h1 : Reads s token l) (h2 : Reads s token m) : l = m := by
  obtain ⟨L', e1, e2⟩ := prefix_of (cur := lastS) h1.ok h2.ok (by rw [h2.txt, h1.txt])
  cases L' with
  | nil => rw [e1]; simp
  | cons y L' =>
    have := congrArg ByteArray.size e2
    have := value_ne y token
    simp only [told, ByteArray.size_append] at *
    omega
open Classical in
/-- What ReadValues tells. -/
noncomputable def rdR (s : ByteArray) (token : Bool) : Option (List Itm) := if h : ∃ l, Reads s token l then some (Classical.choose h) else none
theorem rdR_some {s : ByteArray} {token : Bool} {l : List Itm} (h : Reads s token l) : rdR s token = some l := by
  have hex : ∃ l, Reads s token l := ⟨l, h⟩
  unfold rdR
  rw [dif_pos hex, reads_unique (Classical.choose_spec hex) h]
theorem rdR_none {s : ByteArray} {token : Bool} (h : ∀ l, ¬ Reads s token l) : rdR s token = none := by
  unfold rdR
  rw [dif_neg (fun ⟨l, hl⟩ => h l hl)]
/-- How far the program has read. -/
structure Far (s : ByteArray) (token : Bool) (its : List Itm) (cur : ByteArray) : Prop where
  len : its.length ≤ 60
  ok : Okay token its
  txt : s = told token its ++ cur
theorem far_start (s : ByteArray) (token : Bool) : Far s token [] s := ⟨Nat.zero_le _, by simp [Okay], by simp [told]⟩
theorem far_done {s : ByteArray} {token : Bool} {its : List Itm} (h : Far s token its lastS) : rdR s token = some its := rdR_some ⟨h.len, h.ok, h.txt.symm⟩
theorem far_stuck {s cur : ByteArray} {token : Bool} {its : List Itm} (h : Far s token its cur) (hne : cur ≠ lastS) (hr : rv cur token = none) : rdR s token = none := by
  refine rdR_none (fun L hL => ?_)
  obtain ⟨L', e1, e2⟩ := prefix_of h.ok hL.ok (by rw [hL.txt, ← h.txt])
  cases L' with
  | nil => exact hne (by rw [e2]; simp [told])
  | cons y L' =>
    have hy := hL.ok y (by rw [e1]; simp)
    rw [e2, told_cons, ByteArray.append_assoc, rv_complete hy.1 hy.2] at hr
    exact absurd hr (by simp)
theorem far_full {s cur : ByteArray} {token : Bool} {its : List Itm} (h : Far s token its cur) (hne : cur ≠ lastS) (h60 : its.length = 60) : rdR s token = none := by
  refine rdR_none (fun L hL => ?_)
  obtain ⟨L', e1, e2⟩ := prefix_of h.ok hL.ok (by rw [hL.txt, ← h.txt])
  cases L' with
  | nil => exact hne (by rw [e2]; simp [told])
  | cons y L' =>
    have := hL.len
    rw [e1, List.length_append, List.length_cons] at this
    omega
theorem far_step {s cur r : ByteArray} {token : Bool} {its : List Itm} {x : Itm} (h : Far s token its cur) (h60 : its.length ≠ 60) (hr : rv cur token = some (x, r)) : Far s token (its ++ [x]) r ∧ r.size < cur.size := by
  obtain ⟨h1, h2, h3⟩ := rv_sound hr
  refine ⟨⟨?_, ?_, ?_⟩, ?_⟩
  · have := h.len; rw [List.length_append]; simp; omega
  · intro y hy
    rw [List.mem_append] at hy
    rcases hy with hy | hy
    · exact h.ok y hy
    · simp at hy; subst hy; exact ⟨h2, h3⟩
  · rw [h.txt, told_append, h1]
    have e : told token [x] = Shelf.valueR x token := by simp [told]
    rw [e, ByteArray.append_assoc]
  · have := value_ne x token
    rw [h1, ByteArray.size_append]; omega
end Rd
end Go.Proofs.YtghckjmpcokhcaaDoor
