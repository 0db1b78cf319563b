/-
  What MergeAnswers tells, as plain data. No Go function is spoken of here.
-/
import Derived.Test.YtghckjmpcokhcaaGreatDoorItemsZ
import Derived.Test.YtghckjmpcokhcaaGreatDoorRdY
import Derived.Test.YtghckjmpcokhcaaGreatDoorMarkZ
namespace Go.Proofs.YtghckjmpcokhcaaGreatDoor
namespace Merge
open Go.RowKit Base Items Split Rd Vals
set_option linter.unusedVariables false

/-- The node of the p-th part. -/
def nd (os : List ByteArray) (n p : Nat) : ByteArray := ow os ((firsts os n).getD p 0)
theorem nd_inj {os : List ByteArray} {n p q : Nat} (hp : p < (firsts os n).length) (hq : q < (firsts os n).length) (h : nd os n p = nd os n q) : p = q := by
  unfold nd at h
  simp only [List.getD_eq_getElem?_getD, List.getElem?_eq_getElem hp, List.getElem?_eq_getElem hq, Option.getD_some] at h
  exact (List.getElem_inj (firsts_nodup os n)).1 (firsts_ow (List.getElem_mem hp) (List.getElem_mem hq) h)
theorem nd_ex {os : List ByteArray} {n k : Nat} (hk : k < n) : ∃ p, p < (firsts os n).length ∧ nd os n p = ow os k := by
  obtain ⟨i, hi, hb, he⟩ := first_ex (os := os) k
  obtain ⟨p, hp, e⟩ := List.mem_iff_getElem.1 (firsts_mem.2 ⟨Nat.lt_of_le_of_lt hi hk, hb⟩)
  refine ⟨p, hp, ?_⟩
  unfold nd
  simp only [List.getD_eq_getElem?_getD, List.getElem?_eq_getElem hp, Option.getD_some, e]
  exact he
open Classical in
/-- A node's items, of the rows in the parts' order. -/
noncomputable def rowOf (os : List ByteArray) (n : Nat) (rows : List (List Itm)) (o : ByteArray) : List Itm :=
  if h : ∃ p, p < (firsts os n).length ∧ nd os n p = o then rows.getD (Classical.choose h) [] else []
theorem rowOf_nd {os : List ByteArray} {n p : Nat} {rows : List (List Itm)} (hp : p < (firsts os n).length) : rowOf os n rows (nd os n p) = rows.getD p [] := by
  have hex : ∃ q, q < (firsts os n).length ∧ nd os n q = nd os n p := ⟨p, hp, rfl⟩
  unfold rowOf
  rw [dif_pos hex]
  obtain ⟨h1, h2⟩ := Classical.choose_spec hex
  rw [nd_inj h1 hp h2]
theorem rowOf_mem {os : List ByteArray} {n : Nat} {rows : List (List Itm)} {o : ByteArray} {x : Itm} (h : x ∈ rowOf os n rows o) : ∃ r ∈ rows, x ∈ r := by
  unfold rowOf at h
  split at h
  · rename_i hex
    rw [List.getD_eq_getElem?_getD] at h
    cases hr : rows[Classical.choose hex]? with
    | none => rw [hr] at h; simp at h
    | some r => rw [hr] at h; exact ⟨r, List.mem_of_getElem? hr, h⟩
  · simp at h
/-- Every part's items find their keys. -/
def AllTaken (os ks : List ByteArray) (n : Nat) (rows : List (List Itm)) : Prop := ∀ p, p < (firsts os n).length → rm os ks (nd os n p) (rows.getD p []) n = []
/-- Every answer can be read. -/
def AllRead (token : Bool) (ans : List ByteArray) (rows : List (List Itm)) : Prop := rows.length = ans.length ∧ ∀ i, i < ans.length → Reads (ow ans i) token (rows.getD i [])
theorem read_unique {token : Bool} {ans : List ByteArray} {r r' : List (List Itm)} (h : AllRead token ans r) (h' : AllRead token ans r') : r = r' := by
  apply List.ext_getElem (h.1.trans h'.1.symm)
  intro i h1 h2
  have e := reads_unique (h.2 i (by rw [← h.1]; exact h1)) (h'.2 i (by rw [← h'.1]; exact h2))
  simpa [List.getD_eq_getElem?_getD, List.getElem?_eq_getElem h1, List.getElem?_eq_getElem h2] using e
/-- The rows that the answers hold, and all of them taken. -/
structure Merges (os ks : List ByteArray) (n : Nat) (ans : List ByteArray) (token : Bool) (rows : List (List Itm)) : Prop where
  len : ans.length = (firsts os n).length
  read : AllRead token ans rows
  all : AllTaken os ks n rows
open Classical in
/-- What MergeAnswers tells where the nodes and the keys are good. -/
noncomputable def mgR (os ks : List ByteArray) (n : Nat) (ans : List ByteArray) (token : Bool) : Option ByteArray :=
  if h : ∃ rows, Merges os ks n ans token rows then some (told token (outs os ks (rowOf os n (Classical.choose h)) n) ++ lastS) else none
theorem mgR_some {os ks ans : List ByteArray} {n : Nat} {token : Bool} {rows : List (List Itm)} (h : Merges os ks n ans token rows) : mgR os ks n ans token = some (told token (outs os ks (rowOf os n rows) n) ++ lastS) := by
  have hex : ∃ rows, Merges os ks n ans token rows := ⟨rows, h⟩
  unfold mgR
  rw [dif_pos hex, read_unique (Classical.choose_spec hex).read h.read]
theorem mgR_none {os ks ans : List ByteArray} {n : Nat} {token : Bool} (h : ∀ rows, ¬ Merges os ks n ans token rows) : mgR os ks n ans token = none := by
  unfold mgR
  rw [dif_neg (fun ⟨r, hr⟩ => h r hr)]
/-- An answer that can't be read. -/
theorem mg_unread {os ks ans : List ByteArray} {n i : Nat} {token : Bool} (hi : i < ans.length) (h : rdR (ow ans i) token = none) : mgR os ks n ans token = none := by
  refine mgR_none (fun rows hm => ?_)
  rw [rdR_some (hm.read.2 i hi)] at h
  simp at h
/-- Another number of answers than of parts. -/
theorem mg_len {os ks ans : List ByteArray} {n : Nat} {token : Bool} (h : ans.length ≠ (firsts os n).length) : mgR os ks n ans token = none := mgR_none (fun rows hm => h hm.len)
/-- A part's items are not all taken. -/
theorem mg_left {os ks ans : List ByteArray} {n i : Nat} {token : Bool} {L : List Itm} (hi : i < ans.length) (hr : rdR (ow ans i) token = some L) (h : rm os ks (nd os n i) L n ≠ []) : mgR os ks n ans token = none := by
  refine mgR_none (fun rows hm => ?_)
  have h1 := rdR_some (hm.read.2 i hi)
  rw [hr] at h1
  simp only [Option.some.injEq] at h1
  exact h (by rw [h1]; exact hm.all i (by rw [← hm.len]; exact hi))
/-- What is merged can be told. -/
theorem outs_ok {os ks ans : List ByteArray} {n : Nat} {token : Bool} {rows : List (List Itm)} (h : AllRead token ans rows) : Okay token (outs os ks (rowOf os n rows) n) := by
  intro x hx
  obtain ⟨k, _, hk⟩ := outs_mem hx
  obtain ⟨r, hr, hx'⟩ := rowOf_mem hk
  obtain ⟨i, hi, e⟩ := List.mem_iff_getElem.1 hr
  have h1 := (h.2 i (by rw [← h.1]; exact hi)).ok
  rw [List.getD_eq_getElem?_getD, List.getElem?_eq_getElem hi, Option.getD_some, e] at h1
  exact h1 x hx'
theorem outs_text {os ks ans : List ByteArray} {n : Nat} {token : Bool} {rows : List (List Itm)} (h : AllRead token ans rows) (hn : n ≤ 60) : (vtR (outs os ks (rowOf os n rows) n) token).ok = true ∧ (vtR (outs os ks (rowOf os n rows) n) token).s = told token (outs os ks (rowOf os n rows) n) ++ lastS := by
  have hl := outs_len os ks (rowOf os n rows) n
  have ha : (outs os ks (rowOf os n rows) n).all (fun x => goodV x token) = true := List.all_eq_true.2 (fun x hx => (outs_ok h x hx).1)
  unfold vtR
  rw [if_neg (by omega), if_pos ha]
  exact ⟨rfl, rfl⟩
end Merge
end Go.Proofs.YtghckjmpcokhcaaGreatDoor
/-
  What takeItems leaves, as plain data and in memory. No Go function is spoken of here.
-/
namespace Go.Proofs.YtghckjmpcokhcaaGreatDoor
namespace Merge
open Go.RowKit Base Items Split Marks
set_option linter.unusedVariables false

/-- A slice of items in block g, if it has one. -/
def PIt (w : World) (g : Nat) (a : Option Addr) (l : List Itm) : Prop := l ≠ [] → ∃ o, a = some ⟨g, o, none⟩ ∧ ∀ i, i < l.length → At w g (o + i * 5) (l.getD i zero)
theorem PIt.head {w : World} {g : Nat} {a : Option Addr} {l : List Itm} {d : Nat} (h : PIt w g a (l.drop d)) (hd : d < l.length) : ∃ o, a = some ⟨g, o, none⟩ ∧ At w g o (l.getD d zero) ∧ PIt w g (some ⟨g, o + 5, none⟩) (l.drop (d + 1)) := by
  obtain ⟨o, ha, hc⟩ := h (fun e => by have := congrArg List.length e; simp at this; omega)
  have e0 : ∀ i, (l.drop d).getD i zero = l.getD (d + i) zero := fun i => by simp [List.getD_eq_getElem?_getD]
  have h0 := hc 0 (by simp; omega)
  simp only [e0, Nat.zero_mul, Nat.add_zero] at h0
  refine ⟨o, ha, h0, fun _ => ⟨o + 5, rfl, fun i hi => ?_⟩⟩
  have h2 := hc (i + 1) (by simp at hi ⊢; omega)
  rw [e0] at h2
  have e1 : (l.drop (d + 1)).getD i zero = l.getD (d + (i + 1)) zero := by simp [List.getD_eq_getElem?_getD]; congr 1; congr 1; omega
  rw [e1, show o + 5 + i * 5 = o + (i + 1) * 5 by omega]
  exact h2
theorem pit_next {w : World} {g o cc d : Nat} {l : List Itm} (h : PIt w g (some ⟨g, o + 5, none⟩) (l.drop (d + 1))) (hc : l.length - d ≤ cc) (a : Option Addr) (ha : cc ≠ 1 → a = some ⟨g, o + 5, none⟩) : PIt w g a (l.drop (d + 1)) := by
  by_cases h1 : cc = 1
  · exact fun hne => absurd (List.drop_eq_nil_of_le (by omega)) hne
  · rw [ha h1]; exact h
/-- What a place holds behind its key's turn. -/
def Took (w : World) (g : Nat) (old v : Value) : Option Itm → Prop
  | none => v = old
  | some x => ∃ o c, v = .slice (some ⟨g, o, none⟩) 1 c ∧ At w g o x ∧ 1 ≤ c
/-- What the first q places of P have left. -/
structure Did (w : World) (g : Nat) (ks : List ByteArray) (P : List Nat) (its : List Itm) (F F' : Nat → Value) (q : Nat) : Prop where
  at' : ∀ j, j < q → Took w g (F (P.getD j 0)) (F' (P.getD j 0)) (hit ks (tk ks (P.take j) its) (P.getD j 0))
  off : ∀ k, (∀ j, j < q → P.getD j 0 ≠ k) → F' k = F k
theorem did_start (w : World) (g : Nat) (ks : List ByteArray) (P : List Nat) (its : List Itm) (F : Nat → Value) : Did w g ks P its F F 0 := ⟨fun j hj => absurd hj (by omega), fun _ _ => rfl⟩
theorem getD_get {P : List Nat} {q : Nat} (h : q < P.length) : P.getD q 0 = P[q] := by simp [List.getD_eq_getElem?_getD, List.getElem?_eq_getElem h]
theorem nodup_ne {P : List Nat} (hP : P.Nodup) {j q : Nat} (h : j < q) (hq : q < P.length) : P.getD j 0 ≠ P.getD q 0 := by
  rw [getD_get hq, getD_get (by omega)]
  intro e
  have := (List.getElem_inj hP).1 e
  omega
theorem did_miss {w : World} {g : Nat} {ks : List ByteArray} {P : List Nat} {its : List Itm} {F F' : Nat → Value} {q : Nat} (h : Did w g ks P its F F' q) (hP : P.Nodup) (hq : q < P.length) (hm : hit ks (tk ks (P.take q) its) (P.getD q 0) = none) : Did w g ks P its F F' (q + 1) := by
  refine ⟨fun j hj => ?_, fun k hk => h.off k (fun j hj => hk j (by omega))⟩
  by_cases e : j < q
  · exact h.at' j e
  · obtain rfl : j = q := by omega
    rw [hm]
    exact h.off _ (fun i hi => nodup_ne hP hi hq)
theorem did_hit {w : World} {g o c : Nat} {ks : List ByteArray} {P : List Nat} {its : List Itm} {F F' : Nat → Value} {q : Nat} {x : Itm} (h : Did w g ks P its F F' q) (hP : P.Nodup) (hq : q < P.length) (hm : hit ks (tk ks (P.take q) its) (P.getD q 0) = some x) (hx : At w g o x) (hc : 1 ≤ c) :
    Did w g ks P its F (fun k => if k = P.getD q 0 then .slice (some ⟨g, o, none⟩) 1 c else F' k) (q + 1) := by
  refine ⟨fun j hj => ?_, fun k hk => ?_⟩
  · by_cases e : j < q
    · show Took w g _ (if _ then _ else _) _
      rw [if_neg (nodup_ne hP e hq)]
      exact h.at' j e
    · obtain rfl : j = q := by omega
      rw [hm]
      exact ⟨o, c, if_pos rfl, hx, hc⟩
  · show (if _ then _ else _) = _
    rw [if_neg (fun e => hk q (by omega) e.symm)]
    exact h.off k (fun j hj => hk j (by omega))
theorem drop_hit {ks : List ByteArray} {P : List Nat} {its : List Itm} {q d : Nat} (ht : its.drop d = tk ks (P.take q) its) (hq : q < P.length) (hd : d < its.length) (hk : (its.getD d zero).key = ow ks (P.getD q 0)) :
    its.drop (d + 1) = tk ks (P.take (q + 1)) its ∧ hit ks (tk ks (P.take q) its) (P.getD q 0) = some (its.getD d zero) := by
  have e : its.drop d = its.getD d zero :: its.drop (d + 1) := by
    rw [List.drop_eq_getElem_cons hd, List.getD_eq_getElem?_getD, List.getElem?_eq_getElem hd]; rfl
  rw [tk_next hq, ← getD_get hq, ← ht, e]
  unfold step hit
  dsimp only
  rw [if_pos hk, if_pos hk]
  exact ⟨rfl, rfl⟩
theorem drop_miss {ks : List ByteArray} {P : List Nat} {its : List Itm} {q d : Nat} (ht : its.drop d = tk ks (P.take q) its) (hq : q < P.length) (h : ¬ (d < its.length ∧ (its.getD d zero).key = ow ks (P.getD q 0))) :
    its.drop d = tk ks (P.take (q + 1)) its ∧ hit ks (tk ks (P.take q) its) (P.getD q 0) = none := by
  rw [tk_next hq, ← getD_get hq, ← ht]
  by_cases hd : d < its.length
  · have hk : ¬ (its.getD d zero).key = ow ks (P.getD q 0) := fun e => h ⟨hd, e⟩
    have e : its.drop d = its.getD d zero :: its.drop (d + 1) := by
      rw [List.drop_eq_getElem_cons hd, List.getD_eq_getElem?_getD, List.getElem?_eq_getElem hd]; rfl
    rw [e]
    unfold step hit
    dsimp only
    rw [if_neg hk, if_neg hk]
    exact ⟨rfl, rfl⟩
  · rw [List.drop_eq_nil_of_le (by omega)]
    exact ⟨rfl, rfl⟩
end Merge
end Go.Proofs.YtghckjmpcokhcaaGreatDoor
/-
  How far the program's MergeAnswers has come: what each key has taken when some parts are done. No Go function is spoken of here.
-/
namespace Go.Proofs.YtghckjmpcokhcaaGreatDoor
namespace Merge
open Go.RowKit Base Items Split Marks
set_option linter.unusedVariables false

theorem at_block {w w' : World} {b o : Nat} {x : Itm} (h : At w b o x) (e : w'.heap[b]? = w.heap[b]?) : At w' b o x := by
  obtain ⟨c0, c1, c2, c3, c4⟩ := h
  exact ⟨(World.cell?_of_block (a := ⟨b, _, none⟩) e).trans c0, (World.cell?_of_block (a := ⟨b, _, none⟩) e).trans c1, (World.cell?_of_block (a := ⟨b, _, none⟩) e).trans c2, (World.cell?_of_block (a := ⟨b, _, none⟩) e).trans c3, (World.cell?_of_block (a := ⟨b, _, none⟩) e).trans c4⟩
/-- What a key's place holds: nothing, or its item. -/
def Holds (w : World) (tb : Nat) (v : Value) : Option Itm → Prop
  | none => v = .slice none 0 0
  | some x => ∃ g o c, v = .slice (some ⟨g, o, none⟩) 1 c ∧ At w g o x ∧ 1 ≤ c ∧ g ≠ tb ∧ g < w.heap.size
theorem Holds.block {w w' : World} {tb : Nat} {v : Value} {x : Option Itm} (h : Holds w tb v x) (hb : ∀ g, g < w.heap.size → g ≠ tb → w'.heap[g]? = w.heap[g]?) (hz : w.heap.size ≤ w'.heap.size) : Holds w' tb v x := by
  cases x with
  | none => exact h
  | some x =>
    obtain ⟨g, o, c, hv, hat, hc, hg, hl⟩ := h
    exact ⟨g, o, c, hv, at_block hat (hb g hl hg), hc, hg, Nat.lt_of_lt_of_le hl hz⟩
/-- When the first i parts are done. -/
def Sofar (w : World) (tb : Nat) (os ks : List ByteArray) (n i : Nat) (rows : List (List Itm)) (F : Nat → Value) : Prop :=
  ∀ k, k < n → (∃ j, j < i ∧ nd os n j = ow os k ∧ Holds w tb (F k) (em os ks (rows.getD j []) k)) ∨ ((∀ j, j < i → nd os n j ≠ ow os k) ∧ F k = .slice none 0 0)
theorem Sofar.block {w w' : World} {tb : Nat} {os ks : List ByteArray} {n i : Nat} {rows : List (List Itm)} {F : Nat → Value} (h : Sofar w tb os ks n i rows F) (hb : ∀ g, g < w.heap.size → g ≠ tb → w'.heap[g]? = w.heap[g]?) (hz : w.heap.size ≤ w'.heap.size) : Sofar w' tb os ks n i rows F := by
  intro k hk
  rcases h k hk with ⟨j, hj, he, hh⟩ | h'
  · exact .inl ⟨j, hj, he, hh.block hb hz⟩
  · exact .inr h'
theorem sofar_zero (w : World) (tb : Nat) (os ks : List ByteArray) (n : Nat) (F : Nat → Value) (h : ∀ k, k < n → F k = .slice none 0 0) : Sofar w tb os ks n 0 [] F := fun k hk => .inr ⟨fun j hj => absurd hj (by omega), h k hk⟩
theorem getD_snoc {rows : List (List Itm)} {its : List Itm} {j : Nat} (h : j < rows.length) : (rows ++ [its]).getD j [] = rows.getD j [] := by
  simp [List.getD_eq_getElem?_getD, List.getElem?_append_left h]
theorem getD_last {rows : List (List Itm)} {its : List Itm} : (rows ++ [its]).getD rows.length [] = its := by simp [List.getD_eq_getElem?_getD]
/-- One part more. -/
theorem sofar_step {w w' : World} {tb g : Nat} {os ks : List ByteArray} {n : Nat} {rows : List (List Itm)} {its : List Itm} {F F' : Nat → Value} (h : Sofar w tb os ks n rows.length rows F) (hi : rows.length < (firsts os n).length)
    (hd : Did w g ks (places os n (nd os n rows.length)) its F F' (places os n (nd os n rows.length)).length) (hg : g ≠ tb) (hgl : g < w.heap.size) (hb : ∀ g, g < w.heap.size → g ≠ tb → w'.heap[g]? = w.heap[g]?) (hz : w.heap.size ≤ w'.heap.size) :
    Sofar w' tb os ks n (rows.length + 1) (rows ++ [its]) F' := by
  intro k hk
  by_cases ho : nd os n rows.length = ow os k
  · -- the key is of this part
    left
    refine ⟨rows.length, by omega, ho, ?_⟩
    rw [getD_last]
    have hm : k ∈ places os n (nd os n rows.length) := by rw [ho]; exact places_mem.2 ⟨hk, rfl⟩
    obtain ⟨j, hj, e⟩ := List.mem_iff_getElem.1 hm
    have ht := hd.at' j hj
    rw [getD_get hj, e, tk_at hj, e] at ht
    have hF : F k = .slice none 0 0 := by
      rcases h k hk with ⟨j', hj', he', _⟩ | h'
      · have := nd_inj (os := os) (n := n) (by omega) hi (he'.trans ho.symm)
        omega
      · exact h'.2
    rw [hF, ho] at ht
    have : em os ks its k = hit ks (rm os ks (ow os k) its k) k := rfl
    rw [this]
    cases hx : hit ks (rm os ks (ow os k) its k) k with
    | none => rw [hx] at ht; exact ht
    | some x =>
      rw [hx] at ht
      obtain ⟨o, c, hv, hat, hc⟩ := ht
      exact ⟨g, o, c, hv, at_block hat (hb g hgl hg), hc, hg, Nat.lt_of_lt_of_le hgl hz⟩
  · -- it is of another one
    have hoff : F' k = F k := hd.off k (fun j hj e => ho (by
      have hm : k ∈ places os n (nd os n rows.length) := by rw [← e, getD_get hj]; exact List.getElem_mem _
      exact (places_mem.1 hm).2.symm))
    rcases h k hk with ⟨j, hj, he, hh⟩ | ⟨h1, h2⟩
    · left
      refine ⟨j, by omega, he, ?_⟩
      rw [hoff, getD_snoc hj]
      exact hh.block hb hz
    · right
      refine ⟨fun j hj => ?_, hoff.trans h2⟩
      by_cases e : j < rows.length
      · exact h1 j e
      · obtain rfl : j = rows.length := by omega
        exact ho
/-- When all are done. -/
theorem sofar_all {w : World} {tb : Nat} {os ks : List ByteArray} {n : Nat} {rows : List (List Itm)} {F : Nat → Value} (h : Sofar w tb os ks n (firsts os n).length rows F) (k : Nat) (hk : k < n) : Holds w tb (F k) (em os ks (rowOf os n rows (ow os k)) k) := by
  obtain ⟨p, hp, hpe⟩ := nd_ex (os := os) hk
  rcases h k hk with ⟨j, hj, he, hh⟩ | ⟨h1, _⟩
  · rw [← he, rowOf_nd hj]; exact hh
  · exact absurd hpe (h1 p hp)
end Merge
end Go.Proofs.YtghckjmpcokhcaaGreatDoor
