/-
  Forgetting and storing, as plain functions of the items. No Go function is spoken of here.
-/
import Derived.Test.YthgcfklfpllgnaaDoorZ10
import Derived.Test.YthgcfklfpllgnaaDoorZ11
import Derived.Deep.RegionHeld3
import Derived.Deep.AppendLies
import Derived.Laws.OwnMore
import Derived.Deep.RegionWith
import Derived.Outline
namespace Go.Proofs.YthgcfklfpllgnaaDoor
namespace Store
open Go.RowKit Base GoodKey Items
set_option linter.unusedVariables false

/-- There is room. -/
def fitsB (lim : Int) (l : List Itm) : Bool := decide (total l ≤ lim) && decide ((l.length : Int) ≤ 60)
/-- How many are forgotten. -/
def trimN (lim : Int) : List Itm → Nat
  | [] => 0
  | x :: r => if fitsB lim (x :: r) = true then 0 else trimN lim r + 1
theorem trimN_le (lim : Int) : ∀ l : List Itm, trimN lim l ≤ l.length
  | [] => Nat.le_refl _
  | x :: r => by
    rw [trimN]
    split
    · omega
    · have := trimN_le lim r; simp; omega
theorem trimN_fit {lim : Int} {l : List Itm} (h : fitsB lim l = true) : trimN lim l = 0 := by
  cases l with
  | nil => rfl
  | cons x r => rw [trimN, if_pos h]
theorem trimN_step {lim : Int} {its : List Itm} {k : Nat} (hk : k < its.length) (h : fitsB lim (its.drop k) = false) : trimN lim (its.drop k) = trimN lim (its.drop (k + 1)) + 1 := by
  rw [List.drop_eq_getElem_cons hk] at h ⊢
  rw [trimN, if_neg (by rw [h]; simp)]
/-- The items without the one with a key. -/
def without (its : List Itm) (key : ByteArray) : List Itm := match atN its key with | some k => its.eraseIdx k | none => its
/-- What is stored: the items and how many were forgotten; nothing where it can't be stored. -/
def putR (lim nx : Int) (its : List Itm) (x : Itm) : Option (List Itm × Nat) :=
  if lim < charge x ∨ nx = 1000000000 then none
  else some ((without its x.key ++ [{ x with token := nx }]).drop (trimN lim (without its x.key ++ [{ x with token := nx }])), trimN lim (without its x.key ++ [{ x with token := nx }]))
end Store
end Go.Proofs.YthgcfklfpllgnaaDoor
/-
  Rows of items that a call has made itself, and appends to them; the model's l2Without and l2Last.
-/
namespace Go.Proofs.YthgcfklfpllgnaaDoor
namespace Rw
open Go.RowKit Base GoodKey Items Store Own
set_option linter.unusedVariables false

def Row (w : World) (B : Nat) (v : Value) (its : List Itm) : Prop := w.ownsRow B 92 5 v its.length (flat its)
theorem Row.below {w w' : World} {B C : Nat} {v : Value} {its : List Itm} (h : Row w B v its) (hb : Below C w w') (hC : w.heap.size ≤ C) : Row w' B v its := own_below h hb hC
theorem Row.le {w : World} {B C : Nat} {v : Value} {its : List Itm} (h : Row w B v its) (hC : C ≤ B) : Row w C v its := own_le h hC
theorem Row.drew {w : World} {B : Nat} {v : Value} {its : List Itm} (h : Row w B v its) : Row w.drew B v its := own_below h (Below.refl w.heap.size w).drew (Nat.le_refl _)
theorem Row.cells {w : World} {B b n cap : Nat} {its : List Itm} (h : Row w B (.slice (some ⟨b, 0, none⟩) n cap) its) (hn : n = its.length) (j : Nat) (hj : j < its.length * 5) : w.cell? ⟨b, j, none⟩ = (flat its)[j]? := by
  subst hn
  exact World.ownsRow.cellAt h j hj
theorem Row.lt {w : World} {B b n cap : Nat} {its : List Itm} (h : Row w B (.slice (some ⟨b, 0, none⟩) n cap) its) : b < w.heap.size ∧ B ≤ b ∧ its.length ≤ cap := by
  rcases h.2 with ⟨h', _⟩ | ⟨g', cap', cur, h', hB, hg, hc, _, _, _⟩
  · simp at h'
  · simp only [Value.slice.injEq, Option.some.injEq, Addr.mk.injEq, and_true] at h'
    obtain ⟨rfl, h2, rfl⟩ := h'
    exact ⟨(Array.getElem?_eq_some_iff.1 hg).1, hB, hc⟩
theorem Row.at {w : World} {B b n cap : Nat} {its : List Itm} (h : Row w B (.slice (some ⟨b, 0, none⟩) n cap) its) (hn : n = its.length) (i : Nat) (hi : i < its.length) : At w b (0 + i * 5) (its.getD i zero) := by
  have hc := fun j hj => h.cells hn j hj
  rw [Nat.zero_add]
  refine ⟨?_, ?_, ?_, ?_, ?_⟩
  · rw [hc _ (by omega), flat_get _ _ (by omega), icell, show (i * 5) % 5 = 0 by omega, show (i * 5) / 5 = i by omega]; simp
  · rw [hc _ (by omega), flat_get _ _ (by omega), icell, show (i * 5 + 1) % 5 = 1 by omega, show (i * 5 + 1) / 5 = i by omega]; simp
  · rw [hc _ (by omega), flat_get _ _ (by omega), icell, show (i * 5 + 2) % 5 = 2 by omega, show (i * 5 + 2) / 5 = i by omega]; simp
  · rw [hc _ (by omega), flat_get _ _ (by omega), icell, show (i * 5 + 3) % 5 = 3 by omega, show (i * 5 + 3) / 5 = i by omega]; simp
  · rw [hc _ (by omega), flat_get _ _ (by omega), icell, show (i * 5 + 4) % 5 = 4 by omega, show (i * 5 + 4) / 5 = i by omega]; simp
/-- A row is nothing at all, or it has a head of its own. -/
theorem Row.form {w : World} {B : Nat} {v : Value} {its : List Itm} (h : Row w B v its) : (v = .slice none 0 0 ∧ its = []) ∨ ∃ b cap, v = .slice (some ⟨b, 0, none⟩) its.length cap := by
  rcases h.2 with ⟨h', h0⟩ | ⟨g', cap', cur, h', _⟩
  · exact .inl ⟨h', List.eq_nil_of_length_eq_zero h0⟩
  · exact .inr ⟨g', cap', h'⟩
theorem Row.has {w : World} {B : Nat} {v : Value} {its : List Itm} (h : Row w B v its) (hne : 0 < its.length) : ∃ b cap, v = .slice (some ⟨b, 0, none⟩) its.length cap := by
  rcases h.form with ⟨_, rfl⟩ | h
  · simp at hne
  · exact h

theorem flat_take (its : List Itm) (k : Nat) (hk : k ≤ its.length) : flat (its.take k) = (flat its).take (k * 5) := by
  have h1 : flat its = flat (its.take k) ++ flat (its.drop k) := by rw [← flat_append, List.take_append_drop]
  have h2 : (flat (its.take k)).length = k * 5 := by rw [flat_length, List.length_take]; omega
  rw [h1, ← h2, List.take_left]
theorem flat_drop (its : List Itm) (k : Nat) (hk : k ≤ its.length) : flat (its.drop k) = (flat its).drop (k * 5) := by
  have h1 : flat its = flat (its.take k) ++ flat (its.drop k) := by rw [← flat_append, List.take_append_drop]
  have h2 : (flat (its.take k)).length = k * 5 := by rw [flat_length, List.length_take]; omega
  rw [h1, ← h2, List.drop_left]
/-- The cells of a part of a row. -/
theorem Row.news_take {w : World} {B b n cap : Nat} {its : List Itm} (h : Row w B (.slice (some ⟨b, 0, none⟩) n cap) its) (hn : n = its.length) (k : Nat) (hk : k ≤ its.length) (j : Nat) (u : Value) (hj : (flat (its.take k))[j]? = some u) : w.cell? ((⟨b, 0, none⟩ : Addr).add j) = some u := by
  rw [Go.WideShapes.add_plain, Nat.zero_add]
  rw [flat_take its k hk, List.getElem?_take] at hj
  split at hj
  · rename_i hlt
    rw [h.cells hn j (by omega)]; exact hj
  · simp at hj
theorem Row.news_drop {w : World} {B b n cap : Nat} {its : List Itm} (h : Row w B (.slice (some ⟨b, 0, none⟩) n cap) its) (hn : n = its.length) (k : Nat) (hk : k ≤ its.length) (j : Nat) (u : Value) (hj : (flat (its.drop k))[j]? = some u) : w.cell? ((⟨b, k * 5, none⟩ : Addr).add j) = some u := by
  rw [Go.WideShapes.add_plain]
  rw [flat_drop its k hk, List.getElem?_drop] at hj
  have hl : k * 5 + j < (flat its).length := by
    rcases Nat.lt_or_ge (k * 5 + j) (flat its).length with h1 | h1
    · exact h1
    · rw [List.getElem?_eq_none h1] at hj; simp at hj
  rw [flat_length] at hl
  rw [h.cells hn _ hl]; exact hj
theorem flat_one' (its : List Itm) : ∀ u ∈ flat its, u.oneCell' = true := by
  intro u hu
  obtain ⟨x, _, hx⟩ := List.mem_flatMap.1 hu
  exact news_one x u hx

theorem row_empty (w : World) {B : Nat} (hB : B ≤ w.heap.size) : Row (w.alloc (.cells #[] 92)) B (.slice (some ⟨w.heap.size, 0, none⟩) 0 0) [] :=
  World.ownsRow_lit (e := 92) (size := 5) w #[] 0 hB (by decide) rfl
section
variable {ops : Array Oper} {o : Oper} {a : Act} {K : Act → World → Prop} {Q : Exit → Act → World → Prop} {E : Prop}
theorem append_post {w' : World} {B g0 c0 n m : Nat} {its news : List Itm} {v' : Value} (hn : n = its.length) (hm : news.length = m) (h2 : w'.ownsRow B 92 5 v' (its.length + m) (flat its ++ flat news)) (h4 : v' = .slice none 0 0 ↔ (Value.slice (some ⟨g0, 0, none⟩) n c0) = .slice none 0 0 ∧ m = 0) :
    ∃ g cap, v' = .slice (some ⟨g, 0, none⟩) (its.length + m) cap ∧ Row w' B (.slice (some ⟨g, 0, none⟩) (its.length + m) cap) (its ++ news) := by
  have e : its.length + m = (its ++ news).length := by rw [List.length_append, hm]
  rw [e, ← flat_append] at h2
  rcases Row.form (its := its ++ news) h2 with ⟨hv, _⟩ | ⟨g, cap, hv⟩
  · have := (h4.1 hv).1
    simp at this
  · subst hv
    rw [← e] at h2 ⊢
    refine ⟨g, cap, rfl, ?_⟩
    unfold Row
    rw [← e]
    exact h2
theorem wp_items (w : World) (s x : Operand) (ho : o.op = .call { callee := .builtin .append, args := #[s, x], argTypes := #[55, 55] }) (B g0 c0 n : Nat) (its : List Itm) (hs : a.eval s = .slice (some ⟨g0, 0, none⟩) n c0) (hrow : Row w B (.slice (some ⟨g0, 0, none⟩) n c0) its) (hn : n = its.length)
    (ad : Addr) (m c : Nat) (news : List Itm) (hx : a.eval x = .slice (some ad) m c) (hm : news.length = m) (hnews : ∀ j u, (flat news)[j]? = some u → w.cell? (ad.add j) = some u) (r : Nat) (hr : n + m = r) (hl : r ≤ 1000) (hB : B ≤ w.heap.size)
    (h : ∀ g cap w', Row w' B (.slice (some ⟨g, 0, none⟩) r cap) (its ++ news) → w.grownBy w' (some g0) → K (a.put o.dst (.slice (some ⟨g, 0, none⟩) r cap)) w') : Oper.wp Tryd.prog o a w K Q := by
  obtain ⟨i0, hi, hz0, hz1, hz2⟩ := info_ex
  subst hn
  subst hr
  refine wp_append_own w s x 55 ho B 92 i0 _ 5 56 Tryd.underlying55 hi hz0 hz1 hz2 rfl (by decide) _ _ _ hs hrow ad m c (flat news) hx (by rw [flat_length, hm]) hnews (flat_one' news) (by unfold maxLen; omega) (by omega) hB ?_
  intro v' w' h2 h3 h4
  obtain ⟨g, cap, rfl, hr⟩ := append_post rfl hm h2 h4
  exact h g cap w' hr h3
theorem step_items (w : World) (hgd : o.guard = none) (s x : Operand) (ho : o.op = .call { callee := .builtin .append, args := #[s, x], argTypes := #[55, 55] }) (B g0 c0 n : Nat) (its : List Itm) (hs : a.eval s = .slice (some ⟨g0, 0, none⟩) n c0) (hrow : Row w B (.slice (some ⟨g0, 0, none⟩) n c0) its) (hn : n = its.length)
    (ad : Addr) (m c : Nat) (news : List Itm) (hx : a.eval x = .slice (some ad) m c) (hm : news.length = m) (hnews : ∀ j u, (flat news)[j]? = some u → w.cell? (ad.add j) = some u) (r : Nat) (hr : n + m = r) (hl : r ≤ 1000) (hB : B ≤ w.heap.size)
    (h : ∀ g cap w', Row w' B (.slice (some ⟨g, 0, none⟩) r cap) (its ++ news) → w.grownBy w' (some g0) → K (a.put o.dst (.slice (some ⟨g, 0, none⟩) r cap)) w') :
    if Region.wanted o (yielded ops a.tmps) = true then Oper.wp Tryd.prog o a w K Q else E := by
  have hw : Region.wanted o (yielded ops a.tmps) = true := by simp [Region.wanted, hgd]
  rw [if_pos hw]
  exact wp_items w s x ho B g0 c0 n its hs hrow hn ad m c news hx hm hnews r hr hl hB h
theorem list_items {rest : List Oper} (w : World) (hgd : o.guard = none) (s x : Operand) (ho : o.op = .call { callee := .builtin .append, args := #[s, x], argTypes := #[55, 55] }) (B g0 c0 n : Nat) (its : List Itm) (hs : a.eval s = .slice (some ⟨g0, 0, none⟩) n c0) (hrow : Row w B (.slice (some ⟨g0, 0, none⟩) n c0) its) (hn : n = its.length)
    (ad : Addr) (m c : Nat) (news : List Itm) (hx : a.eval x = .slice (some ad) m c) (hm : news.length = m) (hnews : ∀ j u, (flat news)[j]? = some u → w.cell? (ad.add j) = some u) (r : Nat) (hr : n + m = r) (hl : r ≤ 1000) (hB : B ≤ w.heap.size)
    (h : ∀ g cap w', Row w' B (.slice (some ⟨g, 0, none⟩) r cap) (its ++ news) → w.grownBy w' (some g0) → wpList Tryd.prog ops Q rest (a.put o.dst (.slice (some ⟨g, 0, none⟩) r cap)) w') : wpList Tryd.prog ops Q (o :: rest) a w :=
  wpList_plain hgd fun _ hK => wp_items w s x ho B g0 c0 n its hs hrow hn ad m c news hx hm hnews r hr hl hB fun g cap w' h2 h3 => hK _ _ (h g cap w' h2 h3)
end
end Rw
end Go.Proofs.YthgcfklfpllgnaaDoor
