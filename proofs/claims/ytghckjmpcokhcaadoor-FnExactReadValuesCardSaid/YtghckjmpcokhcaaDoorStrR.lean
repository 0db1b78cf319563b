/-
  A law of append over texts. No Go function is spoken of here.
-/
import Derived.Test.YtghckjmpcokhcaaDoorStringW
import Derived.Deep.RegionLaw
import Derived.Deep.AppendLies
import Derived.Laws.OwnMore
import Derived.Outline
namespace Go.Proofs.YtghckjmpcokhcaaDoor
namespace StrR
open Go.RowKit Base Marks OwnR StringsW
set_option linter.unusedVariables false

theorem info_ex : ∃ i, Tryd.prog.info? 9 = some i ∧ i.zero = some (.string ByteArray.empty) ∧ i.size = 1 ∧ i.bytes = 16 := by
  have h : (Tryd.prog.info? 9).map (fun i => (i.zero, i.size, i.bytes)) = some (some (.string ByteArray.empty), 1, 16) := by kernel_rfl
  obtain ⟨i, hi, hz⟩ := Option.map_eq_some_iff.1 h
  simp only [Prod.mk.injEq] at hz
  exact ⟨i, hi, hz.1, hz.2.1, hz.2.2⟩
def OwnV (w : World) (B : Nat) (v : Value) (l : List ByteArray) : Prop := w.ownsRow B 9 1 v l.length (flat l)
theorem flat_length (l : List ByteArray) : (flat l).length = l.length := by simp [flat]
theorem flat_oneCell (l : List ByteArray) : ∀ u ∈ flat l, u.oneCell' = true := by
  intro u hu
  simp only [flat, List.mem_map] at hu
  obtain ⟨x, _, rfl⟩ := hu
  rfl
theorem news_lat {w : World} {b off : Nat} {l : List ByteArray} (hc : ∀ i, i < l.length → w.cell? ⟨b, off + i, none⟩ = some (.string (l.getD i ByteArray.empty))) (j : Nat) (u : Value) (hj : (flat l)[j]? = some u) : w.cell? ((⟨b, off, none⟩ : Addr).add j) = some u := by
  have hlt : j < l.length := by have := (List.getElem?_eq_some_iff.1 hj).1; rwa [flat_length] at this
  rw [Go.WideShapes.add_plain, hc j hlt]
  rw [flat_get l j hlt] at hj
  exact hj
/-- What is appended: texts that lie in memory, or nothing at all. -/
def Src (w : World) (a : Option Addr) (n cap : Nat) (l : List ByteArray) : Prop :=
  (a = none ∧ n = 0 ∧ cap = 0 ∧ l = []) ∨ ∃ b off, a = some ⟨b, off, none⟩ ∧ b < w.heap.size ∧ n = l.length ∧ ∀ i, i < l.length → w.cell? ⟨b, off + i, none⟩ = some (.string (l.getD i ByteArray.empty))
theorem Src.below {w w' : World} {a : Option Addr} {n cap : Nat} {l : List ByteArray} {B : Nat} (h : Src w a n cap l) (hb : Below B w w') (hB : w.heap.size ≤ B) : Src w' a n cap l := by
  rcases h with h | ⟨b, off, ha, hlt, hn, hc⟩
  · exact .inl h
  · exact .inr ⟨b, off, ha, Nat.lt_of_lt_of_le hlt hb.size, hn, fun i hi => (hb.cell (p := ⟨b, off + i, none⟩) (Nat.lt_of_lt_of_le hlt hB)).trans (hc i hi)⟩
theorem Src.len {w : World} {a : Option Addr} {n cap : Nat} {l : List ByteArray} (h : Src w a n cap l) : n = l.length := by
  rcases h with ⟨_, h, _, rfl⟩ | ⟨b, off, _, _, h, _⟩
  · exact h
  · exact h
theorem src_one {w : World} {g : Nat} {x : ByteArray} (h : w.cell? ⟨g, 0, none⟩ = some (.string x)) : Src w (some ⟨g, 0, none⟩) 1 1 [x] := by
  refine .inr ⟨g, 0, rfl, block_lt_of_cell h, rfl, fun i hi => ?_⟩
  obtain rfl : i = 0 := by simpa using hi
  exact h
theorem src_row {w : World} {g n cap : Nat} {l : List ByteArray} (h : RowAt w g 9 l.length (scell l)) (hn : n = l.length) : Src w (some ⟨g, 0, none⟩) n cap l :=
  .inr ⟨g, 0, rfl, h.lt, hn, fun i hi => by rw [Nat.zero_add]; exact h.cell hi⟩
theorem gr_refl (w : World) (r : Option Nat) : w.grownBy w r := ⟨rfl, rfl, rfl, Nat.le_refl _, fun _ _ _ => rfl⟩
section
variable {ops : Array Oper} {o : Oper} {a : Act} {K : Act → World → Prop} {Q : Exit → Act → World → Prop} {E : Prop}
theorem append_post {w' : World} {B g0 c0 n m : Nat} {l news : List ByteArray} {v' : Value} (hn : n = l.length) (hm : news.length = m) (h2 : w'.ownsRow B 9 1 v' (l.length + m) (flat l ++ flat news)) (h4 : v' = .slice none 0 0 ↔ (Value.slice (some ⟨g0, 0, none⟩) n c0) = .slice none 0 0 ∧ m = 0) :
    ∃ g cap, v' = .slice (some ⟨g, 0, none⟩) (l.length + m) cap ∧ OwnV w' B (.slice (some ⟨g, 0, none⟩) (l.length + m) cap) (l ++ news) := by
  have e : l.length + m = (l ++ news).length := by rw [List.length_append, hm]
  rw [e, ← flat_append] at h2
  rcases h2.2 with ⟨hv, _⟩ | ⟨g, cap, cur, hv, _⟩
  · have := (h4.1 hv).1
    simp at this
  · subst hv
    rw [← e] at h2 ⊢
    refine ⟨g, cap, rfl, ?_⟩
    unfold OwnV
    rw [← e]
    exact h2
theorem wp_slots (w : World) (s x : Operand) (ho : o.op = .call { callee := .builtin .append, args := #[s, x], argTypes := #[34, 34] }) (B g0 c0 n : Nat) (l : List ByteArray) (hs : a.eval s = .slice (some ⟨g0, 0, none⟩) n c0) (hrow : OwnV w B (.slice (some ⟨g0, 0, none⟩) n c0) l) (hn : n = l.length)
    (ad : Addr) (m c : Nat) (news : List ByteArray) (hx : a.eval x = .slice (some ad) m c) (hm : news.length = m) (hnews : ∀ j u, (flat news)[j]? = some u → w.cell? (ad.add j) = some u) (r : Nat) (hr : n + m = r) (hl : r ≤ 1000) (hB : B ≤ w.heap.size)
    (h : ∀ g cap w', OwnV w' B (.slice (some ⟨g, 0, none⟩) r cap) (l ++ news) → w.grownBy w' (some g0) → K (a.put o.dst (.slice (some ⟨g, 0, none⟩) r cap)) w') : Oper.wp Tryd.prog o a w K Q := by
  obtain ⟨i0, hi, hz0, hz1, hz2⟩ := info_ex
  subst hn
  subst hr
  refine wp_append_own w s x 34 ho B 9 i0 _ 1 16 Tryd.underlying34 hi hz0 hz1 hz2 rfl (by decide) _ _ _ hs hrow ad m c (flat news) hx (by rw [flat_length, hm, Nat.mul_one]) hnews (flat_oneCell news) (by unfold maxLen; omega) (by omega) hB ?_
  intro v' w' h2 h3 h4
  obtain ⟨g, cap, rfl, hr⟩ := append_post rfl hm h2 h4
  exact h g cap w' hr h3
theorem wp_append_none {P : Program} {w : World} (s x : Operand) (t : TypeId) (ho : o.op = .call { callee := .builtin .append, args := #[s, x], argTypes := #[t, t] }) (base : Nat) (e : TypeId) (i : TypeInfo) (size : Nat) (ht : P.underlying t = some (.slice e)) (hi : P.info? e = some i)
    (v : Value) (n : Nat) (xs : List Value) (hs : a.eval s = v) (hown : w.ownsRow base e size v n xs) (hx : a.eval x = .slice none 0 0) (h : K (a.put o.dst v) w) : Oper.wp P o a w K Q := by
  have hrun := run_append_owned_none (P := P) (w := w) base t o.type e i size ht hi v n xs hown
  unfold Oper.wp execOp
  simp only [ho, resolve, invoke, builtin, Sem.run_bind, Sem.run_pure, Result.andThen_ok, List.map_toArray, List.map_cons, List.map_nil, hs, hx, hrun]
  exact h
theorem wp_src (w : World) (s x : Operand) (ho : o.op = .call { callee := .builtin .append, args := #[s, x], argTypes := #[34, 34] }) (B g0 c0 n : Nat) (l : List ByteArray) (hs : a.eval s = .slice (some ⟨g0, 0, none⟩) n c0) (hrow : OwnV w B (.slice (some ⟨g0, 0, none⟩) n c0) l) (hn : n = l.length)
    (src : Option Addr) (m c : Nat) (news : List ByteArray) (hx : a.eval x = .slice src m c) (hsrc : Src w src m c news) (r : Nat) (hr : n + m = r) (hl : r ≤ 1000) (hB : B ≤ w.heap.size)
    (h : ∀ g cap w', OwnV w' B (.slice (some ⟨g, 0, none⟩) r cap) (l ++ news) → w.grownBy w' (some g0) → K (a.put o.dst (.slice (some ⟨g, 0, none⟩) r cap)) w') : Oper.wp Tryd.prog o a w K Q := by
  rcases hsrc with ⟨rfl, rfl, rfl, rfl⟩ | ⟨b, off, rfl, hb, hm, hc⟩
  · obtain ⟨i0, hi, hz0, hz1, hz2⟩ := info_ex
    have hk := h g0 c0 w (by rw [List.append_nil, ← hr, Nat.add_zero]; exact hrow) (gr_refl w _)
    rw [← hr, Nat.add_zero] at hk
    exact wp_append_none s x 34 ho B 9 i0 1 Tryd.underlying34 hi _ _ _ hs hrow hx hk
  · exact wp_slots w s x ho B g0 c0 n l hs hrow hn ⟨b, off, none⟩ m c news hx hm.symm (news_lat hc) r hr hl hB h
theorem step_src (w : World) (hgd : o.guard = none) (s x : Operand) (ho : o.op = .call { callee := .builtin .append, args := #[s, x], argTypes := #[34, 34] }) (B g0 c0 n : Nat) (l : List ByteArray) (hs : a.eval s = .slice (some ⟨g0, 0, none⟩) n c0) (hrow : OwnV w B (.slice (some ⟨g0, 0, none⟩) n c0) l) (hn : n = l.length)
    (src : Option Addr) (m c : Nat) (news : List ByteArray) (hx : a.eval x = .slice src m c) (hsrc : Src w src m c news) (r : Nat) (hr : n + m = r) (hl : r ≤ 1000) (hB : B ≤ w.heap.size)
    (h : ∀ g cap w', OwnV w' B (.slice (some ⟨g, 0, none⟩) r cap) (l ++ news) → w.grownBy w' (some g0) → K (a.put o.dst (.slice (some ⟨g, 0, none⟩) r cap)) w') :
    if Region.wanted o (yielded ops a.tmps) = true then Oper.wp Tryd.prog o a w K Q else E := by
  have hw : Region.wanted o (yielded ops a.tmps) = true := by simp [Region.wanted, hgd]
  rw [if_pos hw]
  exact wp_src w s x ho B g0 c0 n l hs hrow hn src m c news hx hsrc r hr hl hB h
theorem list_src {rest : List Oper} (w : World) (hgd : o.guard = none) (s x : Operand) (ho : o.op = .call { callee := .builtin .append, args := #[s, x], argTypes := #[34, 34] }) (B g0 c0 n : Nat) (l : List ByteArray) (hs : a.eval s = .slice (some ⟨g0, 0, none⟩) n c0) (hrow : OwnV w B (.slice (some ⟨g0, 0, none⟩) n c0) l) (hn : n = l.length)
    (src : Option Addr) (m c : Nat) (news : List ByteArray) (hx : a.eval x = .slice src m c) (hsrc : Src w src m c news) (r : Nat) (hr : n + m = r) (hl : r ≤ 1000) (hB : B ≤ w.heap.size)
    (h : ∀ g cap w', OwnV w' B (.slice (some ⟨g, 0, none⟩) r cap) (l ++ news) → w.grownBy w' (some g0) → wpList Tryd.prog ops Q rest (a.put o.dst (.slice (some ⟨g, 0, none⟩) r cap)) w') : wpList Tryd.prog ops Q (o :: rest) a w :=
  wpList_plain hgd fun _ hK => wp_src w s x ho B g0 c0 n l hs hrow hn src m c news hx hsrc r hr hl hB fun g cap w' h2 h3 => hK _ _ (h g cap w' h2 h3)
theorem step_one (w : World) (hgd : o.guard = none) (s x : Operand) (ho : o.op = .call { callee := .builtin .append, args := #[s, x], argTypes := #[34, 34] }) (B : Nat) (v : Value) (l : List ByteArray) (hs : a.eval s = v) (hrow : OwnV w B v l)
    (b off : Nat) (x0 : ByteArray) (hx : a.eval x = .slice (some ⟨b, off, none⟩) 1 1) (hc : w.cell? ⟨b, off, none⟩ = some (.string x0)) (hl : l.length < 1000) (hB : B ≤ w.heap.size)
    (h : ∀ g cap w', OwnV w' B (.slice (some ⟨g, 0, none⟩) (l.length + 1) cap) (l ++ [x0]) → w.grownBy w' v.ownBlock → K (a.put o.dst (.slice (some ⟨g, 0, none⟩) (l.length + 1) cap)) w') :
    if Region.wanted o (yielded ops a.tmps) = true then Oper.wp Tryd.prog o a w K Q else E := by
  have hw : Region.wanted o (yielded ops a.tmps) = true := by simp [Region.wanted, hgd]
  rw [if_pos hw]
  obtain ⟨i0, hi, hz0, hz1, hz2⟩ := info_ex
  refine wp_append_own w s x 34 ho B 9 i0 _ 1 16 Tryd.underlying34 hi hz0 hz1 hz2 rfl (by decide) _ _ _ hs hrow ⟨b, off, none⟩ 1 1 [.string x0] hx rfl ?_ (news_one x0) (by unfold maxLen; omega) (by omega) hB ?_
  · intro j u hj
    match j with
    | 0 => simp at hj; subst hj; rw [Go.WideShapes.add_plain]; exact hc
    | j + 1 => simp at hj
  · intro v' w' h2 h3 h4
    rcases h2.2 with ⟨_, h0⟩ | ⟨g, cap, cur, hv, _⟩
    · omega
    · subst hv
      refine h g cap w' ?_ h3
      unfold OwnV
      rw [flat_append, List.length_append]
      exact h2
end
theorem row_empty (w : World) {B : Nat} (hB : B ≤ w.heap.size) : OwnV (w.alloc (.cells #[] 9)) B (.slice (some ⟨w.heap.size, 0, none⟩) 0 0) [] :=
  ⟨rfl, .inr ⟨w.heap.size, 0, #[], rfl, hB, heap_alloc_new w _, Nat.le_refl _, Nat.zero_le _, rfl, rfl⟩⟩
theorem own_row {w : World} {B g n cap : Nat} {l : List ByteArray} (h : OwnV w B (.slice (some ⟨g, 0, none⟩) n cap) l) : n = l.length ∧ RowAt w g 9 l.length (scell l) := by
  rcases h.2 with ⟨h', _⟩ | ⟨g', cap', cur, h', hB, hg, hn, _, hsz, ht⟩
  · simp at h'
  · simp only [Value.slice.injEq, Option.some.injEq, Addr.mk.injEq, and_true] at h'
    obtain ⟨rfl, h2, rfl⟩ := h'
    refine ⟨h2, cur, hg, by omega, fun i hi => ?_⟩
    have e := flat_get l i hi
    rw [← ht, List.getElem?_take, if_pos (by omega)] at e
    simpa using e
theorem OwnV.lt {w : World} {B b n cap : Nat} {l : List ByteArray} (h : OwnV w B (.slice (some ⟨b, 0, none⟩) n cap) l) : b < w.heap.size ∧ B ≤ b := by
  rcases h.2 with ⟨h', _⟩ | ⟨g', cap', cur, h', hB, hg, _⟩
  · simp at h'
  · simp only [Value.slice.injEq, Option.some.injEq, Addr.mk.injEq, and_true] at h'
    obtain ⟨rfl, h2, rfl⟩ := h'
    exact ⟨(Array.getElem?_eq_some_iff.1 hg).1, hB⟩
end StrR
end Go.Proofs.YtghckjmpcokhcaaDoor
