/-
  Parts in memory: a row of structs, each with a row of keys of its own; what marks leave. No Go function is spoken of here.
-/
import Derived.Test.YtghckjmpcokhcaaGreatDoorStrY
import Derived.Deep.RegionLaw
import Derived.Deep.AppendLies
import Derived.Laws.OwnMore
import Derived.Outline
import Derived.Test.YtghckjmpcokhcaaGreatDoorSplitA
namespace Go.Proofs.YtghckjmpcokhcaaGreatDoor
namespace Parts
open Go.RowKit Base Marks
set_option linter.unusedVariables false

structure Pt where
  node : ByteArray
  g : Nat
  cap : Nat
  ks : List ByteArray
def pcell (p : Nat → Pt) (j : Nat) : Value := if j % 2 = 0 then .string (p (j / 2)).node else .slice (some ⟨(p (j / 2)).g, 0, none⟩) (p (j / 2)).ks.length (p (j / 2)).cap
theorem pc0 (p : Nat → Pt) (i : Nat) : pcell p (i * 2) = .string (p i).node := by
  unfold pcell; rw [if_pos (by omega), show i * 2 / 2 = i by omega]
theorem pc1 (p : Nat → Pt) (i : Nat) : pcell p (i * 2 + 1) = .slice (some ⟨(p i).g, 0, none⟩) (p i).ks.length (p i).cap := by
  unfold pcell; rw [if_neg (by omega), show (i * 2 + 1) / 2 = i by omega]
/-- They can be read. -/
def Rd (w : World) (g n : Nat) (p : Nat → Pt) : Prop := RowAt w g 31 (n * 2) (pcell p) ∧ ∀ i, i < n → RowAt w (p i).g 9 (p i).ks.length (StringsW.scell (p i).ks)
def RdA (w : World) (a : Option Addr) (n : Nat) (p : Nat → Pt) : Prop := n = 0 ∨ ∃ g, a = some ⟨g, 0, none⟩ ∧ Rd w g n p
/-- All of it lies apart, beyond B. -/
def Apart (B g n : Nat) (p : Nat → Pt) : Prop := B ≤ g ∧ (∀ i, i < n → B ≤ (p i).g ∧ (p i).g ≠ g) ∧ ∀ i j, i < n → j < n → i ≠ j → (p i).g ≠ (p j).g
def OwnA (w : World) (B : Nat) (a : Option Addr) (n : Nat) (p : Nat → Pt) : Prop := n = 0 ∨ ∃ g, a = some ⟨g, 0, none⟩ ∧ Rd w g n p ∧ Apart B g n p
theorem OwnA.rd {w : World} {B : Nat} {a : Option Addr} {n : Nat} {p : Nat → Pt} (h : OwnA w B a n p) : RdA w a n p := by
  rcases h with h | ⟨g, h1, h2, _⟩
  · exact .inl h
  · exact .inr ⟨g, h1, h2⟩
theorem Rd.of_blocks {w w' : World} {g n : Nat} {p : Nat → Pt} (h : Rd w g n p) (hg : w'.heap[g]? = w.heap[g]?) (hp : ∀ i, i < n → w'.heap[(p i).g]? = w.heap[(p i).g]?) : Rd w' g n p :=
  ⟨h.1.of_block hg, fun i hi => (h.2 i hi).of_block (hp i hi)⟩
theorem Rd.below {w w' : World} {g n : Nat} {p : Nat → Pt} (h : Rd w g n p) (hb : Below w.heap.size w w') : Rd w' g n p :=
  h.of_blocks (hb.block g h.1.lt) (fun i hi => hb.block _ (h.2 i hi).lt)
theorem RdA.below {w w' : World} {a : Option Addr} {n : Nat} {p : Nat → Pt} (h : RdA w a n p) (hb : Below w.heap.size w w') : RdA w' a n p := by
  rcases h with h | ⟨g, h1, h2⟩
  · exact .inl h
  · exact .inr ⟨g, h1, h2.below hb⟩
theorem OwnA.below {w w' : World} {B : Nat} {a : Option Addr} {n : Nat} {p : Nat → Pt} (h : OwnA w B a n p) (hb : Below w.heap.size w w') : OwnA w' B a n p := by
  rcases h with h | ⟨g, h1, h2, h3⟩
  · exact .inl h
  · exact .inr ⟨g, h1, h2.below hb, h3⟩
/-- What lies below B is left when others write beyond it, and the other way round. -/
theorem RdA.low {w w' : World} {a : Option Addr} {n : Nat} {p : Nat → Pt} {B : Nat} {w0 : World} (h : RdA w0 a n p) (h0 : Below w0.heap.size w0 w) (hb : Below B w w') (hB : w0.heap.size ≤ B) : RdA w' a n p := by
  rcases h with h | ⟨g, h1, h2⟩
  · exact .inl h
  · refine .inr ⟨g, h1, ?_⟩
    exact (h2.below h0).of_blocks (hb.block g (Nat.lt_of_lt_of_le h2.1.lt hB)) (fun i hi => hb.block _ (Nat.lt_of_lt_of_le (h2.2 i hi).lt hB))
theorem OwnA.gb {w w' : World} {B : Nat} {a : Option Addr} {n : Nat} {p : Nat → Pt} {r : Option Nat} (h : OwnA w B a n p) (hg : w.grownBy w' r) (hr : ∀ k, r = some k → k < B) : OwnA w' B a n p := by
  rcases h with h | ⟨g, h1, h2, h3⟩
  · exact .inl h
  · refine .inr ⟨g, h1, h2.of_blocks (hg.block g h2.1.lt (fun e => ?_)) (fun i hi => hg.block _ (h2.2 i hi).lt (fun e => ?_)), h3⟩
    · have := hr g e.symm; have := h3.1; omega
    · have := hr _ e.symm; have := (h3.2.1 i hi).1; omega
theorem RdA.gb {w w' : World} {a : Option Addr} {n : Nat} {p : Nat → Pt} {r : Option Nat} (h : RdA w a n p) (hg : w.grownBy w' r) (hr : ∀ k, r = some k → ∀ g, a = some ⟨g, 0, none⟩ → k ≠ g ∧ ∀ i, i < n → k ≠ (p i).g) : RdA w' a n p := by
  rcases h with h | ⟨g, h1, h2⟩
  · exact .inl h
  · exact .inr ⟨g, h1, h2.of_blocks (hg.block g h2.1.lt (fun e => (hr g e.symm g h1).1 rfl)) (fun i hi => hg.block _ (h2.2 i hi).lt (fun e => (hr _ e.symm g h1).2 i hi rfl))⟩

/-- All of it lies below B. -/
def LtA (B : Nat) (a : Option Addr) (n : Nat) (p : Nat → Pt) : Prop := n = 0 ∨ ∃ g, a = some ⟨g, 0, none⟩ ∧ g < B ∧ ∀ i, i < n → (p i).g < B
theorem RdA.lt {w : World} {a : Option Addr} {n : Nat} {p : Nat → Pt} (h : RdA w a n p) : LtA w.heap.size a n p := by
  rcases h with h | ⟨g, h1, h2⟩
  · exact .inl h
  · exact .inr ⟨g, h1, h2.1.lt, fun i hi => (h2.2 i hi).lt⟩
theorem RdA.keep {w w' : World} {a : Option Addr} {n B : Nat} {p : Nat → Pt} (h : RdA w a n p) (hl : LtA B a n p) (hb : Below B w w') : RdA w' a n p := by
  rcases h with h | ⟨g, h1, h2⟩
  · exact .inl h
  · rcases hl with hl | ⟨g', h3, h4, h5⟩
    · exact .inl hl
    · rw [h1] at h3
      simp only [Option.some.injEq, Addr.mk.injEq, and_true] at h3
      subst h3
      exact .inr ⟨g, h1, h2.of_blocks (hb.block g h4) (fun i hi => hb.block _ (h5 i hi))⟩
theorem RdA.gbl {w w' : World} {a : Option Addr} {n B k : Nat} {p : Nat → Pt} (h : RdA w a n p) (hl : LtA B a n p) (hg : w.grownBy w' (some k)) (hk : B ≤ k) : RdA w' a n p := by
  rcases h with h | ⟨g, h1, h2⟩
  · exact .inl h
  · rcases hl with hl | ⟨g', h3, h4, h5⟩
    · exact .inl hl
    · rw [h1] at h3
      simp only [Option.some.injEq, Addr.mk.injEq, and_true] at h3
      subst h3
      exact .inr ⟨g, h1, h2.of_blocks (hg.block g h2.1.lt (fun e => by simp at e; omega)) (fun i hi => hg.block _ (h2.2 i hi).lt (fun e => by have := h5 i hi; simp at e; omega))⟩

/-- Where the marks of a part begin. -/
def kAt (p : Nat → Pt) (k : Int) : Nat → Int
  | 0 => k
  | i + 1 => kAt p k i + 1 + (p i).ks.length
def markAt (p : Nat → Pt) (k : Int) (i : Nat) : Pt := { p i with node := mtxt (kAt p k i).toNat, ks := (List.range (p i).ks.length).map (fun j : Nat => mtxt (kAt p k i + 1 + (j : Int)).toNat) }
theorem markAt_len (p : Nat → Pt) (k : Int) (i : Nat) : (markAt p k i).ks.length = (p i).ks.length := by simp [markAt]
theorem markAt_cell (p : Nat → Pt) (k : Int) (i j : Nat) (hj : j < (p i).ks.length) : StringsM.mcell (kAt p k i + 1) j = StringsW.scell (markAt p k i).ks j := by
  simp [StringsM.mcell, StringsW.scell, markAt, List.getD_eq_getElem?_getD, hj]
theorem kAt_bd (p : Nat → Pt) (k : Int) (n : Nat) (h : ∀ i, i < n → (p i).ks.length ≤ 60) : ∀ i, i ≤ n → k + i ≤ kAt p k i ∧ kAt p k i ≤ k + 61 * i := by
  intro i
  induction i with
  | zero => intro _; simp [kAt]
  | succ i ih =>
    intro hi
    have := ih (by omega)
    have := h i (by omega)
    simp only [kAt]
    omega
/-- Marked up to i. -/
def mix (p : Nat → Pt) (k : Int) (i j : Nat) : Pt := if j < i then markAt p k j else p j
theorem mix_g (p : Nat → Pt) (k : Int) (i j : Nat) : (mix p k i j).g = (p j).g := by unfold mix; split <;> rfl
theorem mix_lt {p : Nat → Pt} {k : Int} {i j : Nat} (h : j < i) : mix p k i j = markAt p k j := if_pos h
theorem mix_ge {p : Nat → Pt} {k : Int} {i j : Nat} (h : ¬ j < i) : mix p k i j = p j := if_neg h
theorem mix_cap (p : Nat → Pt) (k : Int) (i j : Nat) : (mix p k i j).cap = (p j).cap ∧ (mix p k i j).ks.length = (p j).ks.length := by unfold mix; split <;> simp [markAt]
theorem apart_mix {B g n : Nat} {p : Nat → Pt} (h : Apart B g n p) (k : Int) (i : Nat) : Apart B g n (mix p k i) :=
  ⟨h.1, fun j hj => by rw [mix_g]; exact h.2.1 j hj, fun a b ha hb hne => by rw [mix_g, mix_g]; exact h.2.2 a b ha hb hne⟩
/-- The i-th part is marked: its node's cell, then its keys. -/
theorem mix_step {w w1 w2 : World} {g n : Nat} {p : Nat → Pt} {k : Int} {i B : Nat} (hi : i < n) (h : Rd w g n (mix p k i)) (hap : Apart B g n p) (e1 : w1 = w.setCell ⟨g, i * 2, none⟩ (.string (mtxt (kAt p k i).toNat)))
    (h2 : RowAt w2 (p i).g 9 (p i).ks.length (StringsM.mcell (kAt p k i + 1))) (hg2 : w1.grownBy w2 (some (p i).g)) : Rd w2 g n (mix p k (i + 1)) := by
  have hgi := (hap.2.1 i hi).2
  have r1 : RowAt w1 g 31 (n * 2) (pcell (mix p k (i + 1))) := by
    rw [e1]
    refine (h.1.set (i * 2) _).congr (fun j hj => ?_)
    show (if j = i * 2 then _ else _) = _
    by_cases e : j = i * 2
    · rw [if_pos e, e, pc0, mix_lt (by omega)]; rfl
    · rw [if_neg e]
      unfold pcell
      by_cases hq : j / 2 = i
      · rw [if_neg (by omega), if_neg (by omega), hq, mix_g, mix_g, (mix_cap p k i i).1, (mix_cap p k i i).2, (mix_cap p k (i + 1) i).1, (mix_cap p k (i + 1) i).2]
      · have : mix p k i (j / 2) = mix p k (i + 1) (j / 2) := by
          unfold mix
          by_cases hl : j / 2 < i
          · rw [if_pos hl, if_pos (by omega)]
          · rw [if_neg hl, if_neg (by omega)]
        rw [this]
  have hsz : w1.heap.size = w.heap.size := by rw [e1]; simp [World.setCell]
  refine ⟨r1.gb hg2 (fun e => hgi e.symm), fun j hj => ?_⟩
  by_cases hji : j = i
  · subst hji
    rw [mix_g, mix_lt (by omega), markAt_len]
    exact h2.congr (fun q hq => markAt_cell p k j q hq)
  · have h0 := h.2 j hj
    have hgj : (mix p k i j).g ≠ g := by rw [mix_g]; exact (hap.2.1 j hj).2
    have e2 : w1.heap[(mix p k i j).g]? = w.heap[(mix p k i j).g]? := by
      rw [e1]; exact Below.heap_setCell w _ _ _ hgj
    have h1 := h0.of_block e2
    have h3 := h1.gb hg2 (by rw [mix_g]; exact hap.2.2 j i hj hi hji)
    have e3 : mix p k i j = mix p k (i + 1) j := by
      unfold mix
      by_cases hl : j < i
      · rw [if_pos hl, if_pos (by omega)]
      · rw [if_neg hl, if_neg (by omega)]
    rw [← e3]; exact h3
end Parts
end Go.Proofs.YtghckjmpcokhcaaGreatDoor
/-
  A law of append over texts. No Go function is spoken of here.
-/
namespace Go.Proofs.YtghckjmpcokhcaaGreatDoor
namespace StrR
open Go.RowKit Base Marks OwnR StringsW
set_option linter.unusedVariables false

theorem info_ex : ∃ i, Tryz.prog.info? 9 = some i ∧ i.zero = some (.string ByteArray.empty) ∧ i.size = 1 ∧ i.bytes = 16 := by
  have h : (Tryz.prog.info? 9).map (fun i => (i.zero, i.size, i.bytes)) = some (some (.string ByteArray.empty), 1, 16) := by kernel_rfl
  obtain ⟨i, hi, hz⟩ := Option.map_eq_some_iff.1 h
  simp only [Prod.mk.injEq] at hz
  exact ⟨i, hi, hz.1, hz.2.1, hz.2.2⟩
def OwnV (w : World) (B : Nat) (v : Value) (l : List ByteArray) : Prop := w.ownsRow B 9 1 v l.length (flat l)
theorem flat_length (l : List ByteArray) : (flat l).length = l.length := by simp [flat]
theorem flat_oneCell (l : List ByteArray) : ∀ u ∈ flat l, u.oneCell' = true := by
  intro u hu
  simp only [flat, List.mem_map] at hu
  obtain ⟨x, _, rfl⟩ := hu
  rfl
theorem news_lat {w : World} {b off : Nat} {l : List ByteArray} (hc : ∀ i, i < l.length → w.cell? ⟨b, off + i, none⟩ = some (.string (l.getD i ByteArray.empty))) (j : Nat) (u : Value) (hj : (flat l)[j]? = some u) : w.cell? ((⟨b, off, none⟩ : Addr).add j) = some u := by
  have hlt : j < l.length := by have := (List.getElem?_eq_some_iff.1 hj).1; rwa [flat_length] at this
  rw [Go.WideShapes.add_plain, hc j hlt]
  rw [flat_get l j hlt] at hj
  exact hj
/-- What is appended: texts that lie in memory, or nothing at all. -/
def Src (w : World) (a : Option Addr) (n cap : Nat) (l : List ByteArray) : Prop :=
  (a = none ∧ n = 0 ∧ cap = 0 ∧ l = []) ∨ ∃ b off, a = some ⟨b, off, none⟩ ∧ b < w.heap.size ∧ n = l.length ∧ ∀ i, i < l.length → w.cell? ⟨b, off + i, none⟩ = some (.string (l.getD i ByteArray.empty))
theorem Src.below {w w' : World} {a : Option Addr} {n cap : Nat} {l : List ByteArray} {B : Nat} (h : Src w a n cap l) (hb : Below B w w') (hB : w.heap.size ≤ B) : Src w' a n cap l := by
  rcases h with h | ⟨b, off, ha, hlt, hn, hc⟩
  · exact .inl h
  · exact .inr ⟨b, off, ha, Nat.lt_of_lt_of_le hlt hb.size, hn, fun i hi => (hb.cell (p := ⟨b, off + i, none⟩) (Nat.lt_of_lt_of_le hlt hB)).trans (hc i hi)⟩
theorem Src.len {w : World} {a : Option Addr} {n cap : Nat} {l : List ByteArray} (h : Src w a n cap l) : n = l.length := by
  rcases h with ⟨_, h, _, rfl⟩ | ⟨b, off, _, _, h, _⟩
  · exact h
  · exact h
theorem src_one {w : World} {g : Nat} {x : ByteArray} (h : w.cell? ⟨g, 0, none⟩ = some (.string x)) : Src w (some ⟨g, 0, none⟩) 1 1 [x] := by
  refine .inr ⟨g, 0, rfl, block_lt_of_cell h, rfl, fun i hi => ?_⟩
  obtain rfl : i = 0 := by simpa using hi
  exact h
theorem src_row {w : World} {g n cap : Nat} {l : List ByteArray} (h : RowAt w g 9 l.length (scell l)) (hn : n = l.length) : Src w (some ⟨g, 0, none⟩) n cap l :=
  .inr ⟨g, 0, rfl, h.lt, hn, fun i hi => by rw [Nat.zero_add]; exact h.cell hi⟩
theorem gr_refl (w : World) (r : Option Nat) : w.grownBy w r := ⟨rfl, rfl, rfl, Nat.le_refl _, fun _ _ _ => rfl⟩
section
variable {ops : Array Oper} {o : Oper} {a : Act} {K : Act → World → Prop} {Q : Exit → Act → World → Prop} {E : Prop}
theorem append_post {w' : World} {B g0 c0 n m : Nat} {l news : List ByteArray} {v' : Value} (hn : n = l.length) (hm : news.length = m) (h2 : w'.ownsRow B 9 1 v' (l.length + m) (flat l ++ flat news)) (h4 : v' = .slice none 0 0 ↔ (Value.slice (some ⟨g0, 0, none⟩) n c0) = .slice none 0 0 ∧ m = 0) :
    ∃ g cap, v' = .slice (some ⟨g, 0, none⟩) (l.length + m) cap ∧ OwnV w' B (.slice (some ⟨g, 0, none⟩) (l.length + m) cap) (l ++ news) := by
  have e : l.length + m = (l ++ news).length := by rw [List.length_append, hm]
  rw [e, ← flat_append] at h2
  rcases h2.2 with ⟨hv, _⟩ | ⟨g, cap, cur, hv, _⟩
  · have := (h4.1 hv).1
    simp at this
  · subst hv
    rw [← e] at h2 ⊢
    refine ⟨g, cap, rfl, ?_⟩
    unfold OwnV
    rw [← e]
    exact h2
theorem wp_slots (w : World) (s x : Operand) (ho : o.op = .call { callee := .builtin .append, args := #[s, x], argTypes := #[24, 24] }) (B g0 c0 n : Nat) (l : List ByteArray) (hs : a.eval s = .slice (some ⟨g0, 0, none⟩) n c0) (hrow : OwnV w B (.slice (some ⟨g0, 0, none⟩) n c0) l) (hn : n = l.length)
    (ad : Addr) (m c : Nat) (news : List ByteArray) (hx : a.eval x = .slice (some ad) m c) (hm : news.length = m) (hnews : ∀ j u, (flat news)[j]? = some u → w.cell? (ad.add j) = some u) (r : Nat) (hr : n + m = r) (hl : r ≤ 1000) (hB : B ≤ w.heap.size)
    (h : ∀ g cap w', OwnV w' B (.slice (some ⟨g, 0, none⟩) r cap) (l ++ news) → w.grownBy w' (some g0) → K (a.put o.dst (.slice (some ⟨g, 0, none⟩) r cap)) w') : Oper.wp Tryz.prog o a w K Q := by
  obtain ⟨i0, hi, hz0, hz1, hz2⟩ := info_ex
  subst hn
  subst hr
  refine wp_append_own w s x 24 ho B 9 i0 _ 1 16 Tryz.underlying24 hi hz0 hz1 hz2 rfl (by decide) _ _ _ hs hrow ad m c (flat news) hx (by rw [flat_length, hm, Nat.mul_one]) hnews (flat_oneCell news) (by unfold maxLen; omega) (by omega) hB ?_
  intro v' w' h2 h3 h4
  obtain ⟨g, cap, rfl, hr⟩ := append_post rfl hm h2 h4
  exact h g cap w' hr h3
theorem wp_append_none {P : Program} {w : World} (s x : Operand) (t : TypeId) (ho : o.op = .call { callee := .builtin .append, args := #[s, x], argTypes := #[t, t] }) (base : Nat) (e : TypeId) (i : TypeInfo) (size : Nat) (ht : P.underlying t = some (.slice e)) (hi : P.info? e = some i)
    (v : Value) (n : Nat) (xs : List Value) (hs : a.eval s = v) (hown : w.ownsRow base e size v n xs) (hx : a.eval x = .slice none 0 0) (h : K (a.put o.dst v) w) : Oper.wp P o a w K Q := by
  have hrun := run_append_owned_none (P := P) (w := w) base t o.type e i size ht hi v n xs hown
  unfold Oper.wp execOp
  simp only [ho, resolve, invoke, builtin, Sem.run_bind, Sem.run_pure, Result.andThen_ok, List.map_toArray, List.map_cons, List.map_nil, hs, hx, hrun]
  exact h
theorem wp_src (w : World) (s x : Operand) (ho : o.op = .call { callee := .builtin .append, args := #[s, x], argTypes := #[24, 24] }) (B g0 c0 n : Nat) (l : List ByteArray) (hs : a.eval s = .slice (some ⟨g0, 0, none⟩) n c0) (hrow : OwnV w B (.slice (some ⟨g0, 0, none⟩) n c0) l) (hn : n = l.length)
    (src : Option Addr) (m c : Nat) (news : List ByteArray) (hx : a.eval x = .slice src m c) (hsrc : Src w src m c news) (r : Nat) (hr : n + m = r) (hl : r ≤ 1000) (hB : B ≤ w.heap.size)
    (h : ∀ g cap w', OwnV w' B (.slice (some ⟨g, 0, none⟩) r cap) (l ++ news) → w.grownBy w' (some g0) → K (a.put o.dst (.slice (some ⟨g, 0, none⟩) r cap)) w') : Oper.wp Tryz.prog o a w K Q := by
  rcases hsrc with ⟨rfl, rfl, rfl, rfl⟩ | ⟨b, off, rfl, hb, hm, hc⟩
  · obtain ⟨i0, hi, hz0, hz1, hz2⟩ := info_ex
    have hk := h g0 c0 w (by rw [List.append_nil, ← hr, Nat.add_zero]; exact hrow) (gr_refl w _)
    rw [← hr, Nat.add_zero] at hk
    exact wp_append_none s x 24 ho B 9 i0 1 Tryz.underlying24 hi _ _ _ hs hrow hx hk
  · exact wp_slots w s x ho B g0 c0 n l hs hrow hn ⟨b, off, none⟩ m c news hx hm.symm (news_lat hc) r hr hl hB h
theorem step_src (w : World) (hgd : o.guard = none) (s x : Operand) (ho : o.op = .call { callee := .builtin .append, args := #[s, x], argTypes := #[24, 24] }) (B g0 c0 n : Nat) (l : List ByteArray) (hs : a.eval s = .slice (some ⟨g0, 0, none⟩) n c0) (hrow : OwnV w B (.slice (some ⟨g0, 0, none⟩) n c0) l) (hn : n = l.length)
    (src : Option Addr) (m c : Nat) (news : List ByteArray) (hx : a.eval x = .slice src m c) (hsrc : Src w src m c news) (r : Nat) (hr : n + m = r) (hl : r ≤ 1000) (hB : B ≤ w.heap.size)
    (h : ∀ g cap w', OwnV w' B (.slice (some ⟨g, 0, none⟩) r cap) (l ++ news) → w.grownBy w' (some g0) → K (a.put o.dst (.slice (some ⟨g, 0, none⟩) r cap)) w') :
    if Region.wanted o (yielded ops a.tmps) = true then Oper.wp Tryz.prog o a w K Q else E := by
  have hw : Region.wanted o (yielded ops a.tmps) = true := by simp [Region.wanted, hgd]
  rw [if_pos hw]
  exact wp_src w s x ho B g0 c0 n l hs hrow hn src m c news hx hsrc r hr hl hB h
theorem list_src {rest : List Oper} (w : World) (hgd : o.guard = none) (s x : Operand) (ho : o.op = .call { callee := .builtin .append, args := #[s, x], argTypes := #[24, 24] }) (B g0 c0 n : Nat) (l : List ByteArray) (hs : a.eval s = .slice (some ⟨g0, 0, none⟩) n c0) (hrow : OwnV w B (.slice (some ⟨g0, 0, none⟩) n c0) l) (hn : n = l.length)
    (src : Option Addr) (m c : Nat) (news : List ByteArray) (hx : a.eval x = .slice src m c) (hsrc : Src w src m c news) (r : Nat) (hr : n + m = r) (hl : r ≤ 1000) (hB : B ≤ w.heap.size)
    (h : ∀ g cap w', OwnV w' B (.slice (some ⟨g, 0, none⟩) r cap) (l ++ news) → w.grownBy w' (some g0) → wpList Tryz.prog ops Q rest (a.put o.dst (.slice (some ⟨g, 0, none⟩) r cap)) w') : wpList Tryz.prog ops Q (o :: rest) a w :=
  wpList_plain hgd fun _ hK => wp_src w s x ho B g0 c0 n l hs hrow hn src m c news hx hsrc r hr hl hB fun g cap w' h2 h3 => hK _ _ (h g cap w' h2 h3)
theorem step_one (w : World) (hgd : o.guard = none) (s x : Operand) (ho : o.op = .call { callee := .builtin .append, args := #[s, x], argTypes := #[24, 24] }) (B : Nat) (v : Value) (l : List ByteArray) (hs : a.eval s = v) (hrow : OwnV w B v l)
    (b off : Nat) (x0 : ByteArray) (hx : a.eval x = .slice (some ⟨b, off, none⟩) 1 1) (hc : w.cell? ⟨b, off, none⟩ = some (.string x0)) (hl : l.length < 1000) (hB : B ≤ w.heap.size)
    (h : ∀ g cap w', OwnV w' B (.slice (some ⟨g, 0, none⟩) (l.length + 1) cap) (l ++ [x0]) → w.grownBy w' v.ownBlock → K (a.put o.dst (.slice (some ⟨g, 0, none⟩) (l.length + 1) cap)) w') :
    if Region.wanted o (yielded ops a.tmps) = true then Oper.wp Tryz.prog o a w K Q else E := by
  have hw : Region.wanted o (yielded ops a.tmps) = true := by simp [Region.wanted, hgd]
  rw [if_pos hw]
  obtain ⟨i0, hi, hz0, hz1, hz2⟩ := info_ex
  refine wp_append_own w s x 24 ho B 9 i0 _ 1 16 Tryz.underlying24 hi hz0 hz1 hz2 rfl (by decide) _ _ _ hs hrow ⟨b, off, none⟩ 1 1 [.string x0] hx rfl ?_ (news_one x0) (by unfold maxLen; omega) (by omega) hB ?_
  · intro j u hj
    match j with
    | 0 => simp at hj; subst hj; rw [Go.WideShapes.add_plain]; exact hc
    | j + 1 => simp at hj
  · intro v' w' h2 h3 h4
    rcases h2.2 with ⟨_, h0⟩ | ⟨g, cap, cur, hv, _⟩
    · omega
    · subst hv
      refine h g cap w' ?_ h3
      unfold OwnV
      rw [flat_append, List.length_append]
      exact h2
end
theorem row_empty (w : World) {B : Nat} (hB : B ≤ w.heap.size) : OwnV (w.alloc (.cells #[] 9)) B (.slice (some ⟨w.heap.size, 0, none⟩) 0 0) [] :=
  ⟨rfl, .inr ⟨w.heap.size, 0, #[], rfl, hB, heap_alloc_new w _, Nat.le_refl _, Nat.zero_le _, rfl, rfl⟩⟩
theorem own_row {w : World} {B g n cap : Nat} {l : List ByteArray} (h : OwnV w B (.slice (some ⟨g, 0, none⟩) n cap) l) : n = l.length ∧ RowAt w g 9 l.length (scell l) := by
  rcases h.2 with ⟨h', _⟩ | ⟨g', cap', cur, h', hB, hg, hn, _, hsz, ht⟩
  · simp at h'
  · simp only [Value.slice.injEq, Option.some.injEq, Addr.mk.injEq, and_true] at h'
    obtain ⟨rfl, h2, rfl⟩ := h'
    refine ⟨h2, cur, hg, by omega, fun i hi => ?_⟩
    have e := flat_get l i hi
    rw [← ht, List.getElem?_take, if_pos (by omega)] at e
    simpa using e
theorem OwnV.lt {w : World} {B b n cap : Nat} {l : List ByteArray} (h : OwnV w B (.slice (some ⟨b, 0, none⟩) n cap) l) : b < w.heap.size ∧ B ≤ b := by
  rcases h.2 with ⟨h', _⟩ | ⟨g', cap', cur, h', hB, hg, _⟩
  · simp at h'
  · simp only [Value.slice.injEq, Option.some.injEq, Addr.mk.injEq, and_true] at h'
    obtain ⟨rfl, h2, rfl⟩ := h'
    exact ⟨(Array.getElem?_eq_some_iff.1 hg).1, hB⟩
end StrR
end Go.Proofs.YtghckjmpcokhcaaGreatDoor
/-
  Parts that a call puts together by append: the row's cells one behind the other. No Go function is spoken of here.
-/
namespace Go.Proofs.YtghckjmpcokhcaaGreatDoor
namespace Parts
open Go.RowKit Base Marks OwnR
set_option linter.unusedVariables false

theorem info_ex : ∃ i, Tryz.prog.info? 31 = some i ∧ i.zero = some (.agg #[.string ByteArray.empty, .slice none 0 0]) ∧ i.size = 2 ∧ i.bytes = 40 := by
  have h : (Tryz.prog.info? 31).map (fun i => (i.zero, i.size, i.bytes)) = some (some (.agg #[.string ByteArray.empty, .slice none 0 0]), 2, 40) := by kernel_rfl
  obtain ⟨i, hi, hz⟩ := Option.map_eq_some_iff.1 h
  simp only [Prod.mk.injEq] at hz
  exact ⟨i, hi, hz.1, hz.2.1, hz.2.2⟩
def pflat (p : Nat → Pt) (n : Nat) : List Value := (List.range (n * 2)).map (pcell p)
theorem pflat_len (p : Nat → Pt) (n : Nat) : (pflat p n).length = n * 2 := by simp [pflat]
theorem pflat_get (p : Nat → Pt) (n j : Nat) (h : j < n * 2) : (pflat p n)[j]? = some (pcell p j) := by simp [pflat, h]
def upd (p : Nat → Pt) (i : Nat) (x : Pt) (j : Nat) : Pt := if j = i then x else p j
theorem upd_same (p : Nat → Pt) (i : Nat) (x : Pt) : upd p i x i = x := if_pos rfl
theorem upd_other {p : Nat → Pt} {i j : Nat} (x : Pt) (h : j ≠ i) : upd p i x j = p j := if_neg h
theorem list_ext {l : List Value} {p : Nat → Pt} {n : Nat} (hl : l.length = n * 2) (h : ∀ j, j < n * 2 → l[j]? = some (pcell p j)) : l = pflat p n := by
  apply List.ext_getElem?
  intro j
  by_cases hj : j < n * 2
  · rw [h j hj, pflat_get p n j hj]
  · rw [List.getElem?_eq_none (by omega), List.getElem?_eq_none (by rw [pflat_len]; omega)]
/-- The keys of the i-th part are other ones. -/
theorem pflat_upd {p : Nat → Pt} {n i : Nat} {x : Pt} (hi : i < n) (hx : x.node = (p i).node) : (pflat p n).set (i * 2 + 1) (.slice (some ⟨x.g, 0, none⟩) x.ks.length x.cap) = pflat (upd p i x) n := by
  apply list_ext
  · rw [List.length_set, pflat_len]
  · intro j hj
    rw [List.getElem?_set]
    by_cases h : i * 2 + 1 = j
    · rw [if_pos h, if_pos (by rw [pflat_len]; omega), ← h, pc1, upd_same]
    · rw [if_neg h, pflat_get p n j hj]
      congr 1
      unfold pcell
      by_cases hq : j / 2 = i
      · rw [if_pos (by omega), if_pos (by omega), hq, upd_same, hx]
      · rw [upd_other x hq]
/-- A part more. -/
theorem pflat_snoc {p : Nat → Pt} {n : Nat} {x : Pt} : pflat p n ++ [.string x.node, .slice (some ⟨x.g, 0, none⟩) x.ks.length x.cap] = pflat (upd p n x) (n + 1) := by
  apply list_ext
  · rw [List.length_append, pflat_len]; simp; omega
  · intro j hj
    by_cases h : j < n * 2
    · rw [List.getElem?_append_left (by rw [pflat_len]; omega), pflat_get p n j h]
      congr 1
      unfold pcell
      rw [upd_other x (by omega)]
    · rw [List.getElem?_append_right (by rw [pflat_len]; omega), pflat_len]
      have : j = n * 2 ∨ j = n * 2 + 1 := by omega
      rcases this with rfl | rfl
      · rw [pc0, upd_same]; simp
      · rw [pc1, upd_same, show n * 2 + 1 - n * 2 = 1 by omega]; simp
theorem pflat_set {p : Nat → Pt} {n : Nat} {x : Pt} (u : Value) : (pflat p n ++ [.string x.node, u]).set (n * 2 + 1) (.slice (some ⟨x.g, 0, none⟩) x.ks.length x.cap) = pflat (upd p n x) (n + 1) := by
  rw [← pflat_snoc, List.set_append, if_neg (by rw [pflat_len]; omega), pflat_len, show n * 2 + 1 - n * 2 = 1 by omega]
  rfl
theorem own_rowAt {w : World} {B g n cap : Nat} {m : Nat} {p : Nat → Pt} (h : w.ownsRow B 31 2 (.slice (some ⟨g, 0, none⟩) m cap) n (pflat p n)) : m = n ∧ B ≤ g ∧ RowAt w g 31 (n * 2) (pcell p) := by
  rcases h.2 with ⟨h', _⟩ | ⟨g', cap', cur, h', hB, hg, hn, _, hsz, ht⟩
  · simp at h'
  · simp only [Value.slice.injEq, Option.some.injEq, Addr.mk.injEq, and_true] at h'
    obtain ⟨rfl, h2, rfl⟩ := h'
    refine ⟨h2, hB, cur, hg, by omega, fun i hi => ?_⟩
    have e := pflat_get p n i hi
    rw [← ht, List.getElem?_take, if_pos hi] at e
    simpa using e
/-- A store into the row that is owned. -/
theorem own_set {w : World} {B g n m cap j : Nat} {t : TypeId} {size : Nat} {xs : List Value} (h : w.ownsRow B t size (.slice (some ⟨g, 0, none⟩) m cap) n xs) (u : Value) : (w.setCell ⟨g, j, none⟩ u).ownsRow B t size (.slice (some ⟨g, 0, none⟩) m cap) n (xs.set j u) := by
  refine ⟨by rw [List.length_set]; exact h.1, ?_⟩
  rcases h.2 with ⟨h', _⟩ | ⟨g', cap', cur, h', hB, hg, hn, hc, hsz, ht⟩
  · simp at h'
  · simp only [Value.slice.injEq, Option.some.injEq, Addr.mk.injEq, and_true] at h'
    obtain ⟨rfl, h2, rfl⟩ := h'
    refine .inr ⟨g, cap, cur.setIfInBounds j u, by rw [h2], hB, ?_, hn, hc, by simpa using hsz, ?_⟩
    · simp [World.setCell, Array.getElem?_modify, hg]
    · rw [Array.toList_setIfInBounds, ← ht, List.take_set]
/-- The parts that a call has put together: a row by append, and the rows of keys. -/
def Out (w : World) (B : Nat) (v : Value) (n : Nat) (p : Nat → Pt) : Prop :=
  w.ownsRow B 31 2 v n (pflat p n) ∧ (∀ i, i < n → RowAt w (p i).g 9 (p i).ks.length (StringsW.scell (p i).ks) ∧ B ≤ (p i).g) ∧ (∀ i j, i < n → j < n → i ≠ j → (p i).g ≠ (p j).g)
theorem Out.nil (w : World) (B : Nat) (p : Nat → Pt) : Out w B (.slice none 0 0) 0 p := ⟨World.ownsRow_nil _ _ _ _, fun i hi => absurd hi (by omega), fun i j hi => absurd hi (by omega)⟩
theorem Out.below {w w' : World} {B : Nat} {v : Value} {n : Nat} {p : Nat → Pt} (h : Out w B v n p) (hb : Below w.heap.size w w') : Out w' B v n p :=
  ⟨own_below h.1 hb (Nat.le_refl _), fun i hi => ⟨(h.2.1 i hi).1.below hb (h.2.1 i hi).1.lt, (h.2.1 i hi).2⟩, h.2.2⟩
theorem types_ne {w : World} {a b m n : Nat} {f h : Nat → Value} (h1 : RowAt w a 9 m f) (h2 : RowAt w b 31 n h) : a ≠ b := by
  intro e
  subst e
  obtain ⟨c, hc, _⟩ := h1
  obtain ⟨d, hd, _⟩ := h2
  rw [hc] at hd
  simp only [Option.some.injEq, Obj.cells.injEq] at hd
  exact absurd hd.2.1 (by decide)
theorem Out.own {w : World} {B : Nat} {a : Option Addr} {c m n : Nat} {p : Nat → Pt} (h : Out w B (.slice a m c) n p) : m = n ∧ OwnA w B a n p := by
  rcases h.1.2 with ⟨h', h0⟩ | ⟨g', cap', cur, h', _⟩
  · simp only [Value.slice.injEq] at h'
    exact ⟨by omega, .inl h0⟩
  · have hh := h.1
    rw [h'] at hh
    simp only [Value.slice.injEq] at h'
    obtain ⟨rfl, hm, _⟩ := h'
    obtain ⟨h2, h3, h4⟩ := own_rowAt hh
    exact ⟨hm, .inr ⟨g', rfl, ⟨h4, fun i hi => (h.2.1 i hi).1⟩, h3, fun i hi => ⟨(h.2.1 i hi).2, types_ne (h.2.1 i hi).1 h4⟩, h.2.2⟩⟩
theorem Out.form {w : World} {B : Nat} {v : Value} {n : Nat} {p : Nat → Pt} (h : Out w B v n p) : ∃ a c, v = .slice a n c := own_form h.1
/-- What the parts are, without where they lie. -/
def Tells (n : Nat) (p : Nat → Pt) (L : List Split.Part) : Prop := n = L.length ∧ ∀ i, i < n → (p i).node = (L.getD i Split.zeroP).node ∧ (p i).ks = (L.getD i Split.zeroP).keys
theorem tells_snoc {n : Nat} {p : Nat → Pt} {L : List Split.Part} {x : Pt} (h : Tells n p L) (y : Split.Part) (h1 : x.node = y.node) (h2 : x.ks = y.keys) : Tells (n + 1) (upd p n x) (L ++ [y]) := by
  refine ⟨by rw [List.length_append, ← h.1]; rfl, fun i hi => ?_⟩
  by_cases e : i = n
  · subst e
    rw [upd_same]
    have : (L ++ [y]).getD i Split.zeroP = y := by
      rw [List.getD_eq_getElem?_getD, List.getElem?_append_right (by have := h.1; omega), h.1]; simp
    rw [this]; exact ⟨h1, h2⟩
  · rw [upd_other x e]
    have : (L ++ [y]).getD i Split.zeroP = L.getD i Split.zeroP := by
      rw [List.getD_eq_getElem?_getD, List.getElem?_append_left (by have := h.1; omega), List.getD_eq_getElem?_getD]
    rw [this]; exact h.2 i (by omega)
theorem tells_set {n : Nat} {p : Nat → Pt} {L : List Split.Part} {x : Pt} {i : Nat} (h : Tells n p L) (y : Split.Part) (h1 : x.node = y.node) (h2 : x.ks = y.keys) (hi : i < n) : Tells n (upd p i x) (L.set i y) := by
  refine ⟨by rw [List.length_set]; exact h.1, fun j hj => ?_⟩
  by_cases e : j = i
  · subst e
    rw [upd_same]
    have : (L.set j y).getD j Split.zeroP = y := by
      rw [List.getD_eq_getElem?_getD, List.getElem?_set_self (by have := h.1; omega)]; rfl
    rw [this]; exact ⟨h1, h2⟩
  · rw [upd_other x e]
    have : (L.set i y).getD j Split.zeroP = L.getD j Split.zeroP := by
      rw [List.getD_eq_getElem?_getD, List.getElem?_set_ne (fun q => e q.symm), List.getD_eq_getElem?_getD]
    rw [this]; exact h.2 j hj
theorem frozen_own {w : World} {B g n m cap : Nat} {t : TypeId} {size : Nat} {xs : List Value} (h : w.ownsRow B t size (.slice (some ⟨g, 0, none⟩) m cap) n xs) (j : Nat) : w.frozen? ⟨g, j, none⟩ = false ∧ g < w.heap.size ∧ B ≤ g ∧ m = n := by
  rcases h.2 with ⟨h', _⟩ | ⟨g', cap', cur, h', hB, hg, hn, hc, hsz, ht⟩
  · simp at h'
  · simp only [Value.slice.injEq, Option.some.injEq, Addr.mk.injEq, and_true] at h'
    obtain ⟨rfl, h2, rfl⟩ := h'
    exact ⟨by simp [World.frozen?, hg], (Array.getElem?_eq_some_iff.1 hg).1, hB, h2⟩
theorem cell_own {w : World} {B g n m cap : Nat} {t : TypeId} {size : Nat} {xs : List Value} (h : w.ownsRow B t size (.slice (some ⟨g, 0, none⟩) m cap) n xs) (j : Nat) (u : Value) (hj : xs[j]? = some u) : w.cell? ⟨g, j, none⟩ = some u := by
  rcases h.2 with ⟨h', _⟩ | ⟨g', cap', cur, h', hB, hg, hn, hc, hsz, ht⟩
  · simp at h'
  · simp only [Value.slice.injEq, Option.some.injEq, Addr.mk.injEq, and_true] at h'
    obtain ⟨rfl, h2, rfl⟩ := h'
    rw [← ht, List.getElem?_take] at hj
    split at hj
    · simp [World.cell?, hg]
      simpa using hj
    · simp at hj
/-- The keys of a part are another row. -/
theorem out_upd {W w4 : World} {B g cap n q g2 c2 m : Nat} {p : Nat → Pt} {K : List ByteArray} (h : Out W B (.slice (some ⟨g, 0, none⟩) n cap) n p) (hq : q < n) (hb : Below W.heap.size W w4) (hrow : RowAt w4 g2 9 K.length (StringsW.scell K)) (hg2 : W.heap.size ≤ g2) (hm : m = K.length) (hB : B ≤ W.heap.size) :
    Out (w4.setCell ⟨g, q * 2 + 1, none⟩ (.slice (some ⟨g2, 0, none⟩) m c2)) B (.slice (some ⟨g, 0, none⟩) n cap) n (upd p q ⟨(p q).node, g2, c2, K⟩) := by
  obtain ⟨h1, h2, h3⟩ := h
  have hgl := (frozen_own h1 0).2.1
  have o4 := own_below h1 hb (Nat.le_refl _)
  obtain ⟨_, _, r4⟩ := own_rowAt o4
  refine ⟨?_, fun i hi => ?_, fun i j hi hj hne => ?_⟩
  · have := own_set (j := q * 2 + 1) o4 (.slice (some ⟨g2, 0, none⟩) m c2)
    rw [hm] at this ⊢
    rwa [pflat_upd (x := ⟨(p q).node, g2, c2, K⟩) hq rfl] at this
  · by_cases e : i = q
    · subst e
      rw [upd_same]
      exact ⟨hrow.of_block (Below.heap_setCell _ _ _ _ (by show g2 ≠ g; omega)), by show B ≤ g2; omega⟩
    · rw [upd_other _ e]
      obtain ⟨a, b⟩ := h2 i hi
      have a4 := a.below hb a.lt
      exact ⟨a4.of_block (Below.heap_setCell _ _ _ _ (types_ne a4 r4)), b⟩
  · by_cases e1 : i = q
    · subst e1
      rw [upd_same, upd_other _ (fun e => hne e.symm)]
      have := (h2 j hj).1.lt
      show g2 ≠ _; omega
    · by_cases e2 : j = q
      · subst e2
        rw [upd_same, upd_other _ e1]
        have := (h2 i hi).1.lt
        show _ ≠ g2; omega
      · rw [upd_other _ e1, upd_other _ e2]; exact h3 i j hi hj hne
/-- A part more, whose keys are a row of its own. -/
theorem out_new {W w4 : World} {B g cap n g2 c2 m : Nat} {p : Nat → Pt} {K : List ByteArray} {nm : ByteArray} {u : Value} (h1 : W.ownsRow B 31 2 (.slice (some ⟨g, 0, none⟩) (n + 1) cap) (n + 1) (pflat p n ++ [.string nm, u]))
    (h2 : ∀ i, i < n → RowAt W (p i).g 9 (p i).ks.length (StringsW.scell (p i).ks) ∧ B ≤ (p i).g) (h3 : ∀ i j, i < n → j < n → i ≠ j → (p i).g ≠ (p j).g)
    (hb : Below W.heap.size W w4) (hrow : RowAt w4 g2 9 K.length (StringsW.scell K)) (hg2 : W.heap.size ≤ g2) (hm : m = K.length) (hB : B ≤ W.heap.size) :
    Out (w4.setCell ⟨g, n * 2 + 1, none⟩ (.slice (some ⟨g2, 0, none⟩) m c2)) B (.slice (some ⟨g, 0, none⟩) (n + 1) cap) (n + 1) (upd p n ⟨nm, g2, c2, K⟩) := by
  have hgl := (frozen_own h1 0).2.1
  have o4 := own_below h1 hb (Nat.le_refl _)
  have o5 : (w4.setCell ⟨g, n * 2 + 1, none⟩ (.slice (some ⟨g2, 0, none⟩) m c2)).ownsRow B 31 2 (.slice (some ⟨g, 0, none⟩) (n + 1) cap) (n + 1) (pflat (upd p n ⟨nm, g2, c2, K⟩) (n + 1)) := by
    have := own_set (j := n * 2 + 1) o4 (.slice (some ⟨g2, 0, none⟩) m c2)
    rw [hm] at this ⊢
    rwa [pflat_set (x := ⟨nm, g2, c2, K⟩) u] at this
  obtain ⟨_, _, r5⟩ := own_rowAt o5
  refine ⟨o5, fun i hi => ?_, fun i j hi hj hne => ?_⟩
  · by_cases e : i = n
    · subst e
      rw [upd_same]
      exact ⟨hrow.of_block (Below.heap_setCell _ _ _ _ (by show g2 ≠ g; omega)), by show B ≤ g2; omega⟩
    · rw [upd_other _ e]
      obtain ⟨a, b⟩ := h2 i (by omega)
      have a4 := a.below hb a.lt
      refine ⟨a4.of_block (Below.heap_setCell _ _ _ _ ?_), b⟩
      obtain ⟨c, hc, _⟩ := a4
      intro e'
      rcases o4.2 with ⟨h', _⟩ | ⟨g', cap', cur, h', _, hg, _⟩
      · simp at h'
      · simp only [Value.slice.injEq, Option.some.injEq, Addr.mk.injEq, and_true] at h'
        have e' : (p i).g = g := e'
        rw [e', h'.1, hg] at hc
        simp only [Option.some.injEq, Obj.cells.injEq] at hc
        exact absurd hc.2.1 (by decide)
  · by_cases e1 : i = n
    · subst e1
      rw [upd_same, upd_other _ (fun e => hne e.symm)]
      have := (h2 j (by omega)).1.lt
      show g2 ≠ _; omega
    · by_cases e2 : j = n
      · subst e2
        rw [upd_same, upd_other _ e1]
        have := (h2 i (by omega)).1.lt
        show _ ≠ g2; omega
      · rw [upd_other _ e1, upd_other _ e2]; exact h3 i j (by omega) (by omega) hne
end Parts
end Go.Proofs.YtghckjmpcokhcaaGreatDoor
