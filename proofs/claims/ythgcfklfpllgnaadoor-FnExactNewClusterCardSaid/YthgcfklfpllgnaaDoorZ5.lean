/-
  Sets of keys and of tokens told by the lists of what was put into them; what a good store is, by them. No Go function is spoken of here.
-/
import Derived.Test.YthgcfklfpllgnaaDoorZ4
import Derived.Maps.OwnSet
import Derived.Test.YthgcfklfpllgnaaDoorZ1
namespace Go.Proofs.YthgcfklfpllgnaaDoor
namespace Store
open Go.RowKit Base GoodKey Items
set_option linter.unusedVariables false

def kL (x : Itm) : Lit := .string x.key.data.toList
def tL (x : Itm) : Lit := .int .i64 x.token
theorem kL_key (x : Itm) : WideAt.IsKeyLit (kL x) := by simp [kL, WideAt.IsKeyLit]
theorem tL_key (x : Itm) : WideAt.IsKeyLit (tL x) := by simp [tL, WideAt.IsKeyLit]
theorem keysOf_key {f : Itm → Lit} (hf : ∀ x, WideAt.IsKeyLit (f x)) (its : List Itm) : ∀ l ∈ its.map f, WideAt.IsKeyLit l := by
  intro l hl
  obtain ⟨x, _, rfl⟩ := List.mem_map.1 hl
  exact hf x

theorem size_set (u : DataW Unit) (ls : List Lit) (h : ∀ x ∈ ls, WideAt.IsKeyLit x) : Maps.size (Maps.setOf u ls) ≤ ls.length ∧ (Maps.size (Maps.setOf u ls) = ls.length ↔ ls.Nodup) := by
  obtain ⟨n, hn⟩ : ∃ n, ls.length = n := ⟨_, rfl⟩
  induction n generalizing ls with
  | zero => rw [List.length_eq_zero_iff.1 hn]; simp [Maps.setOf, Maps.size]
  | succ n ih =>
    have hne : ls ≠ [] := by intro e; simp [e] at hn
    obtain ⟨r, y, rfl⟩ : ∃ r y, ls = r ++ [y] := ⟨ls.dropLast, ls.getLast hne, (List.dropLast_concat_getLast hne).symm⟩
    have hr : ∀ x ∈ r, WideAt.IsKeyLit x := fun x hx => h x (List.mem_append_left _ hx)
    obtain ⟨h1, h2⟩ := ih r hr (by simpa using hn)
    rw [Maps.setOf_snoc, Maps.size_put (Maps.tidy_setOf u r hr), Maps.has_setOf u y r hr]
    have hany : (r.any fun x => x.sameKey y) = true ↔ y ∈ r := by
      rw [List.any_eq_true]
      constructor
      · rintro ⟨x, hx, hs⟩
        exact (WideAt.sameKey_eq hs) ▸ hx
      · exact fun hy => ⟨y, hy, WideAt.sameKey_self (hr y hy)⟩
    have hnd : (r ++ [y]).Nodup ↔ r.Nodup ∧ y ∉ r := by
      rw [List.nodup_append]
      constructor
      · rintro ⟨a, _, c⟩
        exact ⟨a, fun hy => c y hy y (by simp) rfl⟩
      · rintro ⟨a, c⟩
        exact ⟨a, by simp, fun z hz t ht => by simp at ht; subst ht; intro e; subst e; exact c hz⟩
    rw [hnd, List.length_append]
    by_cases hy : y ∈ r
    · rw [if_pos (hany.2 hy)]
      simp
      constructor
      · omega
      · constructor
        · intro e; omega
        · intro e; exact absurd hy e.2
    · rw [if_neg (fun e => hy (hany.1 e))]
      simp
      exact ⟨h1, fun e => ⟨h2.1 e, hy⟩, fun e => h2.2 e.1⟩

theorem map_step {α : Type} (f : Itm → α) (its : List Itm) (k : Nat) (h : k < its.length) : (its.take (k + 1)).map f = (its.take k).map f ++ [f (its.getD k zero)] := by
  rw [List.take_succ_eq_append_getElem h, List.map_append]
  simp [List.getD_eq_getElem?_getD, List.getElem?_eq_getElem h]

/-- An item that is good, its token below Next. -/
def okB (nx : Int) (x : Itm) : Bool := itemB x && decide (x.token < nx)
theorem clash_iff (o x : Itm) : clash o x = true ↔ kL o = kL x ∨ tL o = tL x := by
  unfold clash kL tL
  rw [Lib.toList_data, Lib.toList_data]
  simp
theorem fresh_iff (x : Itm) (l : List Itm) : freshB x l = true ↔ kL x ∉ l.map kL ∧ tL x ∉ l.map tL := by
  unfold freshB
  rw [List.all_eq_true]
  simp only [List.mem_map, not_exists, not_and]
  constructor
  · intro h
    refine ⟨fun o ho e => ?_, fun o ho e => ?_⟩
    · have := h o ho
      rw [(clash_iff o x).2 (.inl e)] at this; simp at this
    · have := h o ho
      rw [(clash_iff o x).2 (.inr e)] at this; simp at this
  · rintro ⟨h1, h2⟩ o ho
    cases e : clash o x
    · rfl
    · rcases (clash_iff o x).1 e with e' | e'
      · exact absurd e' (h1 o ho)
      · exact absurd e' (h2 o ho)
theorem goodTo_iff (nx : Int) (its : List Itm) : ∀ k, k ≤ its.length → (goodTo nx its k = true ↔ (∀ i, i < k → okB nx (its.getD i zero) = true) ∧ ((its.take k).map kL).Nodup ∧ ((its.take k).map tL).Nodup)
  | 0, _ => by simp [goodTo]
  | k + 1, h => by
    have ih := goodTo_iff nx its k (by omega)
    have e : goodTo nx its (k + 1) = (goodTo nx its k && stepB nx its k) := by
      unfold goodTo
      rw [List.range_succ, List.all_append]
      simp
    have hnd : ∀ (r : List Lit) (y : Lit), (r ++ [y]).Nodup ↔ r.Nodup ∧ y ∉ r := by
      intro r y
      rw [List.nodup_append]
      constructor
      · rintro ⟨a, _, c⟩
        exact ⟨a, fun hy => c y hy y (by simp) rfl⟩
      · rintro ⟨a, c⟩
        exact ⟨a, by simp, fun z hz t ht => by simp at ht; subst ht; intro e; subst e; exact c hz⟩
    have es : stepB nx its k = (okB nx (its.getD k zero) && freshB (its.getD k zero) (its.take k)) := rfl
    rw [e, es, Bool.and_eq_true, Bool.and_eq_true, ih, map_step kL its k (by omega), map_step tL its k (by omega), hnd, hnd, fresh_iff]
    constructor
    · rintro ⟨⟨h1, h2, h3⟩, h4, h5, h6⟩
      refine ⟨fun i hi => ?_, ⟨h2, h5⟩, h3, h6⟩
      by_cases hik : i = k
      · rw [hik]; exact h4
      · exact h1 i (by omega)
    · rintro ⟨h1, ⟨h2, h5⟩, h3, h6⟩
      exact ⟨⟨fun i hi => h1 i (by omega), h2, h3⟩, h1 k (by omega), h5, h6⟩
theorem ok_bad {lim nx : Int} {its : List Itm} {k : Nat} (hk : k < its.length) (h : okB nx (its.getD k zero) = false) : gsB lim nx its = false := by
  refine gs_4 hk ?_
  have es : stepB nx its k = (okB nx (its.getD k zero) && freshB (its.getD k zero) (its.take k)) := rfl
  rw [es, h]; rfl
theorem ok_small {nx : Int} {x : Itm} (h : okB nx x = true) : Small x := by
  simp only [okB, itemB, gk, inB, Bool.and_eq_true, decide_eq_true_eq] at h
  have el : x.key.data.toList.length = x.key.size := by simp
  unfold Small
  omega
theorem ok_total {nx : Int} {its : List Itm} {k : Nat} (hk : k ≤ its.length) (h60 : k ≤ 60) (h : ∀ j, j < k → okB nx (its.getD j zero) = true) : total (its.take k) ≤ 60 * 2097162 := by
  have h1 := total_bd (its.take k) (fun x hx => by
    obtain ⟨i, hi, rfl⟩ := List.getElem_of_mem hx
    have hi' : i < k := by simp at hi; omega
    have h2 := ok_small (h i hi')
    rw [List.getD_eq_getElem?_getD, List.getElem?_eq_getElem (show i < its.length by omega)] at h2
    simpa using h2)
  have h3 : (its.take k).length ≤ 60 := by simp; omega
  omega
theorem map_step' (f : Itm → Lit) (its : List Itm) (k : Nat) (h : k < its.length) : (its.map f).take (k + 1) = (its.map f).take k ++ [f (its.getD k zero)] := by
  rw [← List.map_take, ← List.map_take]; exact map_step f its k h
/-- What the program's GoodStore says behind its loop. -/
theorem gs_sets {lim nx : Int} {its : List Itm} (h1 : inB lim 0 10000 = true) (h2 : inB nx 1 1000000000 = true) (h3 : ¬ 60 < (its.length : Int)) (h4 : ∀ i, i < its.length → okB nx (its.getD i zero) = true) (u : DataW Unit) :
    gsB lim nx its = (decide ((Maps.size (Maps.setOf u (its.map kL)) : Int) = its.length) && decide ((Maps.size (Maps.setOf u (its.map tL)) : Int) = its.length) && decide (total its ≤ lim)) := by
  have e1 := (size_set u (its.map kL) (keysOf_key kL_key its)).2
  have e2 := (size_set u (its.map tL) (keysOf_key tL_key its)).2
  rw [List.length_map] at e1 e2
  have eg := goodTo_iff nx its its.length (Nat.le_refl _)
  rw [List.take_length] at eg
  have d1 : ∀ c : Bool, (c = true ↔ (its.map kL).Nodup) → decide ((Maps.size (Maps.setOf u (its.map kL)) : Int) = its.length) = c := by
    intro c hc
    rw [Bool.eq_iff_iff, hc, ← e1, decide_eq_true_eq]; omega
  have d2 : ∀ c : Bool, (c = true ↔ (its.map tL).Nodup) → decide ((Maps.size (Maps.setOf u (its.map tL)) : Int) = its.length) = c := by
    intro c hc
    rw [Bool.eq_iff_iff, hc, ← e2, decide_eq_true_eq]; omega
  cases hg : goodTo nx its its.length
  · have hn : ¬ ((its.map kL).Nodup ∧ (its.map tL).Nodup) := fun hh => by rw [eg.2 ⟨h4, hh⟩] at hg; cases hg
    have e3 : gsB lim nx its = false := by unfold gsB; rw [hg]; simp
    rw [e3]
    by_cases n1 : (its.map kL).Nodup
    · rw [d2 false (by simp; exact fun n2 => hn ⟨n1, n2⟩)]; simp
    · rw [d1 false (by simp; exact n1)]; simp
  · obtain ⟨_, n1, n2⟩ := eg.1 hg
    rw [← gs_5 h1 h2 h3 hg, d1 true (by simp; exact n1), d2 true (by simp; exact n2)]; rfl
end Store
end Go.Proofs.YthgcfklfpllgnaaDoor
/-
  Plain data of the struct Point, and how a slice of them lies in memory (written by a program of mine). No Go function is spoken of here.
-/
namespace Go.Proofs.YthgcfklfpllgnaaDoor
namespace Points
open Go.RowKit Base
set_option linter.unusedVariables false

structure D where
  pos : Int
  name : ByteArray
def zero : D := ⟨0, ByteArray.empty⟩
def At (w : World) (b o : Nat) (x : D) : Prop :=
  w.cell? ⟨b, o, none⟩ = some (.int .u32 x.pos) ∧ w.cell? ⟨b, o + 1, none⟩ = some (.string x.name)
theorem At.below {w w' : World} {b o : Nat} {x : D} {B : Nat} (h : At w b o x) (hb : Below B w w') (hB : b < B) : At w' b o x := by
  obtain ⟨h0, h1⟩ := h
  refine ⟨?_, ?_⟩
  · rw [hb.cell (p := ⟨b, o, none⟩) hB]; exact h0
  · rw [hb.cell (p := ⟨b, o + 1, none⟩) hB]; exact h1
def LAt (w : World) (a : Option Addr) (l : List D) : Prop :=
  l ≠ [] → ∃ b off, a = some ⟨b, off, none⟩ ∧ b < w.heap.size ∧ ∀ i, i < l.length → At w b (off + i * 2) (l.getD i zero)
theorem LAt.below {w w' : World} {a : Option Addr} {l : List D} {B : Nat} (h : LAt w a l) (hb : Below B w w') (hB : w.heap.size ≤ B) : LAt w' a l := by
  intro hne
  obtain ⟨b, off, ha, hlt, hc⟩ := h hne
  exact ⟨b, off, ha, Nat.lt_of_lt_of_le hlt hb.size, fun i hi => (hc i hi).below hb (Nat.lt_of_lt_of_le hlt hB)⟩
def icell (l : List D) (j : Nat) : Value := if j % 2 = 0 then .int .u32 (l.getD (j / 2) zero).pos else .string (l.getD (j / 2) zero).name
def half (l : List D) (k j : Nat) : Value := if j < k * 2 then icell l j else icell [] j
theorem half_step (l : List D) (k : Nat) (j : Nat) : (if j = k * 2 + 1 then (.string (l.getD k zero).name : Value) else if j = k * 2 then (.int .u32 (l.getD k zero).pos : Value) else half l k j) = half l (k + 1) j := by
  unfold half
  by_cases h1 : j = k * 2 + 1
  · subst h1
    rw [if_pos rfl, if_pos (by omega), icell, show (k * 2 + 1) % 2 = 1 by omega, show (k * 2 + 1) / 2 = k by omega]
    simp
  rw [if_neg h1]
  by_cases h0 : j = k * 2
  · subst h0
    rw [if_pos rfl, if_pos (by omega), icell, show (k * 2) % 2 = 0 by omega, show (k * 2) / 2 = k by omega]
    simp
  rw [if_neg h0]
  by_cases h : j < k * 2
  · rw [if_pos h, if_pos (by omega)]
  · rw [if_neg h, if_neg (by omega)]
theorem at_row {w : World} {b : Nat} {t : TypeId} {l : List D} (h : w.rowIs b t (l.length * 2) (icell l)) (i : Nat) (hi : i < l.length) : At w b (0 + i * 2) (l.getD i zero) := by
  rw [Nat.zero_add]
  refine ⟨?_, ?_⟩
  · rw [h.cell (by omega), icell, show (i * 2) % 2 = 0 by omega, show (i * 2) / 2 = i by omega]; simp
  · rw [h.cell (by omega), icell, show (i * 2 + 1) % 2 = 1 by omega, show (i * 2 + 1) / 2 = i by omega]; simp
theorem LAt.row {w : World} {b : Nat} {t : TypeId} {l : List D} (h : w.rowIs b t (l.length * 2) (icell l)) : LAt w (some ⟨b, 0, none⟩) l := fun _ => ⟨b, 0, rfl, h.lt, at_row h⟩
theorem made_zero (i : Nat) : (#[.int .u32 0, .string ByteArray.empty] : Array Value)[i % 2]! = icell [] i := by
  have h : i % 2 < 2 := Nat.mod_lt _ (by omega)
  unfold icell
  generalize i % 2 = m at h
  obtain rfl | rfl : m = 0 ∨ m = 1 := by omega
  all_goals simp [zero]
def szI (x : D) (left : Int) : Int := if left - x.name.size < 0 then -1 else left - x.name.size
def szGo : List D → Int → Int
  | [], l => l
  | x :: r, l => if szI x l < 0 then -1 else szGo r (szI x l)
def szL (l : List D) (left : Int) : Int := if left - l.length < 0 then -1 else szGo l (left - l.length)
theorem szI_bd (x : D) (l : Int) (h : 0 ≤ l) : -1 ≤ szI x l ∧ szI x l ≤ l := by
  unfold szI
  repeat' split
  all_goals omega
theorem szGo_drop (its : List D) (k : Nat) (h : k < its.length) (l : Int) : szGo (its.drop k) l = if szI (its.getD k zero) l < 0 then -1 else szGo (its.drop (k + 1)) (szI (its.getD k zero) l) := by
  rw [List.drop_eq_getElem_cons h, szGo]
  simp [h]
theorem szGo_bd (its : List D) (l : Int) (h : 0 ≤ l) : -1 ≤ szGo its l ∧ szGo its l ≤ l := by
  induction its generalizing l with
  | nil => simp [szGo]; omega
  | cons x r ih =>
    have := szI_bd x l h
    rw [szGo]
    split
    · omega
    · have := ih (szI x l) (by omega); omega
theorem szL_bd (l : List D) (left : Int) (h0 : 0 ≤ left) : -1 ≤ szL l left ∧ szL l left ≤ left := by
  unfold szL
  split
  · omega
  · have := szGo_bd l (left - l.length) (by omega); omega
theorem szL_len {l : List D} {left : Int} (h : ¬ szL l left < 0) : (l.length : Int) ≤ left := by
  unfold szL at h
  split at h <;> omega
def Fits (x : D) : Prop := x.name.size ≤ maxLen
theorem fits_getD {l : List D} (h : ∀ x ∈ l, Fits x) (k : Nat) (hk : k < l.length) : Fits (l.getD k zero) := by
  rw [List.getD_eq_getElem?_getD, List.getElem?_eq_getElem hk]
  exact h _ (List.getElem_mem _)
end Points
end Go.Proofs.YthgcfklfpllgnaaDoor
/-
  Plain mathematics of a ring of points: their order, sorted lists, runs that are merged, who owns a place. No Go function is spoken of here.
-/
namespace Go.Proofs.YthgcfklfpllgnaaDoor
namespace Ring
open Points (D)
set_option linter.unusedVariables false

theorem bytesLess_lt : ∀ (x y : List UInt8), Op.bytesLess x y = decide (x < y)
  | [], [] => by simp [Op.bytesLess]
  | _ :: _, [] => by simp [Op.bytesLess]
  | [], _ :: _ => by simp [Op.bytesLess]
  | a :: x, b :: y => by
    rw [Op.bytesLess, bytesLess_lt x y]
    simp only [List.cons_lt_cons_iff]
    by_cases h1 : a < b <;> by_cases h2 : a = b <;> by_cases h3 : x < y <;> simp [h1, h2, h3]

/-- The order of the points. -/
def less (a b : D) : Bool := decide (a.pos < b.pos) || (decide (a.pos = b.pos) && Op.bytesLess a.name.data.toList b.name.data.toList)
def le (a b : D) : Bool := !less b a
theorem less_iff (a b : D) : less a b = true ↔ a.pos < b.pos ∨ (a.pos = b.pos ∧ a.name.data.toList < b.name.data.toList) := by
  simp [less, bytesLess_lt]
theorem less_no (a b : D) : less a b = false ↔ ¬ (a.pos < b.pos ∨ (a.pos = b.pos ∧ a.name.data.toList < b.name.data.toList)) := by
  rw [← less_iff]; simp
theorem less_irrefl (a : D) : less a a = false := by
  rw [less_no]
  rintro (h | ⟨_, h⟩)
  · omega
  · exact List.lt_irrefl _ h
theorem less_trans {a b c : D} (h1 : less a b = true) (h2 : less b c = true) : less a c = true := by
  rw [less_iff] at *
  rcases h1 with h1 | ⟨h1, h1'⟩ <;> rcases h2 with h2 | ⟨h2, h2'⟩
  · left; omega
  · left; omega
  · left; omega
  · right; exact ⟨by omega, List.lt_trans h1' h2'⟩
theorem D_ext {a b : D} (h1 : a.pos = b.pos) (h2 : a.name = b.name) : a = b := by cases a; cases b; simp_all
theorem less_tri {a b : D} (h1 : less a b = false) (h2 : less b a = false) : a = b := by
  rw [less_no] at h1 h2
  have hp : a.pos = b.pos := by omega
  refine D_ext hp (Go.WideShapes.bytes_inj ?_)
  have n1 : ¬ a.name.data.toList < b.name.data.toList := fun h => h1 (.inr ⟨hp, h⟩)
  have n2 : ¬ b.name.data.toList < a.name.data.toList := fun h => h2 (.inr ⟨hp.symm, h⟩)
  exact List.le_antisymm (List.not_lt.1 n2) (List.not_lt.1 n1)
theorem less_asymm {a b : D} (h : less a b = true) : less b a = false := by
  cases e : less b a with
  | false => rfl
  | true => exact absurd (less_trans h e) (by rw [less_irrefl]; simp)
theorem le_trans {a b c : D} (h1 : le a b = true) (h2 : le b c = true) : le a c = true := by
  simp only [le, Bool.not_eq_true'] at *
  cases e : less c a with
  | false => rfl
  | true =>
    cases e2 : less a b with
    | true => rw [less_trans e e2] at h2; simp at h2
    | false => rw [less_tri e2 h1] at e; rw [e] at h2; simp at h2
theorem le_total (a b : D) : (le a b || le b a) = true := by
  simp only [le]
  cases e : less b a with
  | false => simp
  | true => simp [less_asymm e]
theorem le_of_less {a b : D} (h : less a b = true) : le a b = true := by simp [le, less_asymm h]
theorem le_antisymm {a b : D} (h1 : le a b = true) (h2 : le b a = true) : a = b := by
  simp only [le, Bool.not_eq_true'] at *
  exact less_tri h2 h1

def Sorted (l : List D) : Prop := l.Pairwise (fun a b => le a b = true)
theorem sorted_unique {l1 l2 : List D} (hp : l1.Perm l2) (h1 : Sorted l1) (h2 : Sorted l2) : l1 = l2 := by
  induction l1 generalizing l2 with
  | nil => exact (List.nil_perm.1 hp).symm
  | cons a r ih =>
    cases l2 with
    | nil => exact absurd hp (by simp)
    | cons b s =>
      have hab : a = b := by
        have ha : a ∈ b :: s := hp.subset (by simp)
        have hb : b ∈ a :: r := hp.symm.subset (by simp)
        rcases List.mem_cons.1 ha with h | h
        · exact h
        rcases List.mem_cons.1 hb with h' | h'
        · exact h'.symm
        exact le_antisymm ((List.pairwise_cons.1 h1).1 b h') ((List.pairwise_cons.1 h2).1 a h)
      subst hab
      rw [ih (List.perm_cons _ |>.1 hp) (List.pairwise_cons.1 h1).2 (List.pairwise_cons.1 h2).2]

/-- The ring of a list of points: its one sorted order. -/
def ring (l : List D) : List D := l.mergeSort le
theorem ring_sorted (l : List D) : Sorted (ring l) := List.pairwise_mergeSort (le := le) (fun _ _ _ h1 h2 => le_trans h1 h2) le_total l
theorem ring_perm (l : List D) : (ring l).Perm l := List.mergeSort_perm l le
theorem ring_eq {l r : List D} (hp : r.Perm l) (hs : Sorted r) : r = ring l := sorted_unique (hp.trans (ring_perm l).symm) hs (ring_sorted l)
theorem ring_length (l : List D) : (ring l).length = l.length := (ring_perm l).length_eq

/-- One point sinks into a sorted row: what stands there when it stops. -/
theorem sink_sorted {A1 A2 : List D} {x : D} (hs : Sorted (A1 ++ A2)) (h2 : ∀ y ∈ A2, less x y = true) (h1 : ∀ y, A1.getLast? = some y → less x y = false) : Sorted (A1 ++ x :: A2) := by
  unfold Sorted at *
  rw [List.pairwise_append] at *
  obtain ⟨p1, p2, p3⟩ := hs
  refine ⟨p1, List.pairwise_cons.2 ⟨fun y hy => le_of_less (h2 y hy), p2⟩, ?_⟩
  intro a ha b hb
  rcases List.mem_cons.1 hb with rfl | hb
  · rcases List.eq_nil_or_concat A1 with rfl | ⟨I, z, rfl⟩
    · simp at ha
    · have hz : le z b = true := by have := h1 z (by simp); simpa [le] using this
      rw [List.concat_eq_append] at ha p1
      rcases List.mem_append.1 ha with h | h
      · exact le_trans ((List.pairwise_append.1 p1).2.2 a h z (by simp)) hz
      · rw [List.mem_singleton.1 h]; exact hz
  · exact p3 a ha b hb
theorem sink_perm (A1 A2 : List D) (x : D) : (A1 ++ x :: A2).Perm (A1 ++ A2 ++ [x]) := by
  rw [List.append_assoc]
  exact List.Perm.append_left A1 (List.perm_append_singleton x A2).symm

/-- Rows of length r, one behind the other, each sorted. -/
def Runs (r : Nat) (l : List D) : Prop := ∀ k, Sorted ((l.drop (k * r)).take r)
theorem runs_one (l : List D) : Runs 1 l := by
  intro k
  unfold Sorted
  cases h : l.drop (k * 1) with
  | nil => simp
  | cons a t => simp
theorem runs_all {r : Nat} {l : List D} (h : Runs r l) (hr : l.length ≤ r) : Sorted l := by
  have := h 0
  rwa [Nat.zero_mul, List.drop_zero, List.take_of_length_le hr] at this
/-- A merge of two runs of half the length put behind whole runs. -/
theorem runs_snoc {r : Nat} {l c : List D} {m : Nat} (hl : l.length = m * r) (h : Runs r l) (hc : Sorted c) (hcr : c.length ≤ r) : Runs r (l ++ c) := by
  intro k
  by_cases hk : k < m
  · have h1 : k * r + r ≤ m * r := by rw [← Nat.succ_mul]; exact Nat.mul_le_mul_right r hk
    have e : ((l ++ c).drop (k * r)).take r = (l.drop (k * r)).take r := by
      rw [List.drop_append_of_le_length (by omega), List.take_append_of_le_length (by simp; omega)]
    rw [e]; exact h k
  · have h1 : m * r ≤ k * r := Nat.mul_le_mul_right r (by omega)
    rw [List.drop_append]
    rw [List.drop_eq_nil_of_le (by omega), List.nil_append]
    unfold Sorted at *
    exact (hc.drop).take
theorem merge_sorted {a b : List D} (ha : Sorted a) (hb : Sorted b) : Sorted (List.merge a b le) := List.pairwise_merge (le := le) (fun _ _ _ h1 h2 => le_trans h1 h2) le_total a b ha hb
theorem merge_perm (a b : List D) : (List.merge a b le).Perm (a ++ b) := List.merge_perm_append le
theorem merge_length (a b : List D) : (List.merge a b le).length = a.length + b.length := by rw [(merge_perm a b).length_eq]; simp

/-- The first point of a ring that is not below h, or the first of all. -/
def ownerN (l : List D) (h : Int) : ByteArray := match l.find? (fun p => decide (h ≤ p.pos)) with
  | some p => p.name
  | none => (l.getD 0 Points.zero).name
theorem find_at {l : List D} {h : Int} {i : Nat} (hi : i < l.length) (hlo : ∀ j, j < i → (l.getD j Points.zero).pos < h) (hhi : h ≤ (l.getD i Points.zero).pos) : ownerN l h = (l.getD i Points.zero).name := by
  have e : l.find? (fun p => decide (h ≤ p.pos)) = some (l.getD i Points.zero) := by
    rw [List.getD_eq_getElem?_getD, List.getElem?_eq_getElem hi] at *
    rw [List.find?_eq_some_iff_getElem]
    refine ⟨by simpa using hhi, i, hi, rfl, fun j hj => ?_⟩
    have := hlo j hj
    rw [List.getD_eq_getElem?_getD, List.getElem?_eq_getElem (by omega)] at this
    simpa using this
  unfold ownerN
  rw [e]
theorem find_none {l : List D} {h : Int} (hlo : ∀ j, j < l.length → (l.getD j Points.zero).pos < h) : ownerN l h = (l.getD 0 Points.zero).name := by
  have e : l.find? (fun p => decide (h ≤ p.pos)) = none := by
    rw [List.find?_eq_none]
    intro p hp
    obtain ⟨j, hj, rfl⟩ := List.mem_iff_getElem.1 hp
    have := hlo j hj
    rw [List.getD_eq_getElem?_getD, List.getElem?_eq_getElem hj] at this
    simpa using this
  unfold ownerN
  rw [e]
/-- The least of a list by one pass, and the least of those that are not below h. -/
def IsLeast (l : List D) (p : D) : Prop := p ∈ l ∧ ∀ q ∈ l, le p q = true
theorem least_unique {l : List D} {p q : D} (hp : IsLeast l p) (hq : IsLeast l q) : p = q := le_antisymm (hp.2 q hq.1) (hq.2 p hp.1)
theorem least_perm {l r : List D} {p : D} (h : l.Perm r) (hp : IsLeast l p) : IsLeast r p := ⟨h.subset hp.1, fun q hq => hp.2 q (h.symm.subset hq)⟩
theorem least_head {l : List D} {p : D} (hs : Sorted l) (hp : IsLeast l p) : l.getD 0 Points.zero = p := by
  cases l with
  | nil => exact absurd hp.1 (by simp)
  | cons a r =>
    have : IsLeast (a :: r) a := ⟨by simp, fun q hq => by
      rcases List.mem_cons.1 hq with rfl | hq
      · simp [le, less_irrefl]
      · exact (List.pairwise_cons.1 hs).1 q hq⟩
    simpa using least_unique this hp
theorem sorted_pos {a b : D} (h : le a b = true) : a.pos ≤ b.pos := by
  simp only [le, Bool.not_eq_true', less_no] at h
  omega
theorem owner_least {l : List D} {h : Int} {p : D} (hs : Sorted l) (hp : IsLeast (l.filter (fun p => decide (h ≤ p.pos))) p) : ownerN l h = p.name := by
  have hf : l.find? (fun p => decide (h ≤ p.pos)) = some ((l.filter (fun p => decide (h ≤ p.pos))).getD 0 Points.zero) := by
    rw [← List.head?_filter]
    cases e : l.filter (fun p => decide (h ≤ p.pos)) with
    | nil => rw [e] at hp; exact absurd hp.1 (by simp)
    | cons a r => simp
  have hh := least_head (l := l.filter (fun p => decide (h ≤ p.pos))) (hs.filter _) hp
  unfold ownerN
  rw [hf, hh]
theorem owner_first {l : List D} {h : Int} {p : D} (hs : Sorted l) (hn : l.filter (fun p => decide (h ≤ p.pos)) = []) (hp : IsLeast l p) : ownerN l h = p.name := by
  have hf : l.find? (fun p => decide (h ≤ p.pos)) = none := by
    rw [← List.head?_filter, hn]; rfl
  unfold ownerN
  rw [hf, least_head hs hp]
/-- One more point: the least so far. -/
theorem least_one (x : D) : IsLeast [x] x := ⟨by simp, fun q hq => by rw [List.mem_singleton.1 hq]; simp [le, less_irrefl]⟩
theorem least_snoc_new {l : List D} {p x : D} (hp : IsLeast l p) (h : less x p = true) : IsLeast (l ++ [x]) x := ⟨by simp, fun q hq => by
  rcases List.mem_append.1 hq with hq | hq
  · exact le_trans (le_of_less h) (hp.2 q hq)
  · rw [List.mem_singleton.1 hq]; simp [le, less_irrefl]⟩
theorem least_snoc_old {l : List D} {p x : D} (hp : IsLeast l p) (h : less x p = false) : IsLeast (l ++ [x]) p := ⟨by simp [hp.1], fun q hq => by
  rcases List.mem_append.1 hq with hq | hq
  · exact hp.2 q hq
  · rw [List.mem_singleton.1 hq]; simp [le, h]⟩
end Ring
end Go.Proofs.YthgcfklfpllgnaaDoor
