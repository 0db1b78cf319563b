/-
  Rows of cells that the call itself has made by append: laws of my own. No Go function is spoken of here.
-/
import Derived.Test.YthgcfklfpllgnaaDoorZ2
import Derived.Sort.Walk0
import Derived.Lib.SlicesCompact
namespace Go.Proofs.YthgcfklfpllgnaaDoor
namespace OwnR
open Go.RowKit Base Marks

section
variable {w w' : World} {base : Nat} {e : TypeId} {size : Nat} {v : Value} {n : Nat} {xs : List Value}
theorem own_below {B : Nat} (h : w.ownsRow base e size v n xs) (hb : Below B w w') (hB : w.heap.size ≤ B) : w'.ownsRow base e size v n xs := by
  refine ⟨h.1, h.2.elim Or.inl ?_⟩
  rintro ⟨g, cap, cur, hv, hg, hh, r⟩
  have hlt : g < w.heap.size := (Array.getElem?_eq_some_iff.1 hh).1
  exact Or.inr ⟨g, cap, cur, hv, hg, by rw [hb.block g (by omega)]; exact hh, r⟩
theorem own_block (h : w.ownsRow base e size v n xs) : ∀ k, v.ownBlock = some k → base ≤ k := by
  intro k hk
  rcases h.2 with ⟨rfl, _⟩ | ⟨g, cap, cur, rfl, hg, _⟩
  · simp [Value.ownBlock] at hk
  · simp [Value.ownBlock] at hk; omega
theorem own_form (h : w.ownsRow base e size v n xs) : ∃ a cap, v = .slice a n cap := by
  rcases h.2 with ⟨rfl, rfl⟩ | ⟨g, cap, cur, rfl, _⟩
  · exact ⟨none, 0, rfl⟩
  · exact ⟨_, _, rfl⟩
theorem own_le {base' : Nat} (h : w.ownsRow base e size v n xs) (hb : base' ≤ base) : w.ownsRow base' e size v n xs :=
  ⟨h.1, h.2.elim Or.inl (fun ⟨g, cap, cur, hv, hg, r⟩ => Or.inr ⟨g, cap, cur, hv, Nat.le_trans hb hg, r⟩)⟩
/-- Where it has an element it is the head of a row of its own. -/
theorem own_some (h : w.ownsRow base e size v n xs) (hn : 0 < n) : ∃ g cap, v = .slice (some ⟨g, 0, none⟩) n cap ∧ base ≤ g ∧ n ≤ cap ∧ g < w.heap.size := by
  rcases h.2 with ⟨_, h0⟩ | ⟨g, cap, cur, hv, hg, hh, hc, _⟩
  · omega
  · exact ⟨g, cap, hv, hg, hc, (Array.getElem?_eq_some_iff.1 hh).1⟩
end
end OwnR
end Go.Proofs.YthgcfklfpllgnaaDoor
/-
  Names put in rising order, each once; the cells of fresh places. No Go function is spoken of here.
-/
namespace Go.Proofs.YthgcfklfpllgnaaDoor
namespace Plc
open Go.RowKit Base
set_option linter.unusedVariables false

/-- How many names at the head lie below x. -/
def kOf (x : ByteArray) : List ByteArray → Nat
  | [] => 0
  | y :: r => if Op.bytesLess y.toList x.toList = true then kOf x r + 1 else 0
theorem kOf_le (x : ByteArray) : ∀ L, kOf x L ≤ L.length
  | [] => Nat.le_refl _
  | y :: r => by
    have := kOf_le x r
    unfold kOf
    split <;> simp <;> omega
theorem kOf_lt {x : ByteArray} : ∀ {L : List ByteArray} {j : Nat}, j < kOf x L → Op.bytesLess (L.getD j ByteArray.empty).toList x.toList = true
  | [], j, h => by simp [kOf] at h
  | y :: r, j, h => by
    unfold kOf at h
    split at h
    · rename_i hy
      cases j with
      | zero => exact hy
      | succ j => exact kOf_lt (L := r) (j := j) (by omega)
    · omega
theorem kOf_at {x : ByteArray} : ∀ {L : List ByteArray}, kOf x L < L.length → Op.bytesLess (L.getD (kOf x L) ByteArray.empty).toList x.toList = false
  | [], h => by simp at h
  | y :: r, h => by
    by_cases hy : Op.bytesLess y.toList x.toList = true
    · have e : kOf x (y :: r) = kOf x r + 1 := if_pos hy
      rw [e] at h ⊢
      exact kOf_at (L := r) (by simpa using h)
    · have e : kOf x (y :: r) = 0 := if_neg hy
      rw [e]
      simpa using hy
/-- x put in its place, where it is not there yet. -/
def ins (x : ByteArray) (L : List ByteArray) : List ByteArray :=
  if kOf x L < L.length ∧ L.getD (kOf x L) ByteArray.empty = x then L else L.take (kOf x L) ++ [x] ++ L.drop (kOf x L)
theorem ins_there {x : ByteArray} {L : List ByteArray} (h : kOf x L < L.length) (he : L.getD (kOf x L) ByteArray.empty = x) : ins x L = L := if_pos ⟨h, he⟩
theorem ins_new {x : ByteArray} {L : List ByteArray} (h : ¬ (kOf x L < L.length ∧ L.getD (kOf x L) ByteArray.empty = x)) : ins x L = L.take (kOf x L) ++ [x] ++ L.drop (kOf x L) := if_neg h
theorem ins_len (x : ByteArray) (L : List ByteArray) : (ins x L).length ≤ L.length + 1 := by
  unfold ins
  split
  · omega
  · simp; have := kOf_le x L; omega
def insAll (xs : List ByteArray) : List ByteArray := xs.foldl (fun L x => ins x L) []
theorem insAll_snoc (xs : List ByteArray) (x : ByteArray) : insAll (xs ++ [x]) = ins x (insAll xs) := by simp [insAll]
theorem insAll_len (xs : List ByteArray) : (insAll xs).length ≤ xs.length := by
  suffices h : ∀ (xs L : List ByteArray), (xs.foldl (fun L x => ins x L) L).length ≤ L.length + xs.length by
    have := h xs []; simpa [insAll] using this
  intro xs
  induction xs with
  | nil => intro L; simp
  | cons x r ih =>
    intro L
    have h1 := ih (ins x L)
    have h2 := ins_len x L
    simp only [List.foldl_cons, List.length_cons]
    omega
/-- The names of the first i lists. -/
def pre (N : Nat → List Nodes.D) : Nat → List ByteArray
  | 0 => []
  | i + 1 => pre N i ++ (N i).map (·.name)
def upto (N : Nat → List Nodes.D) (i q : Nat) : List ByteArray := pre N i ++ ((N i).take q).map (·.name)
theorem upto_zero (N : Nat → List Nodes.D) (i : Nat) : upto N i 0 = pre N i := by simp [upto]
theorem upto_end (N : Nat → List Nodes.D) (i : Nat) : upto N i (N i).length = pre N (i + 1) := by simp [upto, pre]
theorem upto_succ {N : Nat → List Nodes.D} {i q : Nat} (h : q < (N i).length) : upto N i (q + 1) = upto N i q ++ [((N i).getD q Nodes.zero).name] := by
  unfold upto
  rw [List.take_succ_eq_append_getElem h, List.map_append, List.append_assoc]
  simp [List.getD_eq_getElem?_getD, List.getElem?_eq_getElem h]

/-- The cells of a fresh place. -/
def cellsOf (lim : Int) (x : ByteArray) : List Value := [.string x, .int .i64 lim, .int .i64 1, .slice none 0 0]
def flat (lim : Int) (L : List ByteArray) : List Value := L.flatMap (cellsOf lim)
theorem flat_append (lim : Int) (a b : List ByteArray) : flat lim (a ++ b) = flat lim a ++ flat lim b := by simp [flat]
theorem flat_one (lim : Int) (x : ByteArray) : flat lim [x] = cellsOf lim x := by simp [flat]
theorem flat_len (lim : Int) (L : List ByteArray) : (flat lim L).length = L.length * 4 := by
  induction L with
  | nil => rfl
  | cons x r ih =>
    have e : flat lim (x :: r) = cellsOf lim x ++ flat lim r := by simp [flat]
    rw [e, List.length_append, ih]
    simp [cellsOf]; omega
theorem flat_name (lim : Int) : ∀ (L : List ByteArray) (j : Nat), j < L.length → (flat lim L)[j * 4]? = some (.string (L.getD j ByteArray.empty))
  | [], j, h => by simp at h
  | x :: r, j, h => by
    have e : flat lim (x :: r) = cellsOf lim x ++ flat lim r := by simp [flat]
    rw [e]
    cases j with
    | zero => rfl
    | succ j =>
      rw [List.getElem?_append_right (by simp [cellsOf]; omega)]
      have el : (cellsOf lim x).length = 4 := rfl
      rw [el, show (j + 1) * 4 - 4 = j * 4 by omega]
      exact flat_name lim r j (by simpa using h)
theorem flat_one_cell {lim : Int} {L : List ByteArray} {u : Value} (h : u ∈ flat lim L) : u.oneCell' = true := by
  obtain ⟨x, _, hx⟩ := List.mem_flatMap.1 h
  simp only [cellsOf, List.mem_cons, List.not_mem_nil, or_false] at hx
  rcases hx with rfl | rfl | rfl | rfl <;> rfl
theorem own_cells {w : World} {base : Nat} {e : TypeId} {size : Nat} {g n cap : Nat} {xs : List Value} (h : w.ownsRow base e size (.slice (some ⟨g, 0, none⟩) n cap) n xs) {j : Nat} {u : Value} (hj : xs[j]? = some u) : w.cell? ⟨g, j, none⟩ = some u := by
  rcases h.2 with ⟨hv, _⟩ | ⟨g', cap', cur, hv, hg, hh, hn, _, hsz, ht⟩
  · simp at hv
  · simp only [Value.slice.injEq, Option.some.injEq, Addr.mk.injEq] at hv
    obtain ⟨⟨rfl, _, _⟩, _, _⟩ := hv
    have e : cur[j]? = some u := by
      rw [← ht] at hj
      obtain ⟨h1, h2⟩ := List.getElem?_eq_some_iff.1 hj
      rw [List.length_take] at h1
      rw [List.getElem?_take_of_lt (by omega)] at hj
      simpa using hj
    simp only [World.cell?, hh, e]
    simp
theorem news_head {w : World} {base g n cap k : Nat} {t : TypeId} {lim : Int} {L : List ByteArray} (h : w.ownsRow base t 4 (.slice (some ⟨g, 0, none⟩) n cap) n (flat lim L)) (j : Nat) (u : Value) (hj : (flat lim (L.take k))[j]? = some u) : w.cell? ((⟨g, 0, none⟩ : Addr).add j) = some u := by
  rw [Go.WideShapes.add_plain, Nat.zero_add]
  refine own_cells h ?_
  have e : flat lim L = flat lim (L.take k) ++ flat lim (L.drop k) := by rw [← flat_append, List.take_append_drop]
  rw [e, List.getElem?_append_left (List.getElem?_eq_some_iff.1 hj).1]
  exact hj
theorem news_tail {w : World} {base g n cap k : Nat} {t : TypeId} {lim : Int} {L : List ByteArray} (hk : k ≤ L.length) (h : w.ownsRow base t 4 (.slice (some ⟨g, 0, none⟩) n cap) n (flat lim L)) (j : Nat) (u : Value) (hj : (flat lim (L.drop k))[j]? = some u) : w.cell? ((⟨g, k * 4, none⟩ : Addr).add j) = some u := by
  rw [Go.WideShapes.add_plain]
  refine own_cells h ?_
  have e : flat lim L = flat lim (L.take k) ++ flat lim (L.drop k) := by rw [← flat_append, List.take_append_drop]
  have el : (flat lim (L.take k)).length = k * 4 := by rw [flat_len, List.length_take, Nat.min_eq_left hk]
  rw [e, List.getElem?_append_right (by omega), el, show k * 4 + j - k * 4 = j by omega]
  exact hj
theorem news_one (w : World) (lim : Int) (x : ByteArray) (t : TypeId) (j : Nat) (u : Value) (hj : (cellsOf lim x)[j]? = some u) :
    (w.alloc (.cells #[.string x, .int .i64 lim, .int .i64 1, .slice none 0 0] t)).cell? ((⟨w.heap.size, 0, none⟩ : Addr).add j) = some u := by
  rw [Go.WideShapes.add_plain, Nat.zero_add, World.cell?_alloc_new]
  show (cellsOf lim x).toArray[j]? = some u
  simpa using hj
theorem box2 (w : World) (t : TypeId) (v0 v1 : Value) : (w.alloc (.cells #[v0, v1] t)).cell? ⟨w.heap.size, 0, none⟩ = some v0 ∧ (w.alloc (.cells #[v0, v1] t)).cell? ⟨w.heap.size, 1, none⟩ = some v1 := by
  refine ⟨?_, ?_⟩ <;> (rw [World.cell?_alloc_new]; rfl)
end Plc
end Go.Proofs.YthgcfklfpllgnaaDoor
/-
  Names put in order, each once: by putting each in its place, and by sorting and taking neighbours that are alike together. No Go function is spoken of here.
-/
namespace Go.Proofs.YthgcfklfpllgnaaDoor
namespace Plc
open Go.RowKit Base
set_option linter.unusedVariables false

def toL (b : ByteArray) : List UInt8 := b.data.toList
theorem toL_inj {a b : ByteArray} (h : toL a = toL b) : a = b := Go.WideShapes.bytes_inj h
theorem less_iff (a b : ByteArray) : Op.bytesLess a.toList b.toList = true ↔ toL a < toL b := by
  rw [bytesLess_eq, Lib.toList_data, Lib.toList_data, decide_eq_true_eq]; rfl
def Rising (L : List (List UInt8)) : Prop := L.Pairwise (· < ·)
theorem lt_tri (a b : List UInt8) : a < b ∨ a = b ∨ b < a := by
  by_cases h : a < b
  · exact .inl h
  · by_cases h2 : b < a
    · exact .inr (.inr h2)
    · exact .inr (.inl (List.le_antisymm (List.not_lt.1 h2) (List.not_lt.1 h)))
theorem rising_unique : ∀ {L M : List (List UInt8)}, Rising L → Rising M → (∀ x, x ∈ L ↔ x ∈ M) → L = M
  | [], [], _, _, _ => rfl
  | [], y :: M, _, _, h => absurd ((h y).2 (by simp)) (by simp)
  | x :: L, [], _, _, h => absurd ((h x).1 (by simp)) (by simp)
  | x :: L, y :: M, hL, hM, h => by
    obtain ⟨h1, h2⟩ := List.pairwise_cons.1 hL
    obtain ⟨k1, k2⟩ := List.pairwise_cons.1 hM
    have e : x = y := by
      rcases List.mem_cons.1 ((h x).1 (by simp)) with e | hx
      · exact e
      · rcases List.mem_cons.1 ((h y).2 (by simp)) with e | hy
        · exact e.symm
        · exact absurd (List.lt_trans (k1 x hx) (h1 y hy)) (List.lt_irrefl _)
    subst e
    congr 1
    refine rising_unique h2 k2 (fun z => ⟨fun hz => ?_, fun hz => ?_⟩)
    · rcases List.mem_cons.1 ((h z).1 (List.mem_cons_of_mem _ hz)) with e | hz'
      · exact absurd (e ▸ h1 z hz) (List.lt_irrefl _)
      · exact hz'
    · rcases List.mem_cons.1 ((h z).2 (List.mem_cons_of_mem _ hz)) with e | hz'
      · exact absurd (e ▸ k1 z hz) (List.lt_irrefl _)
      · exact hz'
theorem ins_cons (x y : ByteArray) (L : List ByteArray) : ins x (y :: L) = if toL y < toL x then y :: ins x L else if y = x then y :: L else x :: y :: L := by
  by_cases h : toL y < toL x
  · have e : kOf x (y :: L) = kOf x L + 1 := if_pos ((less_iff y x).2 h)
    rw [if_pos h]
    unfold ins
    rw [e]
    by_cases h2 : kOf x L < L.length ∧ L.getD (kOf x L) ByteArray.empty = x
    · rw [if_pos h2, if_pos ⟨by simpa using h2.1, by simpa using h2.2⟩]
    · rw [if_neg h2, if_neg (fun hh => h2 ⟨by simpa using hh.1, by simpa using hh.2⟩)]
      simp
  · have e : kOf x (y :: L) = 0 := if_neg (fun hh => h ((less_iff y x).1 hh))
    rw [if_neg h]
    unfold ins
    rw [e]
    by_cases h2 : y = x
    · rw [if_pos h2, if_pos ⟨by simp, by simpa using h2⟩]
    · rw [if_neg h2, if_neg (fun hh => h2 (by simpa using hh.2))]
      simp
theorem ins_mem (x z : ByteArray) (L : List ByteArray) : z ∈ ins x L ↔ z = x ∨ z ∈ L := by
  induction L with
  | nil => simp [ins, kOf]
  | cons y r ih =>
    rw [ins_cons]
    split
    · simp only [List.mem_cons, ih]
      constructor
      · rintro (h | h | h)
        · exact .inr (.inl h)
        · exact .inl h
        · exact .inr (.inr h)
      · rintro (h | h | h)
        · exact .inr (.inl h)
        · exact .inl h
        · exact .inr (.inr h)
    · split
      · rename_i e
        subst e
        simp
      · simp
theorem ins_rising (x : ByteArray) (L : List ByteArray) (h : Rising (L.map toL)) : Rising ((ins x L).map toL) := by
  induction L with
  | nil => simp [ins, kOf, Rising]
  | cons y r ih =>
    rw [ins_cons]
    have hc := List.pairwise_cons.1 (show List.Pairwise (· < ·) (toL y :: r.map toL) from h)
    split
    · rename_i hlt
      show List.Pairwise _ (toL y :: (ins x r).map toL)
      refine List.pairwise_cons.2 ⟨fun z hz => ?_, ih hc.2⟩
      obtain ⟨q, hq, rfl⟩ := List.mem_map.1 hz
      rcases (ins_mem x q r).1 hq with rfl | hq'
      · exact hlt
      · exact hc.1 _ (List.mem_map.2 ⟨q, hq', rfl⟩)
    · split
      · exact h
      · rename_i h1 h2
        have hxy : toL x < toL y := by
          rcases lt_tri (toL x) (toL y) with h3 | h3 | h3
          · exact h3
          · exact absurd (toL_inj h3).symm h2
          · exact absurd h3 h1
        show List.Pairwise _ (toL x :: toL y :: r.map toL)
        refine List.pairwise_cons.2 ⟨fun z hz => ?_, h⟩
        rcases List.mem_cons.1 hz with rfl | hz
        · exact hxy
        · exact List.lt_trans hxy (hc.1 z hz)
theorem insAll_rising (xs : List ByteArray) : Rising ((insAll xs).map toL) := by
  suffices h : ∀ (xs L : List ByteArray), Rising (L.map toL) → Rising ((xs.foldl (fun L x => ins x L) L).map toL) from h xs [] (by simp [Rising])
  intro xs
  induction xs with
  | nil => intro L h; exact h
  | cons x r ih => intro L h; exact ih _ (ins_rising x L h)
theorem insAll_mem (xs : List ByteArray) (z : ByteArray) : z ∈ insAll xs ↔ z ∈ xs := by
  suffices h : ∀ (xs L : List ByteArray), z ∈ xs.foldl (fun L x => ins x L) L ↔ z ∈ xs ∨ z ∈ L by
    have := h xs []; simpa [insAll] using this
  intro xs
  induction xs with
  | nil => intro L; simp
  | cons x r ih =>
    intro L
    simp only [List.foldl_cons, ih, ins_mem, List.mem_cons]
    constructor
    · rintro (h | h | h)
      · exact .inl (.inr h)
      · exact .inl (.inl h)
      · exact .inr h
    · rintro ((h | h) | h)
      · exact .inr (.inl h)
      · exact .inl h
      · exact .inr (.inr h)

/-- What is left of a list that never falls, neighbours that are alike taken together. -/
theorem comp_upto (zs : List (List UInt8)) (hs : zs.Pairwise (· ≤ ·)) : ∀ m, m ≤ zs.length → Rising (Lib.compactUpTo zs.toArray m) ∧ (∀ z, z ∈ Lib.compactUpTo zs.toArray m ↔ z ∈ zs.take m)
  | 0, _ => by simp [Lib.compactUpTo, Rising]
  | m + 1, hm => by
    obtain ⟨h1, h2⟩ := comp_upto zs hs m (by omega)
    have hlt : m < zs.length := by omega
    have eg : zs.toArray[m]! = zs[m] := by simp [hlt]
    rw [Lib.compactUpTo_succ, eg, List.take_succ_eq_append_getElem hlt]
    cases hk : Lib.keeps zs.toArray m
    · simp only [Lib.keeps, decide_eq_false_iff_not, not_or, Decidable.not_not] at hk
      obtain ⟨hm0, he⟩ := hk
      have eg' : zs.toArray[m - 1]! = zs[m - 1]'(by omega) := by simp [show m - 1 < zs.length by omega]
      rw [eg, eg'] at he
      refine ⟨by simpa using h1, fun z => ?_⟩
      simp only [Bool.false_eq_true, if_false, List.append_nil, List.mem_append, List.mem_singleton, h2]
      refine ⟨.inl, ?_⟩
      rintro (h | h)
      · exact h
      · rw [h, he, List.mem_take_iff_getElem]
        exact ⟨m - 1, by omega, rfl⟩
    · refine ⟨?_, fun z => by simp only [if_true, List.mem_append, h2]⟩
      simp only [if_true]
      refine List.pairwise_append.2 ⟨h1, by simp, fun a ha b hb => ?_⟩
      obtain rfl := List.mem_singleton.1 hb
      obtain ⟨i, hi, rfl⟩ := List.mem_take_iff_getElem.1 ((h2 a).1 ha)
      have hi' : i < m := by omega
      have hle : zs[i] ≤ zs[m] := List.pairwise_iff_getElem.1 hs i m (by omega) hlt hi'
      simp only [Lib.keeps, decide_eq_true_eq] at hk
      have hne : zs[m] ≠ zs[m - 1]'(by omega) := by
        rcases hk with hk | hk
        · omega
        · have eg' : zs.toArray[m - 1]! = zs[m - 1]'(by omega) := by simp [show m - 1 < zs.length by omega]
          rw [eg, eg'] at hk; exact hk
      have hle2 : zs[i] ≤ zs[m - 1]'(by omega) := by
        by_cases e : i = m - 1
        · subst e; exact List.le_refl _
        · exact List.pairwise_iff_getElem.1 hs i (m - 1) (by omega) (by omega) (by omega)
      have hle3 : zs[m - 1]'(by omega) ≤ zs[m] := List.pairwise_iff_getElem.1 hs (m - 1) m (by omega) hlt (by omega)
      rcases lt_tri zs[i] zs[m] with h | h | h
      · exact h
      · exact absurd (List.le_antisymm (h ▸ hle2) hle3) hne
      · exact absurd hle (List.not_le.2 h)
theorem sort_pair (ss : List (List UInt8)) : (ss.mergeSort fun x y => decide (x ≤ y)).Pairwise (· ≤ ·) := by
  have := List.pairwise_mergeSort (le := fun x y : List UInt8 => decide (x ≤ y)) (by intro a b c h1 h2; simp only [decide_eq_true_eq] at *; exact List.le_trans h1 h2) (by intro a b; simp only [Bool.or_eq_true, decide_eq_true_eq]; exact List.le_total a b) ss
  exact this.imp (by intro a b h; simpa using h)
theorem sort_names (xs : List ByteArray) : Lib.compact ((xs.map toL).mergeSort fun x y => decide (x ≤ y)) = (insAll xs).map toL := by
  obtain ⟨h1, h2⟩ := comp_upto _ (sort_pair (xs.map toL)) _ (Nat.le_refl _)
  refine rising_unique h1 (insAll_rising xs) (fun z => ?_)
  show z ∈ Lib.compactUpTo _ _ ↔ _
  rw [h2, List.take_length, (List.mergeSort_perm _ _).mem_iff, List.mem_map, List.mem_map]
  constructor
  · rintro ⟨x, hx, rfl⟩; exact ⟨x, (insAll_mem xs x).2 hx, rfl⟩
  · rintro ⟨x, hx, rfl⟩; exact ⟨x, (insAll_mem xs x).1 hx, rfl⟩
end Plc
end Go.Proofs.YthgcfklfpllgnaaDoor
