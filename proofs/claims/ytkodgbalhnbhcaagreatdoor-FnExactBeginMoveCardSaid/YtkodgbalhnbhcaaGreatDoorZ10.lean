/-
  Plain data of the struct Point, and how a slice of them lies in memory (written by a program of mine). No Go function is spoken of here.
-/
import Derived.Test.YtkodgbalhnbhcaaGreatDoorZ1
import Derived.Test.YtkodgbalhnbhcaaGreatDoorRows
import Derived.Test.YtkodgbalhnbhcaaGreatDoorZ9
import Derived.Deep.RegionWith
import Derived.Test.YtkodgbalhnbhcaaGreatDoorZ4
import Derived.BigQuiet
import Derived.Deep.QuietTactic
import Derived.WalkLawsBesides
namespace Go.Proofs.YtkodgbalhnbhcaaGreatDoor
namespace Points
open Go.RowKit Base
set_option linter.unusedVariables false

structure D where
  pos : Int
  name : ByteArray
def zero : D := ⟨0, ByteArray.empty⟩
def At (w : World) (b o : Nat) (x : D) : Prop :=
  w.cell? ⟨b, o, none⟩ = some (.int .u32 x.pos) ∧ w.cell? ⟨b, o + 1, none⟩ = some (.string x.name)
theorem At.below {w w' : World} {b o : Nat} {x : D} {B : Nat} (h : At w b o x) (hb : Below B w w') (hB : b < B) : At w' b o x := by
  obtain ⟨h0, h1⟩ := h
  refine ⟨?_, ?_⟩
  · rw [hb.cell (p := ⟨b, o, none⟩) hB]; exact h0
  · rw [hb.cell (p := ⟨b, o + 1, none⟩) hB]; exact h1
def LAt (w : World) (a : Option Addr) (l : List D) : Prop :=
  l ≠ [] → ∃ b off, a = some ⟨b, off, none⟩ ∧ b < w.heap.size ∧ ∀ i, i < l.length → At w b (off + i * 2) (l.getD i zero)
theorem LAt.below {w w' : World} {a : Option Addr} {l : List D} {B : Nat} (h : LAt w a l) (hb : Below B w w') (hB : w.heap.size ≤ B) : LAt w' a l := by
  intro hne
  obtain ⟨b, off, ha, hlt, hc⟩ := h hne
  exact ⟨b, off, ha, Nat.lt_of_lt_of_le hlt hb.size, fun i hi => (hc i hi).below hb (Nat.lt_of_lt_of_le hlt hB)⟩
def icell (l : List D) (j : Nat) : Value := if j % 2 = 0 then .int .u32 (l.getD (j / 2) zero).pos else .string (l.getD (j / 2) zero).name
def half (l : List D) (k j : Nat) : Value := if j < k * 2 then icell l j else icell [] j
theorem half_step (l : List D) (k : Nat) (j : Nat) : (if j = k * 2 + 1 then (.string (l.getD k zero).name : Value) else if j = k * 2 then (.int .u32 (l.getD k zero).pos : Value) else half l k j) = half l (k + 1) j := by
  unfold half
  by_cases h1 : j = k * 2 + 1
  · subst h1
    rw [if_pos rfl, if_pos (by omega), icell, show (k * 2 + 1) % 2 = 1 by omega, show (k * 2 + 1) / 2 = k by omega]
    simp
  rw [if_neg h1]
  by_cases h0 : j = k * 2
  · subst h0
    rw [if_pos rfl, if_pos (by omega), icell, show (k * 2) % 2 = 0 by omega, show (k * 2) / 2 = k by omega]
    simp
  rw [if_neg h0]
  by_cases h : j < k * 2
  · rw [if_pos h, if_pos (by omega)]
  · rw [if_neg h, if_neg (by omega)]
theorem at_row {w : World} {b : Nat} {t : TypeId} {l : List D} (h : w.rowIs b t (l.length * 2) (icell l)) (i : Nat) (hi : i < l.length) : At w b (0 + i * 2) (l.getD i zero) := by
  rw [Nat.zero_add]
  refine ⟨?_, ?_⟩
  · rw [h.cell (by omega), icell, show (i * 2) % 2 = 0 by omega, show (i * 2) / 2 = i by omega]; simp
  · rw [h.cell (by omega), icell, show (i * 2 + 1) % 2 = 1 by omega, show (i * 2 + 1) / 2 = i by omega]; simp
theorem LAt.row {w : World} {b : Nat} {t : TypeId} {l : List D} (h : w.rowIs b t (l.length * 2) (icell l)) : LAt w (some ⟨b, 0, none⟩) l := fun _ => ⟨b, 0, rfl, h.lt, at_row h⟩
theorem made_zero (i : Nat) : (#[.int .u32 0, .string ByteArray.empty] : Array Value)[i % 2]! = icell [] i := by
  have h : i % 2 < 2 := Nat.mod_lt _ (by omega)
  unfold icell
  generalize i % 2 = m at h
  obtain rfl | rfl : m = 0 ∨ m = 1 := by omega
  all_goals simp [zero]
def szI (x : D) (left : Int) : Int := if left - x.name.size < 0 then -1 else left - x.name.size
def szGo : List D → Int → Int
  | [], l => l
  | x :: r, l => if szI x l < 0 then -1 else szGo r (szI x l)
def szL (l : List D) (left : Int) : Int := if left - l.length < 0 then -1 else szGo l (left - l.length)
theorem szI_bd (x : D) (l : Int) (h : 0 ≤ l) : -1 ≤ szI x l ∧ szI x l ≤ l := by
  unfold szI
  repeat' split
  all_goals omega
theorem szGo_drop (its : List D) (k : Nat) (h : k < its.length) (l : Int) : szGo (its.drop k) l = if szI (its.getD k zero) l < 0 then -1 else szGo (its.drop (k + 1)) (szI (its.getD k zero) l) := by
  rw [List.drop_eq_getElem_cons h, szGo]
  simp [h]
theorem szGo_bd (its : List D) (l : Int) (h : 0 ≤ l) : -1 ≤ szGo its l ∧ szGo its l ≤ l := by
  induction its generalizing l with
  | nil => simp [szGo]; omega
  | cons x r ih =>
    have := szI_bd x l h
    rw [szGo]
    split
    · omega
    · have := ih (szI x l) (by omega); omega
theorem szL_bd (l : List D) (left : Int) (h0 : 0 ≤ left) : -1 ≤ szL l left ∧ szL l left ≤ left := by
  unfold szL
  split
  · omega
  · have := szGo_bd l (left - l.length) (by omega); omega
theorem szL_len {l : List D} {left : Int} (h : ¬ szL l left < 0) : (l.length : Int) ≤ left := by
  unfold szL at h
  split at h <;> omega
def Fits (x : D) : Prop := x.name.size ≤ maxLen
theorem fits_getD {l : List D} (h : ∀ x ∈ l, Fits x) (k : Nat) (hk : k < l.length) : Fits (l.getD k zero) := by
  rw [List.getD_eq_getElem?_getD, List.getElem?_eq_getElem hk]
  exact h _ (List.getElem_mem _)
end Points
end Go.Proofs.YtkodgbalhnbhcaaGreatDoor
/-
  Plain mathematics of a ring of points: their order, sorted lists, runs that are merged, who owns a place. No Go function is spoken of here.
-/
namespace Go.Proofs.YtkodgbalhnbhcaaGreatDoor
namespace Ring
open Points (D)
set_option linter.unusedVariables false

theorem bytesLess_lt : ∀ (x y : List UInt8), Op.bytesLess x y = decide (x < y)
  | [], [] => by simp [Op.bytesLess]
  | _ :: _, [] => by simp [Op.bytesLess]
  | [], _ :: _ => by simp [Op.bytesLess]
  | a :: x, b :: y => by
    rw [Op.bytesLess, bytesLess_lt x y]
    simp only [List.cons_lt_cons_iff]
    by_cases h1 : a < b <;> by_cases h2 : a = b <;> by_cases h3 : x < y <;> simp [h1, h2, h3]

/-- The order of the points. -/
def less (a b : D) : Bool := decide (a.pos < b.pos) || (decide (a.pos = b.pos) && Op.bytesLess a.name.data.toList b.name.data.toList)
def le (a b : D) : Bool := !less b a
theorem less_iff (a b : D) : less a b = true ↔ a.pos < b.pos ∨ (a.pos = b.pos ∧ a.name.data.toList < b.name.data.toList) := by
  simp [less, bytesLess_lt]
theorem less_no (a b : D) : less a b = false ↔ ¬ (a.pos < b.pos ∨ (a.pos = b.pos ∧ a.name.data.toList < b.name.data.toList)) := by
  rw [← less_iff]; simp
theorem less_irrefl (a : D) : less a a = false := by
  rw [less_no]
  rintro (h | ⟨_, h⟩)
  · omega
  · exact List.lt_irrefl _ h
theorem less_trans {a b c : D} (h1 : less a b = true) (h2 : less b c = true) : less a c = true := by
  rw [less_iff] at *
  rcases h1 with h1 | ⟨h1, h1'⟩ <;> rcases h2 with h2 | ⟨h2, h2'⟩
  · left; omega
  · left; omega
  · left; omega
  · right; exact ⟨by omega, List.lt_trans h1' h2'⟩
theorem D_ext {a b : D} (h1 : a.pos = b.pos) (h2 : a.name = b.name) : a = b := by cases a; cases b; simp_all
theorem less_tri {a b : D} (h1 : less a b = false) (h2 : less b a = false) : a = b := by
  rw [less_no] at h1 h2
  have hp : a.pos = b.pos := by omega
  refine D_ext hp (Go.WideShapes.bytes_inj ?_)
  have n1 : ¬ a.name.data.toList < b.name.data.toList := fun h => h1 (.inr ⟨hp, h⟩)
  have n2 : ¬ b.name.data.toList < a.name.data.toList := fun h => h2 (.inr ⟨hp.symm, h⟩)
  exact List.le_antisymm (List.not_lt.1 n2) (List.not_lt.1 n1)
theorem less_asymm {a b : D} (h : less a b = true) : less b a = false := by
  cases e : less b a with
  | false => rfl
  | true => exact absurd (less_trans h e) (by rw [less_irrefl]; simp)
theorem le_trans {a b c : D} (h1 : le a b = true) (h2 : le b c = true) : le a c = true := by
  simp only [le, Bool.not_eq_true'] at *
  cases e : less c a with
  | false => rfl
  | true =>
    cases e2 : less a b with
    | true => rw [less_trans e e2] at h2; simp at h2
    | false => rw [less_tri e2 h1] at e; rw [e] at h2; simp at h2
theorem le_total (a b : D) : (le a b || le b a) = true := by
  simp only [le]
  cases e : less b a with
  | false => simp
  | true => simp [less_asymm e]
theorem le_of_less {a b : D} (h : less a b = true) : le a b = true := by simp [le, less_asymm h]
theorem le_antisymm {a b : D} (h1 : le a b = true) (h2 : le b a = true) : a = b := by
  simp only [le, Bool.not_eq_true'] at *
  exact less_tri h2 h1

def Sorted (l : List D) : Prop := l.Pairwise (fun a b => le a b = true)
theorem sorted_unique {l1 l2 : List D} (hp : l1.Perm l2) (h1 : Sorted l1) (h2 : Sorted l2) : l1 = l2 := by
  induction l1 generalizing l2 with
  | nil => exact (List.nil_perm.1 hp).symm
  | cons a r ih =>
    cases l2 with
    | nil => exact absurd hp (by simp)
    | cons b s =>
      have hab : a = b := by
        have ha : a ∈ b :: s := hp.subset (by simp)
        have hb : b ∈ a :: r := hp.symm.subset (by simp)
        rcases List.mem_cons.1 ha with h | h
        · exact h
        rcases List.mem_cons.1 hb with h' | h'
        · exact h'.symm
        exact le_antisymm ((List.pairwise_cons.1 h1).1 b h') ((List.pairwise_cons.1 h2).1 a h)
      subst hab
      rw [ih (List.perm_cons _ |>.1 hp) (List.pairwise_cons.1 h1).2 (List.pairwise_cons.1 h2).2]

/-- The ring of a list of points: its one sorted order. -/
def ring (l : List D) : List D := l.mergeSort le
theorem ring_sorted (l : List D) : Sorted (ring l) := List.pairwise_mergeSort (le := le) (fun _ _ _ h1 h2 => le_trans h1 h2) le_total l
theorem ring_perm (l : List D) : (ring l).Perm l := List.mergeSort_perm l le
theorem ring_eq {l r : List D} (hp : r.Perm l) (hs : Sorted r) : r = ring l := sorted_unique (hp.trans (ring_perm l).symm) hs (ring_sorted l)
theorem ring_length (l : List D) : (ring l).length = l.length := (ring_perm l).length_eq

/-- One point sinks into a sorted row: what stands there when it stops. -/
theorem sink_sorted {A1 A2 : List D} {x : D} (hs : Sorted (A1 ++ A2)) (h2 : ∀ y ∈ A2, less x y = true) (h1 : ∀ y, A1.getLast? = some y → less x y = false) : Sorted (A1 ++ x :: A2) := by
  unfold Sorted at *
  rw [List.pairwise_append] at *
  obtain ⟨p1, p2, p3⟩ := hs
  refine ⟨p1, List.pairwise_cons.2 ⟨fun y hy => le_of_less (h2 y hy), p2⟩, ?_⟩
  intro a ha b hb
  rcases List.mem_cons.1 hb with rfl | hb
  · rcases List.eq_nil_or_concat A1 with rfl | ⟨I, z, rfl⟩
    · simp at ha
    · have hz : le z b = true := by have := h1 z (by simp); simpa [le] using this
      rw [List.concat_eq_append] at ha p1
      rcases List.mem_append.1 ha with h | h
      · exact le_trans ((List.pairwise_append.1 p1).2.2 a h z (by simp)) hz
      · rw [List.mem_singleton.1 h]; exact hz
  · exact p3 a ha b hb
theorem sink_perm (A1 A2 : List D) (x : D) : (A1 ++ x :: A2).Perm (A1 ++ A2 ++ [x]) := by
  rw [List.append_assoc]
  exact List.Perm.append_left A1 (List.perm_append_singleton x A2).symm

/-- Rows of length r, one behind the other, each sorted. -/
def Runs (r : Nat) (l : List D) : Prop := ∀ k, Sorted ((l.drop (k * r)).take r)
theorem runs_one (l : List D) : Runs 1 l := by
  intro k
  unfold Sorted
  cases h : l.drop (k * 1) with
  | nil => simp
  | cons a t => simp
theorem runs_all {r : Nat} {l : List D} (h : Runs r l) (hr : l.length ≤ r) : Sorted l := by
  have := h 0
  rwa [Nat.zero_mul, List.drop_zero, List.take_of_length_le hr] at this
/-- A merge of two runs of half the length put behind whole runs. -/
theorem runs_snoc {r : Nat} {l c : List D} {m : Nat} (hl : l.length = m * r) (h : Runs r l) (hc : Sorted c) (hcr : c.length ≤ r) : Runs r (l ++ c) := by
  intro k
  by_cases hk : k < m
  · have h1 : k * r + r ≤ m * r := by rw [← Nat.succ_mul]; exact Nat.mul_le_mul_right r hk
    have e : ((l ++ c).drop (k * r)).take r = (l.drop (k * r)).take r := by
      rw [List.drop_append_of_le_length (by omega), List.take_append_of_le_length (by simp; omega)]
    rw [e]; exact h k
  · have h1 : m * r ≤ k * r := Nat.mul_le_mul_right r (by omega)
    rw [List.drop_append]
    rw [List.drop_eq_nil_of_le (by omega), List.nil_append]
    unfold Sorted at *
    exact (hc.drop).take
theorem merge_sorted {a b : List D} (ha : Sorted a) (hb : Sorted b) : Sorted (List.merge a b le) := List.pairwise_merge (le := le) (fun _ _ _ h1 h2 => le_trans h1 h2) le_total a b ha hb
theorem merge_perm (a b : List D) : (List.merge a b le).Perm (a ++ b) := List.merge_perm_append le
theorem merge_length (a b : List D) : (List.merge a b le).length = a.length + b.length := by rw [(merge_perm a b).length_eq]; simp

/-- The first point of a ring that is not below h, or the first of all. -/
def ownerN (l : List D) (h : Int) : ByteArray := match l.find? (fun p => decide (h ≤ p.pos)) with
  | some p => p.name
  | none => (l.getD 0 Points.zero).name
theorem find_at {l : List D} {h : Int} {i : Nat} (hi : i < l.length) (hlo : ∀ j, j < i → (l.getD j Points.zero).pos < h) (hhi : h ≤ (l.getD i Points.zero).pos) : ownerN l h = (l.getD i Points.zero).name := by
  have e : l.find? (fun p => decide (h ≤ p.pos)) = some (l.getD i Points.zero) := by
    rw [List.getD_eq_getElem?_getD, List.getElem?_eq_getElem hi] at *
    rw [List.find?_eq_some_iff_getElem]
    refine ⟨by simpa using hhi, i, hi, rfl, fun j hj => ?_⟩
    have := hlo j hj
    rw [List.getD_eq_getElem?_getD, List.getElem?_eq_getElem (by omega)] at this
    simpa using this
  unfold ownerN
  rw [e]
theorem find_none {l : List D} {h : Int} (hlo : ∀ j, j < l.length → (l.getD j Points.zero).pos < h) : ownerN l h = (l.getD 0 Points.zero).name := by
  have e : l.find? (fun p => decide (h ≤ p.pos)) = none := by
    rw [List.find?_eq_none]
    intro p hp
    obtain ⟨j, hj, rfl⟩ := List.mem_iff_getElem.1 hp
    have := hlo j hj
    rw [List.getD_eq_getElem?_getD, List.getElem?_eq_getElem hj] at this
    simpa using this
  unfold ownerN
  rw [e]
/-- The least of a list by one pass, and the least of those that are not below h. -/
def IsLeast (l : List D) (p : D) : Prop := p ∈ l ∧ ∀ q ∈ l, le p q = true
theorem least_unique {l : List D} {p q : D} (hp : IsLeast l p) (hq : IsLeast l q) : p = q := le_antisymm (hp.2 q hq.1) (hq.2 p hp.1)
theorem least_perm {l r : List D} {p : D} (h : l.Perm r) (hp : IsLeast l p) : IsLeast r p := ⟨h.subset hp.1, fun q hq => hp.2 q (h.symm.subset hq)⟩
theorem least_head {l : List D} {p : D} (hs : Sorted l) (hp : IsLeast l p) : l.getD 0 Points.zero = p := by
  cases l with
  | nil => exact absurd hp.1 (by simp)
  | cons a r =>
    have : IsLeast (a :: r) a := ⟨by simp, fun q hq => by
      rcases List.mem_cons.1 hq with rfl | hq
      · simp [le, less_irrefl]
      · exact (List.pairwise_cons.1 hs).1 q hq⟩
    simpa using least_unique this hp
theorem sorted_pos {a b : D} (h : le a b = true) : a.pos ≤ b.pos := by
  simp only [le, Bool.not_eq_true', less_no] at h
  omega
theorem owner_least {l : List D} {h : Int} {p : D} (hs : Sorted l) (hp : IsLeast (l.filter (fun p => decide (h ≤ p.pos))) p) : ownerN l h = p.name := by
  have hf : l.find? (fun p => decide (h ≤ p.pos)) = some ((l.filter (fun p => decide (h ≤ p.pos))).getD 0 Points.zero) := by
    rw [← List.head?_filter]
    cases e : l.filter (fun p => decide (h ≤ p.pos)) with
    | nil => rw [e] at hp; exact absurd hp.1 (by simp)
    | cons a r => simp
  have hh := least_head (l := l.filter (fun p => decide (h ≤ p.pos))) (hs.filter _) hp
  unfold ownerN
  rw [hf, hh]
theorem owner_first {l : List D} {h : Int} {p : D} (hs : Sorted l) (hn : l.filter (fun p => decide (h ≤ p.pos)) = []) (hp : IsLeast l p) : ownerN l h = p.name := by
  have hf : l.find? (fun p => decide (h ≤ p.pos)) = none := by
    rw [← List.head?_filter, hn]; rfl
  unfold ownerN
  rw [hf, least_head hs hp]
/-- One more point: the least so far. -/
theorem least_one (x : D) : IsLeast [x] x := ⟨by simp, fun q hq => by rw [List.mem_singleton.1 hq]; simp [le, less_irrefl]⟩
theorem least_snoc_new {l : List D} {p x : D} (hp : IsLeast l p) (h : less x p = true) : IsLeast (l ++ [x]) x := ⟨by simp, fun q hq => by
  rcases List.mem_append.1 hq with hq | hq
  · exact le_trans (le_of_less h) (hp.2 q hq)
  · rw [List.mem_singleton.1 hq]; simp [le, less_irrefl]⟩
theorem least_snoc_old {l : List D} {p x : D} (hp : IsLeast l p) (h : less x p = false) : IsLeast (l ++ [x]) p := ⟨by simp [hp.1], fun q hq => by
  rcases List.mem_append.1 hq with hq | hq
  · exact hp.2 q hq
  · rw [List.mem_singleton.1 hq]; simp [le, h]⟩
end Ring
end Go.Proofs.YtkodgbalhnbhcaaGreatDoor
/-
  The contract of the model's l3Hash: a plain function of the bytes, for every string.
-/
namespace Go.Proofs.YtkodgbalhnbhcaaGreatDoor
namespace Hash
open Go.RowKit Base
set_option linter.unusedVariables false

def mixB (h : Int) (c : UInt8) : Int := bits BinOp.xor IntKind.u32 h ((c.toNat : Int) % 4294967296) * 16777619 % 4294967296
def mixE (h : Int) : Int := bits BinOp.xor IntKind.u32 h (h / 32768) * 2654435761 % 4294967296
def mixN : Nat → Int → Int
  | 0, h => h
  | n + 1, h => mixE (mixN n h)
def fold (l : List UInt8) : Int := l.foldl mixB 2166136261
def hashN (l : List UInt8) : Int := mixN 3 (fold l)
theorem take_snoc (s : ByteArray) (k : Nat) (h : k < s.size) : s.data.toList.take (k + 1) = s.data.toList.take k ++ [s[k]] := by
  rw [List.take_succ_eq_append_getElem (by simpa using h)]; rfl
theorem fold_step (s : ByteArray) (k : Nat) (h : k < s.size) : fold (s.data.toList.take (k + 1)) = mixB (fold (s.data.toList.take k)) s[k] := by
  rw [take_snoc s k h]; simp [fold]
theorem mixB_bd (h : Int) (c : UInt8) : 0 ≤ mixB h c ∧ mixB h c < 4294967296 := by unfold mixB; omega
theorem mixE_bd (h : Int) : 0 ≤ mixE h ∧ mixE h < 4294967296 := by unfold mixE; omega

set_option maxHeartbeats 400000 in
theorem l3Hash_any (s : ByteArray) (w : World) (hs : s.size ≤ maxLen) :
    Calls Tryz.prog 97 #[.string s] w fun e w' => e = .returned (.int .u32 (hashN s.data.toList)) ∧ w' = w := by
  unfold maxLen at hs
  go_enter Tryz.func97, Tryz.ntmps97
  go_wp2
  go_loop [3, 4] (fun h i => ∃ (k : Nat) (z : Int), k ≤ s.size ∧ 0 ≤ z ∧ z < 4294967296 ∧ i = .int .i64 k ∧ h = .int .u32 z ∧ Hid (z = fold (s.data.toList.take k))) (fun _ i => s.size - (intOf i).toNat)
  case atStart => exact ⟨0, 2166136261, Nat.zero_le _, by omega, by omega, rfl, rfl, hide rfl⟩
  case round =>
    obtain ⟨k, z, hk, hz0, hz1, rfl, rfl, hf⟩ := hrel
    by_cases hlt : k < s.size
    · have HF : Hid (mixB z s[k] = fold (s.data.toList.take (k + 1))) := by show mixB z s[k] = _; rw [fold_step s k hlt, unhide hf]
      have hbd := hide (mixB_bd z s[k])
      go_wp2
      go_round
      case rel => exact ⟨k + 1, mixB z s[k], by omega, (unhide hbd).1, (unhide hbd).2, by go_num, rfl, HF⟩
      case measure => simp [intOf]; omega
    · have HZ : Hid (z = fold s.data.toList) := by show z = fold s.data.toList; rw [unhide hf, List.take_of_length_le (by simp; omega)]
      go_wp2
      go_loop [3, 5] (fun h i => ∃ (k : Nat) (y : Int), k ≤ 3 ∧ 0 ≤ y ∧ y < 4294967296 ∧ i = .int .i64 k ∧ h = .int .u32 y ∧ Hid (y = mixN k z)) (fun _ i => 3 - (intOf i).toNat)
      case atStart => exact ⟨0, z, Nat.zero_le _, hz0, hz1, rfl, rfl, hide rfl⟩
      case round =>
        obtain ⟨j, y, hj, hy0, hy1, rfl, rfl, hm⟩ := hrel
        by_cases hlt2 : j < 3
        · have HM : Hid (mixE y = mixN (j + 1) z) := by show mixE y = mixE (mixN j z); rw [unhide hm]
          have hbd := hide (mixE_bd y)
          go_wp2
          go_round
          case rel => exact ⟨j + 1, mixE y, by omega, (unhide hbd).1, (unhide hbd).2, by go_num, rfl, HM⟩
          case measure => simp [intOf]; omega
        · obtain rfl : j = 3 := by omega
          have HR : Hid (y = hashN s.data.toList) := by show y = mixN 3 (fold s.data.toList); rw [unhide hm, unhide HZ]
          go_wp2
          go_ret
          exact ⟨ret_int (unhide HR), rfl⟩

end Hash
end Go.Proofs.YtkodgbalhnbhcaaGreatDoor
/-
  Contracts of the model's l3Name and GoodNodes: plain functions of names and weights, for every slice of nodes that lies in memory.
-/
namespace Go.Proofs.YtkodgbalhnbhcaaGreatDoor
namespace NodesM
open Go.RowKit Base GoodKey Nodes
set_option linter.unusedVariables false

def okc (c : UInt8) : Bool := (decide (97 ≤ c.toNat) && decide (c.toNat ≤ 122)) || (decide (48 ≤ c.toNat) && decide (c.toNat ≤ 57))
def nameB (l : List UInt8) : Bool := inB l.length 1 8 && l.all okc
theorem okc_yes {c : UInt8} (h : (97 ≤ (c.toNat : Int) ∧ (c.toNat : Int) ≤ 122) ∨ (48 ≤ (c.toNat : Int) ∧ (c.toNat : Int) ≤ 57)) : okc c = true := by
  simp only [okc, Bool.or_eq_true, Bool.and_eq_true, decide_eq_true_eq]; omega
theorem okc_no {c : UInt8} (h : ¬ ((97 ≤ (c.toNat : Int) ∧ (c.toNat : Int) ≤ 122) ∨ (48 ≤ (c.toNat : Int) ∧ (c.toNat : Int) ≤ 57))) : okc c = false := by
  rw [Bool.eq_false_iff]
  intro h2
  simp only [okc, Bool.or_eq_true, Bool.and_eq_true, decide_eq_true_eq] at h2; omega
theorem nall_step (s : ByteArray) (k : Nat) (h : k < s.size) (ha : (s.data.toList.take k).all okc = true) (hc : okc s[k] = true) : (s.data.toList.take (k + 1)).all okc = true := by
  rw [take_snoc s k h, List.all_append, ha]; simp [hc]
theorem nall_bad (s : ByteArray) (k : Nat) (h : k < s.size) (hc : okc s[k] = false) : nameB s.data.toList = false := by
  have hm : s[k] ∈ s.data.toList := by
    have e : s[k] = s.data.toList[k]'(by simpa using h) := rfl
    rw [e]; exact List.getElem_mem _
  have ha : s.data.toList.all okc = false := by rw [List.all_eq_false]; exact ⟨_, hm, by simp [hc]⟩
  simp [nameB, ha]
theorem nall_end (s : ByteArray) (k : Nat) (hk : k ≤ s.size) (h : ¬ k < s.size) (ha : (s.data.toList.take k).all okc = true) : inB s.size 1 8 = nameB s.data.toList := by
  have e : s.data.toList.take k = s.data.toList := List.take_of_length_le (by simp; omega)
  rw [e] at ha
  have el : s.data.toList.length = s.size := by simp
  simp [nameB, ha, el]

set_option maxHeartbeats 1000000 in
theorem name_any (s : ByteArray) (w : World) (hs : s.size ≤ maxLen) :
    Calls Tryz.prog 91 #[.string s] w fun e w' => e = .returned (.bool (nameB s.data.toList)) ∧ w' = w := by
  unfold maxLen at hs
  go_enter Tryz.func91, Tryz.ntmps91
  go_wp2
  go_loop [3] (fun i => ∃ k : Nat, k ≤ s.size ∧ i = .int .i64 k ∧ Hid ((s.data.toList.take k).all okc = true)) (fun i => s.size - (intOf i).toNat)
  case atStart => exact ⟨0, Nat.zero_le _, rfl, hide rfl⟩
  case round =>
    obtain ⟨k, hk, rfl, ha⟩ := hrel
    by_cases hlt : k < s.size
    · have hcase : (97 ≤ (s[k].toNat : Int) ∧ (s[k].toNat : Int) ≤ 122) ∨ (¬ 97 ≤ (s[k].toNat : Int) ∧ 48 ≤ (s[k].toNat : Int) ∧ (s[k].toNat : Int) ≤ 57) ∨ (97 ≤ (s[k].toNat : Int) ∧ ¬ (s[k].toNat : Int) ≤ 122) ∨
          (¬ 97 ≤ (s[k].toNat : Int) ∧ 48 ≤ (s[k].toNat : Int) ∧ ¬ (s[k].toNat : Int) ≤ 57) ∨ (¬ 97 ≤ (s[k].toNat : Int) ∧ ¬ 48 ≤ (s[k].toNat : Int)) := by omega
      rcases hcase with ⟨h1, h2⟩ | ⟨h1, h2, h3⟩ | ⟨h1, h2⟩ | ⟨h1, h2, h3⟩ | ⟨h1, h2⟩
      · have H := hide (nall_step s k hlt (unhide ha) (okc_yes (by omega)))
        go_wp2
        go_round
        case rel => exact ⟨k + 1, by omega, by go_num, H⟩
        case measure => simp [intOf]; omega
      · have H := hide (nall_step s k hlt (unhide ha) (okc_yes (by omega)))
        go_wp2
        go_round
        case rel => exact ⟨k + 1, by omega, by go_num, H⟩
        case measure => simp [intOf]; omega
      · have h3 : 48 ≤ (s[k].toNat : Int) := by omega
        have h4 : ¬ (s[k].toNat : Int) ≤ 57 := by omega
        have H := hide (nall_bad s k hlt (okc_no (by omega)))
        go_wp2
        go_ret
        exact ⟨ret_bool (unhide H).symm, rfl⟩
      · have H := hide (nall_bad s k hlt (okc_no (by omega)))
        go_wp2
        go_ret
        exact ⟨ret_bool (unhide H).symm, rfl⟩
      · have H := hide (nall_bad s k hlt (okc_no (by omega)))
        go_wp2
        go_ret
        exact ⟨ret_bool (unhide H).symm, rfl⟩
    · have H := hide (nall_end s k hk hlt (unhide ha))
      go_wp2_with (go_at_call 55; refine (l1In_any _ _ _ _).mono ?_; rintro e w' ⟨rfl, rfl⟩)
      go_ret
      exact ⟨ret_bool (unhide H), rfl⟩

def nodeB (x : D) : Bool := nameB x.name.data.toList && inB x.weight 1 5
def stepB (l : List D) (i : Nat) : Bool := nodeB (l.getD i zero) && (decide (i = 0) || Op.bytesLess (l.getD (i - 1) zero).name.toList (l.getD i zero).name.toList)
def goodTo (l : List D) (k : Nat) : Bool := (List.range k).all (stepB l)
def gnB (l : List D) : Bool := goodTo l l.length && inB l.length 1 8
theorem goodTo_step {l : List D} {k : Nat} (h : goodTo l k = true) (hs : stepB l k = true) : goodTo l (k + 1) = true := by
  unfold goodTo at *
  rw [List.range_succ, List.all_append, h]
  simp [hs]
theorem gn_bad {l : List D} {k : Nat} (hk : k < l.length) (hs : stepB l k = false) : gnB l = false := by
  have : goodTo l l.length = false := by
    unfold goodTo
    rw [List.all_eq_false]
    exact ⟨k, by simpa using hk, by simp [hs]⟩
  simp [gnB, this]
theorem gn_end {l : List D} (h : goodTo l l.length = true) : inB l.length 1 8 = gnB l := by simp [gnB, h]

set_option maxHeartbeats 2000000 in
theorem nodes_some (b off cap : Nat) (l : List D) (w : World) (hb : b < w.heap.size) (hc : ∀ i, i < l.length → At w b (off + i * 2) (l.getD i zero)) (hl : l.length ≤ maxLen) (hs : ∀ x ∈ l, Fits x) :
    Calls Tryz.prog 46 #[.slice (some ⟨b, off, none⟩) l.length cap] w fun e w' => e = .returned (.bool (gnB l)) ∧ Below w.heap.size w w' := by
  unfold maxLen at hl
  have hcs := hide hc
  have hss := hide hs
  clear hc hs
  go_enter Tryz.func46, Tryz.ntmps46
  go_wp2
  go_loopw [7] (fun i wr => ∃ k : Nat, k ≤ l.length ∧ i = .int .i64 k ∧ Hid (goodTo l k = true) ∧ Hid (Below w.heap.size w wr)) (fun i _ => l.length - (intOf i).toNat)
  case atStart => exact ⟨0, Nat.zero_le _, rfl, hide rfl, hide (Below.refl _ _)⟩
  case round =>
    obtain ⟨k, hk, rfl, hg, hbel⟩ := hrel
    by_cases hlt : k < l.length
    · obtain ⟨c0, c1⟩ := (unhide hcs k hlt).below (unhide hbel) hb
      have hfit := hide (fits_getD (unhide hss) k hlt)
      have hbad := hide (@gn_bad l k hlt)
      have hgs := hide (@goodTo_step l k (unhide hg))
      have hzb := (unhide hbel).size
      have hstep : Hid (stepB l k = (nodeB (l.getD k zero) && (decide (k = 0) || Op.bytesLess (l.getD (k - 1) zero).name.toList (l.getD k zero).name.toList))) := rfl
      have hprev : 0 < k → wr.cell? ⟨b, off + (k - 1) * 2, none⟩ = some (.string (l.getD (k - 1) zero).name) := fun h => ((unhide hcs (k - 1) (by omega)).below (unhide hbel) hb).1
      generalize l.getD k zero = x at c0 c1 hfit hstep
      generalize (l.getD (k - 1) zero).name = pn at hprev hstep
      have hname := fun w => name_any x.name w (unhide hfit)
      cases e1 : nameB x.name.data.toList
      · rw [e1] at hname
        have H := hide (unhide hbad (by rw [unhide hstep, nodeB, e1]; rfl))
        have HN := hide hname
        clear hname e1 hbad hgs hprev
        go_wp2
        go_quiet ((go_at_call 91; exact Calls.quiet_of_same (unhide HN _)))
        go_wp2
        go_ret
        exact ⟨ret_bool (unhide H).symm, bel_draws ((unhide hbel).alloc hzb _) _⟩
      rw [e1] at hname
      have HN := hide hname
      clear hname
      cases e2 : inB x.weight 1 5
      · have H := hide (unhide hbad (by rw [unhide hstep, nodeB, e1, e2]; rfl))
        clear e1 hbad hgs hprev
        go_wp2
        go_quiet ((first | (go_at_call 91; exact Calls.quiet_of_same (unhide HN _)) | (go_at_call 55; exact Calls.quiet_of_same (l1In_any _ _ _ _))))
        go_wp2
        go_ret
        exact ⟨ret_bool (unhide H).symm, bel_draws ((unhide hbel).alloc hzb _) _⟩
      have HST := hide ((unhide hstep).trans (by rw [nodeB, e1, e2]; rfl : _ = (decide (k = 0) || Op.bytesLess pn.toList x.name.toList)))
      clear hstep e1
      by_cases hk0 : k = 0
      · subst hk0
        have H := hide (unhide hgs (by rw [unhide HST]; rfl))
        rw [Nat.zero_mul, Nat.add_zero] at c0 c1
        clear hbad hgs hprev
        go_wp2
        go_quiet ((first | (go_at_call 91; exact Calls.quiet_of_same (unhide HN _)) | (go_at_call 55; exact Calls.quiet_of_same (l1In_any _ _ _ _))))
        go_wp2
        go_roundw
        case rel => exact ⟨1, by omega, by go_num, H, hide (bel_draws ((unhide hbel).alloc hzb _) _)⟩
        case measure => simp [intOf]; omega
      · obtain ⟨j, rfl⟩ : ∃ j, k = j + 1 := ⟨k - 1, by omega⟩
        have p0 := hprev (by omega)
        rw [Nat.add_sub_cancel] at p0
        have hkp : decide (0 < ((j + 1 : Nat) : Int)) = true := by simp
        have hwj : IntKind.i64.wrap (j : Int) = (j : Int) := by rw [IntKind.wrap_i64]; omega
        have hjl : (j : Int) < (l.length : Int) := by omega
        have hbw : b < wr.heap.size := Nat.lt_of_lt_of_le hb hzb
        have hj0 : (0 : Int) ≤ (j : Int) := by omega
        clear hprev hk0
        cases e3 : Op.bytesLess pn.toList x.name.toList
        · have H := hide (unhide hbad (by rw [unhide HST, e3]; simp))
          clear hbad hgs
          go_wp2
          go_quiet ((first | (go_at_call 91; exact Calls.quiet_of_same (unhide HN _)) | (go_at_call 55; exact Calls.quiet_of_same (l1In_any _ _ _ _))))
          go_wp2
          go_ret
          exact ⟨ret_bool (unhide H).symm, bel_draws ((unhide hbel).alloc hzb _) _⟩
        · have H := hide (unhide hgs (by rw [unhide HST, e3]; simp))
          clear hbad hgs
          go_wp2
          go_quiet ((first | (go_at_call 91; exact Calls.quiet_of_same (unhide HN _)) | (go_at_call 55; exact Calls.quiet_of_same (l1In_any _ _ _ _))))
          go_wp2
          go_roundw
          case rel => exact ⟨j + 1 + 1, by omega, by go_num, H, hide (bel_draws ((unhide hbel).alloc hzb _) _)⟩
          case measure => simp [intOf]; omega
    · obtain rfl : k = l.length := by omega
      have H := hide (gn_end (unhide hg))
      go_wp2_with (go_at_call 55; refine (l1In_any _ _ _ _).mono ?_; rintro e w' ⟨rfl, rfl⟩)
      go_ret
      exact ⟨ret_bool (unhide H), unhide hbel⟩
end NodesM
end Go.Proofs.YtkodgbalhnbhcaaGreatDoor
