/-
  Plain data of the struct Node, and how a slice of them lies in memory (written by a program of mine). No Go function is spoken of here.
-/
import Derived.Test.YthgcfklfpllgnaaDoorZ1
import Derived.Lib.ItoaNum
import Derived.Lib.ItoaLen
namespace Go.Proofs.YthgcfklfpllgnaaDoor
namespace Nodes
open Go.RowKit Base
set_option linter.unusedVariables false

structure D where
  name : ByteArray
  weight : Int
def zero : D := ⟨ByteArray.empty, 0⟩
def At (w : World) (b o : Nat) (x : D) : Prop :=
  w.cell? ⟨b, o, none⟩ = some (.string x.name) ∧ w.cell? ⟨b, o + 1, none⟩ = some (.int .i64 x.weight)
theorem At.below {w w' : World} {b o : Nat} {x : D} {B : Nat} (h : At w b o x) (hb : Below B w w') (hB : b < B) : At w' b o x := by
  obtain ⟨h0, h1⟩ := h
  refine ⟨?_, ?_⟩
  · rw [hb.cell (p := ⟨b, o, none⟩) hB]; exact h0
  · rw [hb.cell (p := ⟨b, o + 1, none⟩) hB]; exact h1
def LAt (w : World) (a : Option Addr) (l : List D) : Prop :=
  l ≠ [] → ∃ b off, a = some ⟨b, off, none⟩ ∧ b < w.heap.size ∧ ∀ i, i < l.length → At w b (off + i * 2) (l.getD i zero)
theorem LAt.below {w w' : World} {a : Option Addr} {l : List D} {B : Nat} (h : LAt w a l) (hb : Below B w w') (hB : w.heap.size ≤ B) : LAt w' a l := by
  intro hne
  obtain ⟨b, off, ha, hlt, hc⟩ := h hne
  exact ⟨b, off, ha, Nat.lt_of_lt_of_le hlt hb.size, fun i hi => (hc i hi).below hb (Nat.lt_of_lt_of_le hlt hB)⟩
def icell (l : List D) (j : Nat) : Value := if j % 2 = 0 then .string (l.getD (j / 2) zero).name else .int .i64 (l.getD (j / 2) zero).weight
def half (l : List D) (k j : Nat) : Value := if j < k * 2 then icell l j else icell [] j
theorem half_step (l : List D) (k : Nat) (j : Nat) : (if j = k * 2 + 1 then (.int .i64 (l.getD k zero).weight : Value) else if j = k * 2 then (.string (l.getD k zero).name : Value) else half l k j) = half l (k + 1) j := by
  unfold half
  by_cases h1 : j = k * 2 + 1
  · subst h1
    rw [if_pos rfl, if_pos (by omega), icell, show (k * 2 + 1) % 2 = 1 by omega, show (k * 2 + 1) / 2 = k by omega]
    simp
  rw [if_neg h1]
  by_cases h0 : j = k * 2
  · subst h0
    rw [if_pos rfl, if_pos (by omega), icell, show (k * 2) % 2 = 0 by omega, show (k * 2) / 2 = k by omega]
    simp
  rw [if_neg h0]
  by_cases h : j < k * 2
  · rw [if_pos h, if_pos (by omega)]
  · rw [if_neg h, if_neg (by omega)]
theorem at_row {w : World} {b : Nat} {t : TypeId} {l : List D} (h : w.rowIs b t (l.length * 2) (icell l)) (i : Nat) (hi : i < l.length) : At w b (0 + i * 2) (l.getD i zero) := by
  rw [Nat.zero_add]
  refine ⟨?_, ?_⟩
  · rw [h.cell (by omega), icell, show (i * 2) % 2 = 0 by omega, show (i * 2) / 2 = i by omega]; simp
  · rw [h.cell (by omega), icell, show (i * 2 + 1) % 2 = 1 by omega, show (i * 2 + 1) / 2 = i by omega]; simp
theorem LAt.row {w : World} {b : Nat} {t : TypeId} {l : List D} (h : w.rowIs b t (l.length * 2) (icell l)) : LAt w (some ⟨b, 0, none⟩) l := fun _ => ⟨b, 0, rfl, h.lt, at_row h⟩
theorem made_zero (i : Nat) : (#[.string ByteArray.empty, .int .i64 0] : Array Value)[i % 2]! = icell [] i := by
  have h : i % 2 < 2 := Nat.mod_lt _ (by omega)
  unfold icell
  generalize i % 2 = m at h
  obtain rfl | rfl : m = 0 ∨ m = 1 := by omega
  all_goals simp [zero]
def szI (x : D) (left : Int) : Int := if left - x.name.size < 0 then -1 else left - x.name.size
def szGo : List D → Int → Int
  | [], l => l
  | x :: r, l => if szI x l < 0 then -1 else szGo r (szI x l)
def szL (l : List D) (left : Int) : Int := if left - l.length < 0 then -1 else szGo l (left - l.length)
theorem szI_bd (x : D) (l : Int) (h : 0 ≤ l) : -1 ≤ szI x l ∧ szI x l ≤ l := by
  unfold szI
  repeat' split
  all_goals omega
theorem szGo_drop (its : List D) (k : Nat) (h : k < its.length) (l : Int) : szGo (its.drop k) l = if szI (its.getD k zero) l < 0 then -1 else szGo (its.drop (k + 1)) (szI (its.getD k zero) l) := by
  rw [List.drop_eq_getElem_cons h, szGo]
  simp [h]
theorem szGo_bd (its : List D) (l : Int) (h : 0 ≤ l) : -1 ≤ szGo its l ∧ szGo its l ≤ l := by
  induction its generalizing l with
  | nil => simp [szGo]; omega
  | cons x r ih =>
    have := szI_bd x l h
    rw [szGo]
    split
    · omega
    · have := ih (szI x l) (by omega); omega
theorem szL_bd (l : List D) (left : Int) (h0 : 0 ≤ left) : -1 ≤ szL l left ∧ szL l left ≤ left := by
  unfold szL
  split
  · omega
  · have := szGo_bd l (left - l.length) (by omega); omega
theorem szL_len {l : List D} {left : Int} (h : ¬ szL l left < 0) : (l.length : Int) ≤ left := by
  unfold szL at h
  split at h <;> omega
def Fits (x : D) : Prop := x.name.size ≤ maxLen
theorem fits_getD {l : List D} (h : ∀ x ∈ l, Fits x) (k : Nat) (hk : k < l.length) : Fits (l.getD k zero) := by
  rw [List.getD_eq_getElem?_getD, List.getElem?_eq_getElem hk]
  exact h _ (List.getElem_mem _)
end Nodes
end Go.Proofs.YthgcfklfpllgnaaDoor
/-
  The decimal digits of a number, as plain data. No Go function is spoken of here.
-/
namespace Go.Proofs.YthgcfklfpllgnaaDoor
namespace NumText
open Go.RowKit Base
set_option linter.unusedVariables false

def txt (n : Nat) : ByteArray := ⟨(Lib.decDigits n).toArray⟩

theorem txt_0 : (txt 0).size = 1 := by
  unfold txt
  rw [Lib.decDigits, dif_pos (by omega)]
  rfl
theorem txt_small (n : Int) (h0 : 0 ≤ n) (h : n < 10) : (⟨#[UInt8.ofNat (48 + n).toNat]⟩ : ByteArray) = txt n.toNat := by
  unfold txt
  rw [Lib.decDigits, dif_pos (by omega), show (48 + n).toNat = 48 + n.toNat by omega]

theorem quo10 (n : Int) (h0 : 10 ≤ n) (h : n < 9223372036854775808) : IntKind.i64.wrap (n.tdiv 10) = n / 10 := by
  rw [IntKind.wrap_i64, Int.tdiv_eq_ediv_of_nonneg (by omega)]
  omega
theorem rem10 (n : Int) (h0 : 10 ≤ n) (h : n < 9223372036854775808) : IntKind.u8.wrap (IntKind.i64.wrap (48 + n.tmod 10)) = 48 + n % 10 := by
  rw [Int.tmod_eq_emod_of_nonneg (by omega), IntKind.wrap_i64, IntKind.wrap_u8]
  omega
theorem txt_step (n : Int) (h0 : 10 ≤ n) : txt (n / 10).toNat ++ (⟨#[UInt8.ofNat (48 + n % 10).toNat]⟩ : ByteArray) = txt n.toNat := by
  unfold txt
  have e : Lib.decDigits n.toNat = Lib.decDigits (n.toNat / 10) ++ [UInt8.ofNat (48 + n.toNat % 10)] := by
    rw [Lib.decDigits, dif_neg (by omega)]
  rw [e, show (n / 10).toNat = n.toNat / 10 by omega, show (48 + n % 10).toNat = 48 + n.toNat % 10 by omega]
  apply Go.WideShapes.bytes_inj
  simp

end NumText
end Go.Proofs.YthgcfklfpllgnaaDoor
/-
  Rows that are written in place, and the marks that the law files write. No Go function is spoken of here.
-/
namespace Go.Proofs.YthgcfklfpllgnaaDoor
namespace Marks
open Go.RowKit Base NumText

/-- A block whose first n cells are told, none of it frozen; it may have more. -/
def RowAt (w : World) (b : Nat) (t : TypeId) (n : Nat) (f : Nat → Value) : Prop :=
  ∃ c : Array Value, w.heap[b]? = some (.cells c t (0, 0)) ∧ n ≤ c.size ∧ ∀ i, i < n → c[i]? = some (f i)
namespace RowAt
variable {w : World} {b : Nat} {t : TypeId} {n : Nat} {f g : Nat → Value}
theorem cell (h : RowAt w b t n f) {i : Nat} (hi : i < n) : w.cell? ⟨b, i, none⟩ = some (f i) := by
  obtain ⟨c, hb, _, hc⟩ := h
  simp [World.cell?, hb, hc i hi]
theorem frozen (h : RowAt w b t n f) (i : Nat) : w.frozen? ⟨b, i, none⟩ = false := by
  obtain ⟨c, hb, _, _⟩ := h
  simp [World.frozen?, hb]
theorem lt (h : RowAt w b t n f) : b < w.heap.size := by
  obtain ⟨c, hb, _, _⟩ := h
  obtain ⟨hlt, _⟩ := Array.getElem?_eq_some_iff.1 hb
  exact hlt
theorem congr (h : RowAt w b t n f) (e : ∀ i, i < n → f i = g i) : RowAt w b t n g := by
  obtain ⟨c, hb, hn, hc⟩ := h
  exact ⟨c, hb, hn, fun i hi => by rw [hc i hi, e i hi]⟩
theorem of_block {w' : World} (h : RowAt w b t n f) (e : w'.heap[b]? = w.heap[b]?) : RowAt w' b t n f := by
  obtain ⟨c, hb, hn, hc⟩ := h
  exact ⟨c, e.trans hb, hn, hc⟩
theorem set (h : RowAt w b t n f) (i : Nat) (v : Value) : RowAt (w.setCell ⟨b, i, none⟩ v) b t n (fun j => if j = i then v else f j) := by
  obtain ⟨c, hb, hn, hc⟩ := h
  refine ⟨c.setIfInBounds i v, ?_, by simpa using hn, fun j hj => ?_⟩
  · simp [World.setCell, Array.getElem?_modify, hb]
  · rw [Array.getElem?_setIfInBounds]
    by_cases e : j = i
    · subst e
      simp
      omega
    · rw [if_neg (fun h => e h.symm)]
      show c[j]? = some (if j = i then v else f j)
      rw [if_neg e]
      exact hc j hj
theorem of_row (h : w.rowIs b t n f) : RowAt w b t n f := by
  obtain ⟨c, hb, hn, hc⟩ := h
  exact ⟨c, hb, by omega, hc⟩
theorem below {w' : World} {B : Nat} (h : RowAt w b t n f) (hb : Below B w w') (hB : b < B) : RowAt w' b t n f := h.of_block (hb.block b hB)
end RowAt

/-- Only block g, of those that were there, may have turned. -/
theorem gb_refl (w : World) (r : Option Nat) : w.grownBy w r := ⟨rfl, rfl, rfl, Nat.le_refl _, fun _ _ _ => rfl⟩
theorem gb_trans {a b c : World} {r : Option Nat} (h : a.grownBy b r) (k : b.grownBy c r) : a.grownBy c r :=
  ⟨k.os.trans h.os, k.tape.trans h.tape, k.output.trans h.output, Nat.le_trans h.size k.size, fun i hi hr => (k.block i (Nat.lt_of_lt_of_le hi h.size) hr).trans (h.block i hi hr)⟩
theorem gb_below {w w' : World} {r : Option Nat} {B : Nat} (h : Below B w w') (hB : w.heap.size ≤ B) : w.grownBy w' r := ⟨h.os, h.tape, h.output, h.size, fun k hk _ => h.block k (by omega)⟩
theorem gb_set {w w' : World} {g : Nat} (h : w.grownBy w' (some g)) (o : Nat) (v : Value) : w.grownBy (w'.setCell ⟨g, o, none⟩ v) (some g) :=
  gb_trans h ⟨rfl, rfl, rfl, by simp [World.setCell], fun k _ hk => Below.heap_setCell _ _ _ _ (fun e => hk (by simp at e; rw [e]))⟩
theorem gb_drew {w w' : World} {r : Option Nat} (h : w.grownBy w' r) : w.grownBy w'.drew r := ⟨h.os, h.tape, h.output, h.size, h.block⟩
theorem below_gb {B g : Nat} {a w w' : World} (h : Below B a w) (hg : w.grownBy w' (some g)) (hB : B ≤ w.heap.size) (hr : B ≤ g) : Below B a w' :=
  h.grown hg hB (fun k e => by simp at e; omega)
theorem RowAt.gb {w w' : World} {b g : Nat} {t : TypeId} {n : Nat} {f : Nat → Value} (h : RowAt w b t n f) (hg : w.grownBy w' (some g)) (hne : b ≠ g) : RowAt w' b t n f :=
  h.of_block (hg.block b h.lt (fun e => hne (by simpa using e)))

/-- The text of a mark. -/
def mtxt (n : Nat) : ByteArray := ⟨#[109]⟩ ++ txt n
theorem mtxt_size (n : Nat) (h : n < 18446744073709551616) : (mtxt n).size ≤ 21 := by
  have h1 := Lib.nDigits_le20 n h
  have e : (txt n).size = Lib.nDigits n := by
    show (Lib.decDigits n).toArray.size = _
    rw [Lib.decDigits_eq]; simp
  unfold mtxt
  rw [ByteArray.size_append, e]
  show 1 + _ ≤ 21
  omega
end Marks
end Go.Proofs.YthgcfklfpllgnaaDoor
