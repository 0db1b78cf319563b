/-
  Small laws of my own that the other texts use: no Go function is spoken of here.
-/
import Derived.WalkKit
import Derived.ProofKit
import Derived.Deep.OwnRows
import Derived.Deep.Draws
import Derived.Lib.Strings
import Derived.Laws.IdiomStrings
import Derived.WideShapes
import Derived.Maps.OwnSet
namespace Go.Proofs.YtkodgbalhnbhcaaGreatDoor
namespace Base
open Go.RowKit

theorem hide {p : Prop} (h : p) : Hid p := h
theorem unhide {p : Prop} (h : Hid p) : p := h
theorem ret_bool {a b : Bool} (h : a = b) : Ending.returned (.bool a) = .returned (.bool b) := by rw [h]
theorem ret_int {k : IntKind} {a b : Int} (h : a = b) : Ending.returned (.int k a) = .returned (.int k b) := by rw [h]
theorem ret_str {a b : ByteArray} (h : a = b) : Ending.returned (.string a) = .returned (.string b) := by rw [h]

theorem str_ne {s t : ByteArray} (h : s ≠ t) : (s.toList == t.toList) = false := by
  rw [Lib.toList_data, Lib.toList_data]
  simp only [beq_eq_false_iff_ne]
  intro e
  exact h (Go.WideShapes.bytes_inj e)
theorem str_eq {s t : ByteArray} (h : s = t) : (s.toList == t.toList) = true := by rw [h]; simp

/-- A slice of strings that lies in memory: where it has an element it leads to the row of its elements' cells. -/
def StrsAt (w : World) (a : Option Addr) (ss : List ByteArray) : Prop :=
  ss ≠ [] → ∃ b off, a = some ⟨b, off, none⟩ ∧ b < w.heap.size ∧ ∀ i, i < ss.length → w.cell? ⟨b, off + i, none⟩ = some (.string (ss.getD i ByteArray.empty))

theorem StrsAt.below {w w' : World} {a : Option Addr} {ss : List ByteArray} {B : Nat} (h : StrsAt w a ss) (hb : Below B w w') (hB : w.heap.size ≤ B) : StrsAt w' a ss := by
  intro hne
  obtain ⟨b, off, ha, hlt, hc⟩ := h hne
  refine ⟨b, off, ha, Nat.lt_of_lt_of_le hlt hb.size, fun i hi => ?_⟩
  rw [hb.cell (p := ⟨b, off + i, none⟩) (Nat.lt_of_lt_of_le hlt hB)]
  exact hc i hi

theorem StrsAt.row {w : World} {b : Nat} {t : TypeId} {ss : List ByteArray} (h : w.rowIs b t ss.length (fun i => .string (ss.getD i ByteArray.empty))) : StrsAt w (some ⟨b, 0, none⟩) ss := by
  intro _
  refine ⟨b, 0, rfl, h.lt, fun i hi => ?_⟩
  rw [Nat.zero_add]
  exact h.cell hi

theorem bel1 (w : World) (o1 : Obj) : Below w.heap.size w (w.alloc o1) := (Below.refl _ _).alloc (Nat.le_refl _) o1
theorem bel2 (w : World) (o1 o2 : Obj) : Below w.heap.size w ((w.alloc o1).alloc o2) := (bel1 w o1).alloc (by simp) o2
theorem bel3 (w : World) (o1 o2 o3 : Obj) : Below w.heap.size w (((w.alloc o1).alloc o2).alloc o3) := (bel2 w o1 o2).alloc (by simp; omega) o3
theorem bel_draws {B : Nat} {a w : World} (h : Below B a w) (n : Nat) : Below B a (w.drewN n) := h.trans ⟨rfl, rfl, rfl, Nat.le_refl _, fun _ _ => rfl⟩
theorem bcell {W w1 : World} {B : Nat} (hb : Below B W w1) (hB : W.heap.size ≤ B) : (∀ b o, b < W.heap.size → w1.cell? ⟨b, o, none⟩ = W.cell? ⟨b, o, none⟩) ∧ (∀ b o, b < W.heap.size → w1.frozen? ⟨b, o, none⟩ = W.frozen? ⟨b, o, none⟩) :=
  ⟨fun b o h => hb.cell (p := ⟨b, o, none⟩) (Nat.lt_of_lt_of_le h hB), fun b o h => hb.frozen (p := ⟨b, o, none⟩) (Nat.lt_of_lt_of_le h hB)⟩

/-- The call's own box, its first new block, reads on as it was laid while nothing below its end turns. -/
theorem boxcell {w w1 : World} {A : Obj} (hb : Below (w.heap.size + 1) (w.alloc A) w1) : ∀ o, w1.cell? ⟨w.heap.size, o, none⟩ = (w.alloc A).cell? ⟨w.heap.size, o, none⟩ :=
  fun o => hb.cell (p := ⟨w.heap.size, o, none⟩) (Nat.lt_succ_self _)

/-- 'make([]T, n)', n a variable, T of several cells. -/
theorem run_make_rows {P : Program} (t e : TypeId) (z : Value) (sz bytes : Nat) (ht : P.underlying t = some (.slice e)) (hinfo : (P.info? e).map (fun i => (i.zero, i.size, i.bytes)) = some (some z, sz, bytes))
    (kl kc : IntKind) (n : Nat) (hbytes : bytes * n ≤ 281474976710656) (h63 : n ≤ 9223372036854775807) (w : World) :
    (Instr.makeSlice t (.int kl (n : Int)) (.int kc (n : Int))).run P w = .ok (.slice (some ⟨w.heap.size, 0, none⟩) n n) (w.alloc (.cells (madeCells z.cells (n * sz)) e)) := by
  obtain ⟨i, hi, hzz⟩ := Option.map_eq_some_iff.1 hinfo
  simp only [Prod.mk.injEq] at hzz
  obtain ⟨hz, hs, hb⟩ := hzz
  have hb' : (i.bytes : Int) * (n : Int) ≤ 281474976710656 := by
    have h : ((i.bytes * n : Nat) : Int) ≤ 281474976710656 := by rw [hb]; omega
    rwa [Int.natCast_mul] at h
  have hr := run_make (P := P) w t e i z ht hi hz kl kc n n (by omega) (Int.le_refl _) hb' (by omega)
  simp only [Int.toNat_natCast, hs] at hr
  exact hr
theorem rowIs_mades (w : World) (z : Array Value) (n : Nat) (t : TypeId) (f : Nat → Value) (h : ∀ i, z[i % z.size]! = f i) : (w.alloc (.cells (madeCells z n) t)).rowIs w.heap.size t n f := by
  have hr := World.rowIs_alloc w (madeCells z n) t f (fun i hi => by
    rw [size_madeCells] at hi
    simp only [madeCells, Array.getElem?_map, Array.getElem?_range, hi, if_true, Option.map_some]
    rw [h i])
  rw [size_madeCells] at hr
  exact hr

/-- 'string([]byte{c})'. -/
theorem conv1 {P : Program} (src dst e : TypeId) (m : Int) (h0 : 0 ≤ m) (h1 : m < 256) (hs : P.underlying src = some (.slice e)) (he : P.underlying e = some (.int .u8)) (hd : P.underlying dst = some .string)
    (w : World) (b : Nat) (hc : w.cell? ⟨b, 0, none⟩ = some (.int .u8 m)) :
    (convert src dst (.slice (some ⟨b, 0, none⟩) 1 1)).run P w = .ok (.string ⟨#[UInt8.ofNat m.toNat]⟩) w :=
  run_convert_bytes_back (P := P) w src dst e ⟨b, 0, none⟩ 1 [UInt8.ofNat m.toNat] hs he hd (fun j hj => by
    obtain rfl : j = 0 := by simpa using hj
    show w.cell? ⟨b, 0, none⟩ = some (.int .u8 ((UInt8.ofNat m.toNat).toNat : Int))
    rw [hc, UInt8.toNat_ofNat', Nat.mod_eq_of_lt (show m.toNat < 2 ^ 8 by omega)]
    congr 2
    omega)

/-- What szStringS reckons. -/
def szGo : List ByteArray → Int → Int
  | [], l => l
  | s :: r, l => if l - s.size < 0 then -1 else szGo r (l - s.size)
def szS (ss : List ByteArray) (left : Int) : Int := if left - ss.length < 0 then -1 else szGo ss (left - ss.length)

theorem szGo_drop (ss : List ByteArray) (k : Nat) (h : k < ss.length) (l : Int) : szGo (ss.drop k) l = if l - (ss.getD k ByteArray.empty).size < 0 then -1 else szGo (ss.drop (k + 1)) (l - (ss.getD k ByteArray.empty).size) := by
  rw [List.drop_eq_getElem_cons h, szGo]
  simp [h]
theorem szGo_le (ss : List ByteArray) (l : Int) : szGo ss l ≤ l ∨ szGo ss l = -1 := by
  induction ss generalizing l with
  | nil => left; simp [szGo]
  | cons s r ih =>
    rw [szGo]
    split
    · right; rfl
    · rcases ih (l - s.size) with h | h
      · left; omega
      · right; exact h
theorem szGo_sizes (ss : List ByteArray) (l : Int) (h : 0 ≤ szGo ss l) : ∀ s ∈ ss, (s.size : Int) ≤ l := by
  induction ss generalizing l with
  | nil => simp
  | cons s r ih =>
    rw [szGo] at h
    split at h
    · omega
    · intro t ht
      rcases List.mem_cons.1 ht with rfl | ht
      · rcases szGo_le r (l - t.size) with h' | h' <;> omega
      · have := ih _ h t ht; omega
theorem szS_len (ss : List ByteArray) (left : Int) (h : 0 ≤ szS ss left) : (ss.length : Int) ≤ left ∧ szS ss left = szGo ss (left - ss.length) := by
  unfold szS at h ⊢
  split at h
  · omega
  · rename_i h'
    rw [if_neg h']
    exact ⟨by omega, rfl⟩
theorem szS_bd (ss : List ByteArray) (left : Int) (h0 : 0 ≤ left) : -1 ≤ szS ss left ∧ szS ss left ≤ left := by
  have go : ∀ (ss : List ByteArray) (l : Int), 0 ≤ l → -1 ≤ szGo ss l ∧ szGo ss l ≤ l := by
    intro ss
    induction ss with
    | nil => intro l hl; simp [szGo]; omega
    | cons s r ih =>
      intro l hl
      rw [szGo]
      split
      · omega
      · have := ih (l - s.size) (by omega); omega
  unfold szS
  split
  · omega
  · have := go ss (left - ss.length) (by omega); omega
end Base
end Go.Proofs.YtkodgbalhnbhcaaGreatDoor
/-
  Items as plain data, and how a slice of them lies in memory. No Go function is spoken of here.
-/
namespace Go.Proofs.YtkodgbalhnbhcaaGreatDoor
namespace Items
open Go.RowKit Base

structure Itm where
  key : ByteArray
  flags : Int
  data : ByteArray
  upto : Int
  token : Int
def zero : Itm := ⟨ByteArray.empty, 0, ByteArray.empty, 0, 0⟩
theorem Itm.ext' {x y : Itm} (h1 : x.key = y.key) (h2 : x.flags = y.flags) (h3 : x.data = y.data) (h4 : x.upto = y.upto) (h5 : x.token = y.token) : x = y := by
  cases x; cases y; simp_all

/-- Five cells from a place on hold an item. -/
def At (w : World) (b o : Nat) (x : Itm) : Prop :=
  w.cell? ⟨b, o, none⟩ = some (.string x.key) ∧ w.cell? ⟨b, o + 1, none⟩ = some (.int .i64 x.flags) ∧ w.cell? ⟨b, o + 2, none⟩ = some (.string x.data) ∧
  w.cell? ⟨b, o + 3, none⟩ = some (.int .i64 x.upto) ∧ w.cell? ⟨b, o + 4, none⟩ = some (.int .i64 x.token)
theorem At.below {w w' : World} {b o : Nat} {x : Itm} {B : Nat} (h : At w b o x) (hb : Below B w w') (hB : b < B) : At w' b o x := by
  obtain ⟨h0, h1, h2, h3, h4⟩ := h
  refine ⟨?_, ?_, ?_, ?_, ?_⟩
  · rw [hb.cell (p := ⟨b, o, none⟩) hB]; exact h0
  · rw [hb.cell (p := ⟨b, o + 1, none⟩) hB]; exact h1
  · rw [hb.cell (p := ⟨b, o + 2, none⟩) hB]; exact h2
  · rw [hb.cell (p := ⟨b, o + 3, none⟩) hB]; exact h3
  · rw [hb.cell (p := ⟨b, o + 4, none⟩) hB]; exact h4
/-- A slice of items that lies in memory. -/
def ItemsAt (w : World) (a : Option Addr) (its : List Itm) : Prop :=
  its ≠ [] → ∃ b off, a = some ⟨b, off, none⟩ ∧ b < w.heap.size ∧ ∀ i, i < its.length → At w b (off + i * 5) (its.getD i zero)
theorem ItemsAt.below {w w' : World} {a : Option Addr} {its : List Itm} {B : Nat} (h : ItemsAt w a its) (hb : Below B w w') (hB : w.heap.size ≤ B) : ItemsAt w' a its := by
  intro hne
  obtain ⟨b, off, ha, hlt, hc⟩ := h hne
  exact ⟨b, off, ha, Nat.lt_of_lt_of_le hlt hb.size, fun i hi => (hc i hi).below hb (Nat.lt_of_lt_of_le hlt hB)⟩

/-- The row of a list of items: cell j. -/
def icell (its : List Itm) (j : Nat) : Value :=
  if j % 5 = 0 then .string (its.getD (j / 5) zero).key else if j % 5 = 1 then .int .i64 (its.getD (j / 5) zero).flags else
  if j % 5 = 2 then .string (its.getD (j / 5) zero).data else if j % 5 = 3 then .int .i64 (its.getD (j / 5) zero).upto else .int .i64 (its.getD (j / 5) zero).token
def half (its : List Itm) (k j : Nat) : Value := if j < k * 5 then icell its j else icell [] j
theorem half_step (its : List Itm) (k : Nat) (j : Nat) :
    (if j = k * 5 + 4 then Value.int .i64 (its.getD k zero).token else if j = k * 5 + 3 then .int .i64 (its.getD k zero).upto else if j = k * 5 + 2 then .string (its.getD k zero).data else
      if j = k * 5 + 1 then .int .i64 (its.getD k zero).flags else if j = k * 5 then .string (its.getD k zero).key else half its k j) = half its (k + 1) j := by
  unfold half
  by_cases h4 : j = k * 5 + 4
  · subst h4
    rw [if_pos rfl, if_pos (by omega), icell, show (k * 5 + 4) % 5 = 4 by omega, show (k * 5 + 4) / 5 = k by omega]
    simp
  rw [if_neg h4]
  by_cases h3 : j = k * 5 + 3
  · subst h3
    rw [if_pos rfl, if_pos (by omega), icell, show (k * 5 + 3) % 5 = 3 by omega, show (k * 5 + 3) / 5 = k by omega]
    simp
  rw [if_neg h3]
  by_cases h2 : j = k * 5 + 2
  · subst h2
    rw [if_pos rfl, if_pos (by omega), icell, show (k * 5 + 2) % 5 = 2 by omega, show (k * 5 + 2) / 5 = k by omega]
    simp
  rw [if_neg h2]
  by_cases h1 : j = k * 5 + 1
  · subst h1
    rw [if_pos rfl, if_pos (by omega), icell, show (k * 5 + 1) % 5 = 1 by omega, show (k * 5 + 1) / 5 = k by omega]
    simp
  rw [if_neg h1]
  by_cases h0 : j = k * 5
  · subst h0
    rw [if_pos rfl, if_pos (by omega), icell, show (k * 5) % 5 = 0 by omega, show (k * 5) / 5 = k by omega]
    simp
  rw [if_neg h0]
  by_cases h : j < k * 5
  · rw [if_pos h, if_pos (by omega)]
  · rw [if_neg h, if_neg (by omega)]
theorem at_row {w : World} {b : Nat} {t : TypeId} {its : List Itm} (h : w.rowIs b t (its.length * 5) (icell its)) (i : Nat) (hi : i < its.length) : At w b (0 + i * 5) (its.getD i zero) := by
  rw [Nat.zero_add]
  refine ⟨?_, ?_, ?_, ?_, ?_⟩
  · rw [h.cell (by omega), icell, show (i * 5) % 5 = 0 by omega, show (i * 5) / 5 = i by omega]; simp
  · rw [h.cell (by omega), icell, show (i * 5 + 1) % 5 = 1 by omega, show (i * 5 + 1) / 5 = i by omega]; simp
  · rw [h.cell (by omega), icell, show (i * 5 + 2) % 5 = 2 by omega, show (i * 5 + 2) / 5 = i by omega]; simp
  · rw [h.cell (by omega), icell, show (i * 5 + 3) % 5 = 3 by omega, show (i * 5 + 3) / 5 = i by omega]; simp
  · rw [h.cell (by omega), icell, show (i * 5 + 4) % 5 = 4 by omega, show (i * 5 + 4) / 5 = i by omega]; simp
theorem ItemsAt.row {w : World} {b : Nat} {t : TypeId} {its : List Itm} (h : w.rowIs b t (its.length * 5) (icell its)) : ItemsAt w (some ⟨b, 0, none⟩) its :=
  fun _ => ⟨b, 0, rfl, h.lt, at_row h⟩

theorem made_zero (i : Nat) : (#[Value.string ByteArray.empty, .int .i64 0, .string ByteArray.empty, .int .i64 0, .int .i64 0] : Array Value)[i % 5]! = icell [] i := by
  have h : i % 5 < 5 := Nat.mod_lt _ (by omega)
  unfold icell
  generalize i % 5 = m at h
  obtain rfl | rfl | rfl | rfl | rfl : m = 0 ∨ m = 1 ∨ m = 2 ∨ m = 3 ∨ m = 4 := by omega
  all_goals simp [zero]

/-- What szItem and szItemS reckon. -/
def szI (x : Itm) (left : Int) : Int := if left - x.key.size < 0 then -1 else if left - x.key.size - x.data.size < 0 then -1 else left - x.key.size - x.data.size
def szGo : List Itm → Int → Int
  | [], l => l
  | x :: r, l => if szI x l < 0 then -1 else szGo r (szI x l)
def szIs (its : List Itm) (left : Int) : Int := if left - its.length < 0 then -1 else szGo its (left - its.length)
theorem szI_bd (x : Itm) (l : Int) (h : 0 ≤ l) : -1 ≤ szI x l ∧ szI x l ≤ l := by
  unfold szI
  repeat' split
  all_goals omega
theorem szGo_drop (its : List Itm) (k : Nat) (h : k < its.length) (l : Int) : szGo (its.drop k) l = if szI (its.getD k zero) l < 0 then -1 else szGo (its.drop (k + 1)) (szI (its.getD k zero) l) := by
  rw [List.drop_eq_getElem_cons h, szGo]
  simp [h]
theorem szGo_bd (its : List Itm) (l : Int) (h : 0 ≤ l) : -1 ≤ szGo its l ∧ szGo its l ≤ l := by
  induction its generalizing l with
  | nil => simp [szGo]; omega
  | cons x r ih =>
    have := szI_bd x l h
    rw [szGo]
    split
    · omega
    · have := ih (szI x l) (by omega); omega
theorem szIs_bd (its : List Itm) (left : Int) (h0 : 0 ≤ left) : -1 ≤ szIs its left ∧ szIs its left ≤ left := by
  unfold szIs
  split
  · omega
  · have := szGo_bd its (left - its.length) (by omega); omega
theorem szIs_len {its : List Itm} {left : Int} (h : ¬ szIs its left < 0) : (its.length : Int) ≤ left := by
  unfold szIs at h
  split at h <;> omega

/-- What an item and a list of them must be to be handed in. -/
def Fits (x : Itm) : Prop := x.key.size ≤ maxLen ∧ x.data.size ≤ maxLen
theorem fits_getD {its : List Itm} (h : ∀ x ∈ its, Fits x) (k : Nat) (hk : k < its.length) : Fits (its.getD k zero) := by
  rw [List.getD_eq_getElem?_getD, List.getElem?_eq_getElem hk]
  exact h _ (List.getElem_mem _)
end Items
end Go.Proofs.YtkodgbalhnbhcaaGreatDoor
/-
  A list of links that hang together by their numbers, as plain data. No Go function is spoken of here.
-/
namespace Go.Proofs.YtkodgbalhnbhcaaGreatDoor
namespace Chain
open Go.RowKit Base Items
set_option linter.unusedVariables false

structure Lnk where
  val : Itm
  ahead : Nat
  behind : Nat
def zl : Lnk := ⟨zero, 0, 0⟩
def lk (ls : List Lnk) (p : Nat) : Lnk := ls.getD p zl
theorem lk_set (ls : List Lnk) (i j : Nat) (x : Lnk) (hi : i < ls.length) : lk (ls.set i x) j = if j = i then x else lk ls j := by
  unfold lk
  rw [List.getD_eq_getElem?_getD, List.getD_eq_getElem?_getD, List.getElem?_set]
  by_cases h : i = j
  · subst h; simp [hi]
  · simp [h, Ne.symm h]
theorem lk_push (ls : List Lnk) (x : Lnk) (j : Nat) : lk (ls ++ [x]) j = if j = ls.length then x else lk ls j := by
  unfold lk
  rw [List.getD_eq_getElem?_getD, List.getD_eq_getElem?_getD, List.getElem?_append]
  by_cases h : j < ls.length
  · rw [if_pos h, if_neg (by omega)]
  · rw [if_neg h]
    by_cases h2 : j = ls.length
    · subst h2; simp
    · rw [if_neg h2, List.getElem?_eq_none (by simp; omega), List.getElem?_eq_none (by omega)]

/-- The numbers from a on, one behind the other, and then 0. -/
def Fw (f : Nat → Nat) : Nat → List Nat → Prop
  | a, [] => f a = 0
  | a, b :: r => f a = b ∧ Fw f b r
/-- Each number's is the one ahead of it, and 0's the last. -/
def Bw (g : Nat → Nat) : Nat → List Nat → Prop
  | a, [] => g 0 = a
  | a, b :: r => g b = a ∧ Bw g b r

theorem Fw.congr {f f' : Nat → Nat} : ∀ {a : Nat} {l : List Nat}, Fw f a l → (∀ p ∈ a :: l, f' p = f p) → Fw f' a l
  | a, [], h, e => by have := e a (by simp); simp only [Fw] at h ⊢; omega
  | a, b :: r, h, e => by
    simp only [Fw] at h ⊢
    exact ⟨(e a (by simp)).trans h.1, h.2.congr (fun p hp => e p (List.mem_cons_of_mem _ hp))⟩
theorem Bw.congr {g g' : Nat → Nat} : ∀ {a : Nat} {l : List Nat}, Bw g a l → (∀ p ∈ l, g' p = g p) → g' 0 = g 0 → Bw g' a l
  | a, [], h, _, e0 => by simp only [Bw] at h ⊢; omega
  | a, b :: r, h, e, e0 => by
    simp only [Bw] at h ⊢
    exact ⟨(e b (by simp)).trans h.1, h.2.congr (fun p hp => e p (List.mem_cons_of_mem _ hp)) e0⟩
theorem Bw.last {g : Nat → Nat} : ∀ {a : Nat} {l : List Nat}, Bw g a l → g 0 = (a :: l).getLast (by simp)
  | a, [], h => h
  | a, b :: r, h => by
    simp only [Bw] at h
    rw [List.getLast_cons (by simp)]
    exact h.2.last
theorem Fw.snoc {f f' : Nat → Nat} {n : Nat} : ∀ {a : Nat} {l : List Nat}, Fw f a l → (a :: l).Nodup → (∀ p ∈ a :: l, p ≠ (a :: l).getLast (by simp) → f' p = f p) → f' ((a :: l).getLast (by simp)) = n → f' n = 0 → Fw f' a (l ++ [n])
  | a, [], h, _, _, e1, e2 => by simp at e1; simp only [List.nil_append, Fw]; exact ⟨e1, e2⟩
  | a, b :: r, h, hn, e, e1, e2 => by
    simp only [Fw] at h
    have hl : (a :: b :: r).getLast (by simp) = (b :: r).getLast (by simp) := List.getLast_cons (by simp)
    have hne : a ≠ (b :: r).getLast (by simp) := fun ha => (List.nodup_cons.1 hn).1 (ha ▸ List.getLast_mem _)
    simp only [List.cons_append, Fw]
    refine ⟨(e a (by simp) (by rw [hl]; exact hne)).trans h.1, h.2.snoc (List.nodup_cons.1 hn).2 (fun p hp hpn => e p (List.mem_cons_of_mem _ hp) (by rw [hl]; exact hpn)) (by rw [← hl]; exact e1) e2⟩
theorem Bw.snoc {g g' : Nat → Nat} {n : Nat} : ∀ {a : Nat} {l : List Nat}, Bw g a l → (∀ p ∈ l, g' p = g p) → g' n = (a :: l).getLast (by simp) → g' 0 = n → Bw g' a (l ++ [n])
  | a, [], h, _, e1, e2 => by simp at e1; simp only [List.nil_append, Bw]; exact ⟨e1, e2⟩
  | a, b :: r, h, e, e1, e2 => by
    simp only [Bw] at h
    rw [List.getLast_cons (by simp)] at e1
    simp only [List.cons_append, Bw]
    exact ⟨(e b (by simp)).trans h.1, h.2.snoc (fun p hp => e p (List.mem_cons_of_mem _ hp)) e1 e2⟩
theorem Bw.mid {g : Nat → Nat} {n : Nat} {l2 : List Nat} : ∀ {a : Nat} {l1 : List Nat}, Bw g a (l1 ++ n :: l2) → g n = (a :: l1).getLast (by simp)
  | a, [], h => by simp only [List.nil_append, Bw] at h; simpa using h.1
  | a, b :: r, h => by
    simp only [List.cons_append, Bw] at h
    rw [List.getLast_cons (by simp)]
    exact h.2.mid
theorem Fw.mid {f : Nat → Nat} {n : Nat} {l2 : List Nat} : ∀ {a : Nat} {l1 : List Nat}, Fw f a (l1 ++ n :: l2) → Fw f n l2
  | a, [], h => by simp only [List.nil_append, Fw] at h; exact h.2
  | a, b :: r, h => by simp only [List.cons_append, Fw] at h; exact h.2.mid
theorem Fw.head {f : Nat → Nat} {a : Nat} : ∀ {l : List Nat}, Fw f a l → f a = l.headD 0
  | [], h => h
  | b :: r, h => h.1
theorem Fw.del {f f' : Nat → Nat} {n : Nat} {l2 : List Nat} : ∀ {a : Nat} {l1 : List Nat}, Fw f a (l1 ++ n :: l2) → (a :: (l1 ++ n :: l2)).Nodup → (∀ p ∈ a :: (l1 ++ l2), p ≠ (a :: l1).getLast (by simp) → f' p = f p) → f' ((a :: l1).getLast (by simp)) = f n → Fw f' a (l1 ++ l2)
  | a, [], h, hn, e, e1 => by
    simp only [List.nil_append, Fw] at h
    simp at e1
    simp only [List.nil_append] at e hn ⊢
    cases l2 with
    | nil => simp only [Fw] at h ⊢; omega
    | cons c r =>
      simp only [Fw] at h ⊢
      refine ⟨by omega, h.2.2.congr (fun p hp => e p (List.mem_cons_of_mem _ hp) ?_)⟩
      simp only [List.getLast_singleton]
      intro hpa
      exact (List.nodup_cons.1 hn).1 (hpa ▸ List.mem_cons_of_mem _ hp)
  | a, b :: r, h, hn, e, e1 => by
    simp only [List.cons_append, Fw] at h
    have hl : (a :: b :: r).getLast (by simp) = (b :: r).getLast (by simp) := List.getLast_cons (by simp)
    have hne : a ≠ (b :: r).getLast (by simp) := fun ha => (List.nodup_cons.1 hn).1 (by
      have hm : (b :: r).getLast (by simp) ∈ b :: r := List.getLast_mem _
      rw [← ha] at hm
      exact List.mem_append_left _ hm)
    simp only [List.cons_append, Fw]
    exact ⟨(e a (by simp) (by rw [hl]; exact hne)).trans h.1, h.2.del (List.nodup_cons.1 hn).2 (fun p hp hpn => e p (List.mem_cons_of_mem _ hp) (by rw [hl]; exact hpn)) (by rw [← hl]; exact e1)⟩
theorem Bw.del {g g' : Nat → Nat} {n : Nat} {l2 : List Nat} : ∀ {a : Nat} {l1 : List Nat}, Bw g a (l1 ++ n :: l2) → (l1 ++ n :: l2).Nodup → 0 ∉ l1 ++ n :: l2 → (∀ p, p = 0 ∨ p ∈ l1 ++ l2 → p ≠ l2.headD 0 → g' p = g p) → g' (l2.headD 0) = g n → Bw g' a (l1 ++ l2)
  | a, [], h, hn, h0, e, e1 => by
    simp only [List.nil_append, Bw] at h e h0 hn ⊢
    cases l2 with
    | nil => simp only [List.headD_nil, Bw] at e1 h ⊢; omega
    | cons c r =>
      simp only [List.headD_cons, Bw] at h e e1 ⊢
      refine ⟨by omega, h.2.2.congr (fun p hp => e p (.inr (List.mem_cons_of_mem _ hp)) ?_) (e 0 (.inl rfl) ?_)⟩
      · intro hpc
        subst hpc
        exact (List.nodup_cons.1 (List.nodup_cons.1 hn).2).1 hp
      · intro hc
        subst hc
        simp at h0
  | a, b :: r, h, hn, h0, e, e1 => by
    simp only [List.cons_append, Bw] at h ⊢
    refine ⟨(e b (.inr (by simp)) ?_).trans h.1, h.2.del (List.nodup_cons.1 hn).2 (fun hm => h0 (List.mem_cons_of_mem _ hm)) (fun p hp hpn => e p (hp.imp id (fun hm => List.mem_cons_of_mem _ hm)) hpn) e1⟩
    intro hb
    cases l2 with
    | nil => simp at hb; subst hb; simp at h0
    | cons c s =>
      simp at hb
      subst hb
      exact (List.nodup_cons.1 hn).1 (by simp)

/-- Links that hang together: 'order' are the numbers of those that are in use, in their order; 'free' those that are not. -/
structure Good (ls : List Lnk) (free order : List Nat) : Prop where
  nodup : order.Nodup
  inO : ∀ p ∈ order, 0 < p ∧ p < ls.length
  fnodup : free.Nodup
  inF : ∀ p ∈ free, 0 < p ∧ p < ls.length ∧ p ∉ order
  len : ls.length = 1 + order.length + free.length
  fw : Fw (fun p => (lk ls p).behind) 0 order
  bw : Bw (fun p => (lk ls p).ahead) 0 order
def itemsOf (ls : List Lnk) (order : List Nat) : List Itm := order.map (fun p => (lk ls p).val)

theorem Good.zero {ls : List Lnk} {free order : List Nat} (h : Good ls free order) : 0 ∉ order := fun hm => by have := (h.inO 0 hm).1; omega
theorem Good.cons {ls : List Lnk} {free order : List Nat} (h : Good ls free order) : (0 :: order).Nodup := List.nodup_cons.2 ⟨h.zero, h.nodup⟩
theorem good_new : Good [zl] [] [] := ⟨by simp, by simp, by simp, by simp, rfl, rfl, rfl⟩

theorem Good.perm {ls : List Lnk} {free free' order : List Nat} (h : Good ls free order) (hp : free.Perm free') : Good ls free' order :=
  ⟨h.nodup, h.inO, hp.nodup_iff.1 h.fnodup, fun p hm => h.inF p (hp.mem_iff.2 hm), by rw [h.len, hp.length_eq], h.fw, h.bw⟩

/-- The links behind putLast at a number that is not in use. -/
def putL (ls : List Lnk) (n : Nat) (x : Itm) : List Lnk :=
  let last := (lk ls 0).ahead
  let l1 := ls.set n ⟨x, last, 0⟩
  let l2 := l1.set last { lk l1 last with behind := n }
  l2.set 0 { lk l2 0 with ahead := n }
theorem putL_len (ls : List Lnk) (n : Nat) (x : Itm) : (putL ls n x).length = ls.length := by simp [putL]
theorem last_lt {ls : List Lnk} {free order : List Nat} (h : Good ls free order) : (lk ls 0).ahead < ls.length ∧ ((lk ls 0).ahead ∈ 0 :: order) := by
  have e : (lk ls 0).ahead = (0 :: order).getLast (by simp) := h.bw.last
  rw [e]
  have hm := List.getLast_mem (l := 0 :: order) (by simp)
  refine ⟨?_, hm⟩
  rcases List.mem_cons.1 hm with h0 | h1
  · rw [h0]; have := h.len; omega
  · exact (h.inO _ h1).2
theorem putL_at {ls : List Lnk} {n : Nat} {x : Itm} (hn : 0 < n) (hl : n < ls.length) (h0 : (lk ls 0).ahead < ls.length) (hne : n ≠ (lk ls 0).ahead) (p : Nat) :
    (lk (putL ls n x) p).val = (if p = n then x else (lk ls p).val) ∧ (lk (putL ls n x) p).behind = (if p = n then 0 else if p = (lk ls 0).ahead then n else (lk ls p).behind) ∧
    (lk (putL ls n x) p).ahead = (if p = 0 then n else if p = n then (lk ls 0).ahead else (lk ls p).ahead) := by
  unfold putL
  generalize (lk ls 0).ahead = last at h0 hne ⊢
  simp only
  rw [lk_set _ 0 p _ (by simp; omega), lk_set _ last 0 _ (by simp; omega), lk_set _ last p _ (by simp; omega), lk_set _ n last _ hl, lk_set _ n 0 _ hl, lk_set _ n p _ hl]
  by_cases hp0 : p = 0
  · subst hp0
    by_cases hl0 : 0 = last
    · subst hl0
      simp [show (0 : Nat) ≠ n by omega]
    · simp [hl0, show (0 : Nat) ≠ n by omega]
  · by_cases hpl : p = last
    · subst hpl
      simp [hp0, Ne.symm hne]
    · by_cases hpn : p = n
      · subst hpn
        simp [hp0, hpl]
      · simp [hp0, hpl, hpn]

/-- putLast at a number that is not in use. -/
theorem Good.put {ls : List Lnk} {free order : List Nat} {n : Nat} (h : Good ls (n :: free) order) (x : Itm) : Good (putL ls n x) free (order ++ [n]) := by
  obtain ⟨hn0, hnl, hno⟩ := h.inF n (by simp)
  obtain ⟨hl, hm⟩ := last_lt h
  have hne : n ≠ (lk ls 0).ahead := by
    intro e
    rw [← e] at hm
    rcases List.mem_cons.1 hm with h0 | h1
    · omega
    · exact hno h1
  have ht := fun p => putL_at (x := x) hn0 hnl hl hne p
  have hlast : (lk ls 0).ahead = (0 :: order).getLast (by simp) := h.bw.last
  refine ⟨?_, ?_, (List.nodup_cons.1 h.fnodup).2, ?_, ?_, ?_, ?_⟩
  · exact List.nodup_append.2 ⟨h.nodup, by simp, fun a ha b hb => by simp at hb; subst hb; intro e; subst e; exact hno ha⟩
  · intro p hp
    rw [putL_len]
    rcases List.mem_append.1 hp with h1 | h1
    · exact h.inO p h1
    · simp at h1; subst h1; exact ⟨hn0, hnl⟩
  · intro p hp
    rw [putL_len]
    obtain ⟨h1, h2, h3⟩ := h.inF p (List.mem_cons_of_mem _ hp)
    refine ⟨h1, h2, fun hm => ?_⟩
    rcases List.mem_append.1 hm with h4 | h4
    · exact h3 h4
    · simp at h4; subst h4; exact (List.nodup_cons.1 h.fnodup).1 hp
  · rw [putL_len]
    have := h.len
    simp at this ⊢
    omega
  · refine h.fw.snoc h.cons (fun p hp hpl => ?_) ?_ ?_
    · rw [(ht p).2.1, ← hlast] at *
      rw [if_neg, if_neg hpl]
      intro e
      subst e
      rcases List.mem_cons.1 hp with h0 | h1
      · omega
      · exact hno h1
    · rw [← hlast, (ht _).2.1, if_neg (Ne.symm hne), if_pos rfl]
    · rw [(ht n).2.1, if_pos rfl]
  · refine h.bw.snoc (fun p hp => ?_) ?_ ?_
    · rw [(ht p).2.2, if_neg, if_neg]
      · intro e; subst e; exact hno hp
      · intro e; subst e; exact h.zero hp
    · rw [← hlast, (ht n).2.2, if_neg (by omega), if_pos rfl]
    · rw [(ht 0).2.2, if_pos rfl]
theorem items_put {ls : List Lnk} {free order : List Nat} {n : Nat} (h : Good ls (n :: free) order) (x : Itm) : itemsOf (putL ls n x) (order ++ [n]) = itemsOf ls order ++ [x] := by
  obtain ⟨hn0, hnl, hno⟩ := h.inF n (by simp)
  obtain ⟨hl, hm⟩ := last_lt h
  have hne : n ≠ (lk ls 0).ahead := by
    intro e
    rw [← e] at hm
    rcases List.mem_cons.1 hm with h0 | h1
    · omega
    · exact hno h1
  have ht := fun p => (putL_at (x := x) hn0 hnl hl hne p).1
  unfold itemsOf
  rw [List.map_append]
  congr 1
  · apply List.map_congr_left
    intro p hp
    rw [ht, if_neg]
    intro e; subst e; exact hno hp
  · simp [ht]
/-- A link more, not in use. -/
theorem Good.more {ls : List Lnk} {order : List Nat} (h : Good ls [] order) : Good (ls ++ [zl]) [ls.length] order := by
  have ht := fun p => lk_push ls zl p
  have h0 : ls.length ≠ 0 := by have := h.len; omega
  refine ⟨h.nodup, fun p hp => ?_, by simp, fun p hp => ?_, ?_, ?_, ?_⟩
  · have := h.inO p hp; simp; omega
  · simp at hp
    subst hp
    refine ⟨by omega, by simp, fun hm => ?_⟩
    have := (h.inO _ hm).2; omega
  · have := h.len; simp at this ⊢; omega
  · refine h.fw.congr (fun p hp => ?_)
    rw [ht, if_neg]
    rcases List.mem_cons.1 hp with h1 | h1
    · omega
    · have := (h.inO _ h1).2; omega
  · refine h.bw.congr (fun p hp => ?_) ?_
    · rw [ht, if_neg]
      have := (h.inO _ hp).2; omega
    · rw [ht, if_neg (by omega)]
theorem items_more {ls : List Lnk} {free order : List Nat} (h : Good ls free order) : itemsOf (ls ++ [zl]) order = itemsOf ls order := by
  unfold itemsOf
  apply List.map_congr_left
  intro p hp
  rw [lk_push, if_neg]
  have := (h.inO _ hp).2; omega

/-- The links behind take. -/
def takeL (ls : List Lnk) (n : Nat) : List Lnk :=
  let l1 := ls.set (lk ls n).ahead { lk ls (lk ls n).ahead with behind := (lk ls n).behind }
  l1.set (lk ls n).behind { lk l1 (lk ls n).behind with ahead := (lk ls n).ahead }
theorem takeL_len (ls : List Lnk) (n : Nat) : (takeL ls n).length = ls.length := by simp [takeL]
theorem takeL_at {ls : List Lnk} {n : Nat} (h1 : (lk ls n).ahead < ls.length) (h2 : (lk ls n).behind < ls.length) (p : Nat) :
    (lk (takeL ls n) p).val = (lk ls p).val ∧ (lk (takeL ls n) p).behind = (if p = (lk ls n).ahead then (lk ls n).behind else (lk ls p).behind) ∧
    (lk (takeL ls n) p).ahead = (if p = (lk ls n).behind then (lk ls n).ahead else (lk ls p).ahead) := by
  unfold takeL
  generalize (lk ls n).ahead = a at h1 ⊢
  generalize (lk ls n).behind = b at h2 ⊢
  simp only
  rw [lk_set _ b p _ (by simp; omega), lk_set _ a b _ h1, lk_set _ a p _ h1]
  by_cases hpb : p = b
  · subst hpb
    by_cases hpa : p = a
    · subst hpa; simp
    · simp [hpa]
  · by_cases hpa : p = a
    · subst hpa; simp [hpb]
    · simp [hpb, hpa]
theorem mid_lt {ls : List Lnk} {free l1 l2 : List Nat} {n : Nat} (h : Good ls free (l1 ++ n :: l2)) : (lk ls n).ahead < ls.length ∧ (lk ls n).behind < ls.length ∧ (lk ls n).ahead = (0 :: l1).getLast (by simp) ∧ (lk ls n).behind = l2.headD 0 := by
  have e1 : (lk ls n).ahead = (0 :: l1).getLast (by simp) := h.bw.mid
  have e2 : (lk ls n).behind = l2.headD 0 := h.fw.mid.head
  refine ⟨?_, ?_, e1, e2⟩
  · rw [e1]
    rcases List.mem_cons.1 (List.getLast_mem (l := 0 :: l1) (by simp)) with h0 | h1
    · rw [h0]; have := h.len; omega
    · exact (h.inO _ (List.mem_append_left _ h1)).2
  · rw [e2]
    cases l2 with
    | nil => have := h.len; simp at this ⊢; omega
    | cons c r => exact (h.inO c (by simp)).2
theorem Good.take {ls : List Lnk} {free l1 l2 : List Nat} {n : Nat} (h : Good ls free (l1 ++ n :: l2)) : Good (takeL ls n) (free ++ [n]) (l1 ++ l2) := by
  obtain ⟨ha, hb, ea, eb⟩ := mid_lt h
  have ht := fun p => takeL_at ha hb p
  have hsub : ∀ p, p ∈ l1 ++ l2 → p ∈ l1 ++ n :: l2 := fun p hp => by
    rcases List.mem_append.1 hp with h1 | h1
    · exact List.mem_append_left _ h1
    · exact List.mem_append_right _ (List.mem_cons_of_mem _ h1)
  have hnn : n ∉ l1 ++ l2 := by
    have h1 := h.nodup
    rw [List.nodup_append] at h1
    intro hm
    rcases List.mem_append.1 hm with h2 | h2
    · exact h1.2.2 n h2 n (by simp) rfl
    · exact (List.nodup_cons.1 h1.2.1).1 h2
  refine ⟨?_, ?_, ?_, ?_, ?_, ?_, ?_⟩
  · have h1 := h.nodup
    rw [List.nodup_append] at h1 ⊢
    exact ⟨h1.1, (List.nodup_cons.1 h1.2.1).2, fun a ha b hb => h1.2.2 a ha b (List.mem_cons_of_mem _ hb)⟩
  · intro p hp
    rw [takeL_len]
    exact h.inO p (hsub p hp)
  · refine List.nodup_append.2 ⟨h.fnodup, by simp, fun c hc d hd => by
      simp at hd; subst hd; intro e; subst e
      exact (h.inF _ hc).2.2 (by simp)⟩
  · intro p hp
    rw [takeL_len]
    rcases List.mem_append.1 hp with h1 | h1
    · obtain ⟨h2, h3, h4⟩ := h.inF p h1
      exact ⟨h2, h3, fun hm => h4 (hsub p hm)⟩
    · simp at h1
      subst h1
      have := h.inO p (by simp)
      exact ⟨this.1, this.2, hnn⟩
  · rw [takeL_len]
    have := h.len
    simp at this ⊢
    omega
  · refine h.fw.del h.cons (fun p hp hpl => ?_) ?_
    · rw [← ea] at hpl
      rw [(ht p).2.1, if_neg hpl]
    · rw [← ea, (ht _).2.1, if_pos rfl]
  · refine h.bw.del h.nodup h.zero (fun p hp hpl => ?_) ?_
    · rw [← eb] at hpl
      rw [(ht p).2.2, if_neg hpl]
    · rw [← eb, (ht _).2.2, if_pos rfl]
theorem items_take {ls : List Lnk} {free l1 l2 : List Nat} {n : Nat} (h : Good ls free (l1 ++ n :: l2)) (l : List Nat) : itemsOf (takeL ls n) l = itemsOf ls l := by
  obtain ⟨ha, hb, ea, eb⟩ := mid_lt h
  unfold itemsOf
  exact List.map_congr_left (fun p _ => (takeL_at ha hb p).1)
end Chain
end Go.Proofs.YtkodgbalhnbhcaaGreatDoor
/-
  A world that is another but for a few blocks: laws of my own. No Go function is spoken of here.
-/
namespace Go.Proofs.YtkodgbalhnbhcaaGreatDoor
namespace Keep
open Go.RowKit Base

/-- w' is w but for the blocks on a list, and new ones. -/
structure Keeps (S : List Nat) (w w' : World) : Prop where
  os : w'.os = w.os
  tape : w'.tape = w.tape
  output : w'.output = w.output
  size : w.heap.size ≤ w'.heap.size
  block : ∀ k, k < w.heap.size → k ∉ S → w'.heap[k]? = w.heap[k]?

theorem Keeps.refl (S : List Nat) (w : World) : Keeps S w w := ⟨rfl, rfl, rfl, Nat.le_refl _, fun _ _ _ => rfl⟩
/-- Two steps: what the second may write was written by the first too, or is new since. -/
theorem Keeps.trans {S S' : List Nat} {a b c : World} (h : Keeps S a b) (k : Keeps S' b c) (hs : ∀ x ∈ S', x ∈ S ∨ a.heap.size ≤ x) : Keeps S a c :=
  ⟨k.os.trans h.os, k.tape.trans h.tape, k.output.trans h.output, Nat.le_trans h.size k.size, fun i hi hn =>
    (k.block i (Nat.lt_of_lt_of_le hi h.size) (fun hm => (hs i hm).elim hn (fun hle => by omega))).trans (h.block i hi hn)⟩
theorem Keeps.mono {S S' : List Nat} {w w' : World} (h : Keeps S w w') (hs : ∀ x ∈ S, x ∈ S') : Keeps S' w w' :=
  ⟨h.os, h.tape, h.output, h.size, fun i hi hn => h.block i hi (fun hm => hn (hs i hm))⟩
theorem Keeps.drew {S : List Nat} {a w : World} (h : Keeps S a w) : Keeps S a w.drew := ⟨h.os, h.tape, h.output, h.size, h.block⟩
theorem Keeps.alloc {S : List Nat} {a w : World} (h : Keeps S a w) (o : Obj) : Keeps S a (w.alloc o) :=
  h.trans (S' := []) ⟨rfl, rfl, rfl, by simp, fun k hk _ => Below.heap_alloc _ _ _ hk⟩ (by simp)
theorem Keeps.setCell {S : List Nat} {a w : World} (h : Keeps S a w) {p : Addr} (hp : p.block ∈ S ∨ a.heap.size ≤ p.block) (u : Value) : Keeps S a (w.setCell p u) :=
  h.trans (S' := [p.block]) ⟨rfl, rfl, rfl, by simp [World.setCell], fun k _ hk => Below.heap_setCell _ _ _ _ (by simpa using hk)⟩ (by simpa using hp)
theorem Keeps.grown {S : List Nat} {a w w' : World} {row : Option Nat} (h : Keeps S a w) (hg : w.grownBy w' row) (hr : ∀ k, row = some k → k ∈ S ∨ a.heap.size ≤ k) : Keeps S a w' := by
  cases row with
  | none => exact h.trans (S' := []) ⟨hg.os, hg.tape, hg.output, hg.size, fun k hk _ => hg.block k hk (by simp)⟩ (by simp)
  | some r => exact h.trans (S' := [r]) ⟨hg.os, hg.tape, hg.output, hg.size, fun k hk hn => hg.block k hk (by simpa using hn)⟩ (by simpa using hr r rfl)
theorem Keeps.turned {S : List Nat} {a w w' : World} {b : Nat} (h : Keeps S a w) (hg : w.mapTurned w' b) (hr : b ∈ S ∨ a.heap.size ≤ b) : Keeps S a w' :=
  h.grown hg.grown (fun k e => by simp at e; exact e ▸ hr)
theorem Keeps.of_below {S : List Nat} {B : Nat} {w w' : World} (h : Below B w w') (hB : ∀ k, k < w.heap.size → k ∉ S → k < B) : Keeps S w w' :=
  ⟨h.os, h.tape, h.output, h.size, fun k hk hn => h.block k (hB k hk hn)⟩
theorem Keeps.below {S : List Nat} {B : Nat} {w w' : World} (h : Keeps S w w') (hS : ∀ x ∈ S, B ≤ x) (hB : B ≤ w.heap.size) : Below B w w' :=
  ⟨h.os, h.tape, h.output, h.size, fun k hk => h.block k (by omega) (fun hm => by have := hS k hm; omega)⟩
theorem Keeps.cell {S : List Nat} {w w' : World} (h : Keeps S w w') {b o : Nat} (hb : b < w.heap.size) (hn : b ∉ S) : w'.cell? ⟨b, o, none⟩ = w.cell? ⟨b, o, none⟩ :=
  World.cell?_of_block (w := w) (h.block b hb hn)
theorem Keeps.frozen {S : List Nat} {w w' : World} (h : Keeps S w w') {b o : Nat} (hb : b < w.heap.size) (hn : b ∉ S) : w'.frozen? ⟨b, o, none⟩ = w.frozen? ⟨b, o, none⟩ :=
  World.frozen?_of_block (w := w) (h.block b hb hn)
theorem Keeps.map {H : Type} {P : Program} {k : TypeId} {R : Value → Option (DataW H × List MemPlace)} {b n : Nat} {D : DataW H} {S : List Nat} {w w' : World} (h : Keeps S w w') (hm : w.ownsMap P k R b n D) (hn : b ∉ S) : w'.ownsMap P k R b n D := by
  have hb := hm.lt
  obtain ⟨es, clock, hh, r⟩ := hm
  exact ⟨es, clock, by rw [h.block b hb hn]; exact hh, r⟩
theorem map_below {H : Type} {P : Program} {k : TypeId} {R : Value → Option (DataW H × List MemPlace)} {b n B : Nat} {D : DataW H} {w w' : World} (hm : w.ownsMap P k R b n D) (h : Below B w w') (hb : b < B) : w'.ownsMap P k R b n D := by
  obtain ⟨es, clock, hh, r⟩ := hm
  exact ⟨es, clock, by rw [h.block b hb]; exact hh, r⟩
theorem map_tight {H : Type} {P : Program} {k : TypeId} {R : Value → Option (DataW H × List MemPlace)} {b n m : Nat} {D : DataW H} {w : World} (hm : w.ownsMap P k R b n D) (h : Maps.size D ≤ m) : w.ownsMap P k R b m D := by
  obtain ⟨es, clock, hh, F, hs, rfl⟩ := hm
  refine ⟨es, clock, hh, F, ?_, rfl⟩
  simpa [Maps.size, length_sorted] using h

theorem own_blocks {w w' : World} {base : Nat} {e : TypeId} {size : Nat} {v : Value} {n : Nat} {xs : List Value} (h : w.ownsRow base e size v n xs) (hb : ∀ g, v.ownBlock = some g → w'.heap[g]? = w.heap[g]?) : w'.ownsRow base e size v n xs := by
  refine ⟨h.1, h.2.elim Or.inl ?_⟩
  rintro ⟨g, cap, cur, rfl, hg, hh, r⟩
  exact Or.inr ⟨g, cap, cur, rfl, hg, by rw [hb g rfl]; exact hh, r⟩
theorem own_lt {w : World} {base : Nat} {e : TypeId} {size : Nat} {v : Value} {n : Nat} {xs : List Value} (h : w.ownsRow base e size v n xs) {g : Nat} (hg : v.ownBlock = some g) : g < w.heap.size := (h.lt g hg).2

/-- A row of cells of the call's own: a slice that leads to the beginning of a block, with the cells that it has. -/
def Row (w : World) (e : TypeId) (size g n cap : Nat) (xs : List Value) : Prop :=
  xs.length = n * size ∧ ∃ cur, w.heap[g]? = some (.cells cur e (0, 0)) ∧ n ≤ cap ∧ cap ≤ maxLen ∧ cur.size = cap * size ∧ cur.toList.take (n * size) = xs
section
variable {w w' : World} {e : TypeId} {size g n cap : Nat} {xs : List Value}
theorem Row.owns (h : Row w e size g n cap xs) {base : Nat} (hb : base ≤ g) : w.ownsRow base e size (.slice (some ⟨g, 0, none⟩) n cap) n xs := by
  obtain ⟨h1, cur, h2⟩ := h
  exact ⟨h1, .inr ⟨g, cap, cur, rfl, hb, h2⟩⟩
theorem Row.of_owns {base : Nat} {v : Value} (h : w.ownsRow base e size v n xs) (hn : 0 < n) : ∃ g cap, v = .slice (some ⟨g, 0, none⟩) n cap ∧ base ≤ g ∧ Row w e size g n cap xs := by
  obtain ⟨h1, h2⟩ := h
  rcases h2 with ⟨_, h0⟩ | ⟨g, cap, cur, hv, hg, r⟩
  · omega
  · exact ⟨g, cap, hv, hg, h1, cur, r⟩
theorem Row.lt (h : Row w e size g n cap xs) : g < w.heap.size := by
  obtain ⟨_, cur, hh, _⟩ := h
  exact (Array.getElem?_eq_some_iff.1 hh).1
theorem Row.of_block (h : Row w e size g n cap xs) (hb : w'.heap[g]? = w.heap[g]?) : Row w' e size g n cap xs := by
  obtain ⟨h1, cur, hh, r⟩ := h
  exact ⟨h1, cur, by rw [hb]; exact hh, r⟩
theorem Row.keep {S : List Nat} (h : Row w e size g n cap xs) (hk : Keeps S w w') (hn : g ∉ S) : Row w' e size g n cap xs := h.of_block (hk.block g h.lt hn)
theorem Row.alloc (h : Row w e size g n cap xs) (o : Obj) : Row (w.alloc o) e size g n cap xs := h.of_block (Below.heap_alloc _ _ _ h.lt)
theorem Row.cell (h : Row w e size g n cap xs) {j : Nat} {u : Value} (hj : xs[j]? = some u) : w.cell? ⟨g, j, none⟩ = some u := by
  obtain ⟨h1, cur, hh, h2, h3, h4, h5⟩ := h
  have hlt : j < n * size := by rw [← h1]; exact (List.getElem?_eq_some_iff.1 hj).1
  rw [← h5, List.getElem?_take_of_lt hlt] at hj
  simp only [World.cell?, hh]
  simpa using hj
theorem Row.frozen (h : Row w e size g n cap xs) (j : Nat) : w.frozen? ⟨g, j, none⟩ = false := by
  obtain ⟨h1, cur, hh, h2, h3, h4, h5⟩ := h
  simp [World.frozen?, hh]
theorem Row.setOther (h : Row w e size g n cap xs) {p : Addr} (hp : g ≠ p.block) (u : Value) : Row (w.setCell p u) e size g n cap xs := h.of_block (Below.heap_setCell _ _ _ _ hp)
end
end Keep
end Go.Proofs.YtkodgbalhnbhcaaGreatDoor
