/-
  Small laws of my own that the other texts use: no Go function is spoken of here.
-/
import Derived.WalkKit
import Derived.ProofKit
import Derived.Deep.OwnRows
import Derived.Deep.Draws
import Derived.Lib.Strings
import Derived.Laws.IdiomStrings
import Derived.WideShapes
import Derived.Test.YtkdcofmpbmiloaaGreatDoorRows
namespace Go.Proofs.YtkdcofmpbmiloaaGreatDoor
namespace Base
open Go.RowKit

theorem hide {p : Prop} (h : p) : Hid p := h
theorem unhide {p : Prop} (h : Hid p) : p := h
theorem ret_bool {a b : Bool} (h : a = b) : Ending.returned (.bool a) = .returned (.bool b) := by rw [h]
theorem ret_int {k : IntKind} {a b : Int} (h : a = b) : Ending.returned (.int k a) = .returned (.int k b) := by rw [h]
theorem ret_str {a b : ByteArray} (h : a = b) : Ending.returned (.string a) = .returned (.string b) := by rw [h]

theorem str_ne {s t : ByteArray} (h : s ≠ t) : (s.toList == t.toList) = false := by
  rw [Lib.toList_data, Lib.toList_data]
  simp only [beq_eq_false_iff_ne]
  intro e
  exact h (Go.WideShapes.bytes_inj e)
theorem str_eq {s t : ByteArray} (h : s = t) : (s.toList == t.toList) = true := by rw [h]; simp

/-- A slice of strings that lies in memory: where it has an element it leads to the row of its elements' cells. -/
def StrsAt (w : World) (a : Option Addr) (ss : List ByteArray) : Prop :=
  ss ≠ [] → ∃ b off, a = some ⟨b, off, none⟩ ∧ b < w.heap.size ∧ ∀ i, i < ss.length → w.cell? ⟨b, off + i, none⟩ = some (.string (ss.getD i ByteArray.empty))

theorem StrsAt.below {w w' : World} {a : Option Addr} {ss : List ByteArray} {B : Nat} (h : StrsAt w a ss) (hb : Below B w w') (hB : w.heap.size ≤ B) : StrsAt w' a ss := by
  intro hne
  obtain ⟨b, off, ha, hlt, hc⟩ := h hne
  refine ⟨b, off, ha, Nat.lt_of_lt_of_le hlt hb.size, fun i hi => ?_⟩
  rw [hb.cell (p := ⟨b, off + i, none⟩) (Nat.lt_of_lt_of_le hlt hB)]
  exact hc i hi

theorem StrsAt.row {w : World} {b : Nat} {t : TypeId} {ss : List ByteArray} (h : w.rowIs b t ss.length (fun i => .string (ss.getD i ByteArray.empty))) : StrsAt w (some ⟨b, 0, none⟩) ss := by
  intro _
  refine ⟨b, 0, rfl, h.lt, fun i hi => ?_⟩
  rw [Nat.zero_add]
  exact h.cell hi

theorem bel1 (w : World) (o1 : Obj) : Below w.heap.size w (w.alloc o1) := (Below.refl _ _).alloc (Nat.le_refl _) o1
theorem bel2 (w : World) (o1 o2 : Obj) : Below w.heap.size w ((w.alloc o1).alloc o2) := (bel1 w o1).alloc (by simp) o2
theorem bel3 (w : World) (o1 o2 o3 : Obj) : Below w.heap.size w (((w.alloc o1).alloc o2).alloc o3) := (bel2 w o1 o2).alloc (by simp; omega) o3
theorem bel_draws {B : Nat} {a w : World} (h : Below B a w) (n : Nat) : Below B a (w.drewN n) := h.trans ⟨rfl, rfl, rfl, Nat.le_refl _, fun _ _ => rfl⟩
theorem bcell {W w1 : World} {B : Nat} (hb : Below B W w1) (hB : W.heap.size ≤ B) : (∀ b o, b < W.heap.size → w1.cell? ⟨b, o, none⟩ = W.cell? ⟨b, o, none⟩) ∧ (∀ b o, b < W.heap.size → w1.frozen? ⟨b, o, none⟩ = W.frozen? ⟨b, o, none⟩) :=
  ⟨fun b o h => hb.cell (p := ⟨b, o, none⟩) (Nat.lt_of_lt_of_le h hB), fun b o h => hb.frozen (p := ⟨b, o, none⟩) (Nat.lt_of_lt_of_le h hB)⟩

/-- The call's own box, its first new block, reads on as it was laid while nothing below its end turns. -/
theorem boxcell {w w1 : World} {A : Obj} (hb : Below (w.heap.size + 1) (w.alloc A) w1) : ∀ o, w1.cell? ⟨w.heap.size, o, none⟩ = (w.alloc A).cell? ⟨w.heap.size, o, none⟩ :=
  fun o => hb.cell (p := ⟨w.heap.size, o, none⟩) (Nat.lt_succ_self _)

/-- 'make([]T, n)', n a variable, T of several cells. -/
theorem run_make_rows {P : Program} (t e : TypeId) (z : Value) (sz bytes : Nat) (ht : P.underlying t = some (.slice e)) (hinfo : (P.info? e).map (fun i => (i.zero, i.size, i.bytes)) = some (some z, sz, bytes))
    (kl kc : IntKind) (n : Nat) (hbytes : bytes * n ≤ 281474976710656) (h63 : n ≤ 9223372036854775807) (w : World) :
    (Instr.makeSlice t (.int kl (n : Int)) (.int kc (n : Int))).run P w = .ok (.slice (some ⟨w.heap.size, 0, none⟩) n n) (w.alloc (.cells (madeCells z.cells (n * sz)) e)) := by
  obtain ⟨i, hi, hzz⟩ := Option.map_eq_some_iff.1 hinfo
  simp only [Prod.mk.injEq] at hzz
  obtain ⟨hz, hs, hb⟩ := hzz
  have hb' : (i.bytes : Int) * (n : Int) ≤ 281474976710656 := by
    have h : ((i.bytes * n : Nat) : Int) ≤ 281474976710656 := by rw [hb]; omega
    rwa [Int.natCast_mul] at h
  have hr := run_make (P := P) w t e i z ht hi hz kl kc n n (by omega) (Int.le_refl _) hb' (by omega)
  simp only [Int.toNat_natCast, hs] at hr
  exact hr
theorem rowIs_mades (w : World) (z : Array Value) (n : Nat) (t : TypeId) (f : Nat → Value) (h : ∀ i, z[i % z.size]! = f i) : (w.alloc (.cells (madeCells z n) t)).rowIs w.heap.size t n f := by
  have hr := World.rowIs_alloc w (madeCells z n) t f (fun i hi => by
    rw [size_madeCells] at hi
    simp only [madeCells, Array.getElem?_map, Array.getElem?_range, hi, if_true, Option.map_some]
    rw [h i])
  rw [size_madeCells] at hr
  exact hr

/-- 'string([]byte{c})'. -/
theorem conv1 {P : Program} (src dst e : TypeId) (m : Int) (h0 : 0 ≤ m) (h1 : m < 256) (hs : P.underlying src = some (.slice e)) (he : P.underlying e = some (.int .u8)) (hd : P.underlying dst = some .string)
    (w : World) (b : Nat) (hc : w.cell? ⟨b, 0, none⟩ = some (.int .u8 m)) :
    (convert src dst (.slice (some ⟨b, 0, none⟩) 1 1)).run P w = .ok (.string ⟨#[UInt8.ofNat m.toNat]⟩) w :=
  run_convert_bytes_back (P := P) w src dst e ⟨b, 0, none⟩ 1 [UInt8.ofNat m.toNat] hs he hd (fun j hj => by
    obtain rfl : j = 0 := by simpa using hj
    show w.cell? ⟨b, 0, none⟩ = some (.int .u8 ((UInt8.ofNat m.toNat).toNat : Int))
    rw [hc, UInt8.toNat_ofNat', Nat.mod_eq_of_lt (show m.toNat < 2 ^ 8 by omega)]
    congr 2
    omega)

/-- What szStringS reckons. -/
def szGo : List ByteArray → Int → Int
  | [], l => l
  | s :: r, l => if l - s.size < 0 then -1 else szGo r (l - s.size)
def szS (ss : List ByteArray) (left : Int) : Int := if left - ss.length < 0 then -1 else szGo ss (left - ss.length)

theorem szGo_drop (ss : List ByteArray) (k : Nat) (h : k < ss.length) (l : Int) : szGo (ss.drop k) l = if l - (ss.getD k ByteArray.empty).size < 0 then -1 else szGo (ss.drop (k + 1)) (l - (ss.getD k ByteArray.empty).size) := by
  rw [List.drop_eq_getElem_cons h, szGo]
  simp [h]
theorem szGo_le (ss : List ByteArray) (l : Int) : szGo ss l ≤ l ∨ szGo ss l = -1 := by
  induction ss generalizing l with
  | nil => left; simp [szGo]
  | cons s r ih =>
    rw [szGo]
    split
    · right; rfl
    · rcases ih (l - s.size) with h | h
      · left; omega
      · right; exact h
theorem szGo_sizes (ss : List ByteArray) (l : Int) (h : 0 ≤ szGo ss l) : ∀ s ∈ ss, (s.size : Int) ≤ l := by
  induction ss generalizing l with
  | nil => simp
  | cons s r ih =>
    rw [szGo] at h
    split at h
    · omega
    · intro t ht
      rcases List.mem_cons.1 ht with rfl | ht
      · rcases szGo_le r (l - t.size) with h' | h' <;> omega
      · have := ih _ h t ht; omega
theorem szS_len (ss : List ByteArray) (left : Int) (h : 0 ≤ szS ss left) : (ss.length : Int) ≤ left ∧ szS ss left = szGo ss (left - ss.length) := by
  unfold szS at h ⊢
  split at h
  · omega
  · rename_i h'
    rw [if_neg h']
    exact ⟨by omega, rfl⟩
theorem szS_bd (ss : List ByteArray) (left : Int) (h0 : 0 ≤ left) : -1 ≤ szS ss left ∧ szS ss left ≤ left := by
  have go : ∀ (ss : List ByteArray) (l : Int), 0 ≤ l → -1 ≤ szGo ss l ∧ szGo ss l ≤ l := by
    intro ss
    induction ss with
    | nil => intro l hl; simp [szGo]; omega
    | cons s r ih =>
      intro l hl
      rw [szGo]
      split
      · omega
      · have := ih (l - s.size) (by omega); omega
  unfold szS
  split
  · omega
  · have := go ss (left - ss.length) (by omega); omega
end Base
end Go.Proofs.YtkdcofmpbmiloaaGreatDoor
/-
  Items as plain data, and how a slice of them lies in memory. No Go function is spoken of here.
-/
namespace Go.Proofs.YtkdcofmpbmiloaaGreatDoor
namespace Items
open Go.RowKit Base

structure Itm where
  key : ByteArray
  flags : Int
  data : ByteArray
  upto : Int
  token : Int
def zero : Itm := ⟨ByteArray.empty, 0, ByteArray.empty, 0, 0⟩
theorem Itm.ext' {x y : Itm} (h1 : x.key = y.key) (h2 : x.flags = y.flags) (h3 : x.data = y.data) (h4 : x.upto = y.upto) (h5 : x.token = y.token) : x = y := by
  cases x; cases y; simp_all

/-- Five cells from a place on hold an item. -/
def At (w : World) (b o : Nat) (x : Itm) : Prop :=
  w.cell? ⟨b, o, none⟩ = some (.string x.key) ∧ w.cell? ⟨b, o + 1, none⟩ = some (.int .i64 x.flags) ∧ w.cell? ⟨b, o + 2, none⟩ = some (.string x.data) ∧
  w.cell? ⟨b, o + 3, none⟩ = some (.int .i64 x.upto) ∧ w.cell? ⟨b, o + 4, none⟩ = some (.int .i64 x.token)
theorem At.below {w w' : World} {b o : Nat} {x : Itm} {B : Nat} (h : At w b o x) (hb : Below B w w') (hB : b < B) : At w' b o x := by
  obtain ⟨h0, h1, h2, h3, h4⟩ := h
  refine ⟨?_, ?_, ?_, ?_, ?_⟩
  · rw [hb.cell (p := ⟨b, o, none⟩) hB]; exact h0
  · rw [hb.cell (p := ⟨b, o + 1, none⟩) hB]; exact h1
  · rw [hb.cell (p := ⟨b, o + 2, none⟩) hB]; exact h2
  · rw [hb.cell (p := ⟨b, o + 3, none⟩) hB]; exact h3
  · rw [hb.cell (p := ⟨b, o + 4, none⟩) hB]; exact h4
/-- A slice of items that lies in memory. -/
def ItemsAt (w : World) (a : Option Addr) (its : List Itm) : Prop :=
  its ≠ [] → ∃ b off, a = some ⟨b, off, none⟩ ∧ b < w.heap.size ∧ ∀ i, i < its.length → At w b (off + i * 5) (its.getD i zero)
theorem ItemsAt.below {w w' : World} {a : Option Addr} {its : List Itm} {B : Nat} (h : ItemsAt w a its) (hb : Below B w w') (hB : w.heap.size ≤ B) : ItemsAt w' a its := by
  intro hne
  obtain ⟨b, off, ha, hlt, hc⟩ := h hne
  exact ⟨b, off, ha, Nat.lt_of_lt_of_le hlt hb.size, fun i hi => (hc i hi).below hb (Nat.lt_of_lt_of_le hlt hB)⟩

/-- The row of a list of items: cell j. -/
def icell (its : List Itm) (j : Nat) : Value :=
  if j % 5 = 0 then .string (its.getD (j / 5) zero).key else if j % 5 = 1 then .int .i64 (its.getD (j / 5) zero).flags else
  if j % 5 = 2 then .string (its.getD (j / 5) zero).data else if j % 5 = 3 then .int .i64 (its.getD (j / 5) zero).upto else .int .i64 (its.getD (j / 5) zero).token
def half (its : List Itm) (k j : Nat) : Value := if j < k * 5 then icell its j else icell [] j
theorem half_step (its : List Itm) (k : Nat) (j : Nat) :
    (if j = k * 5 + 4 then Value.int .i64 (its.getD k zero).token else if j = k * 5 + 3 then .int .i64 (its.getD k zero).upto else if j = k * 5 + 2 then .string (its.getD k zero).data else
      if j = k * 5 + 1 then .int .i64 (its.getD k zero).flags else if j = k * 5 then .string (its.getD k zero).key else half its k j) = half its (k + 1) j := by
  unfold half
  by_cases h4 : j = k * 5 + 4
  · subst h4
    rw [if_pos rfl, if_pos (by omega), icell, show (k * 5 + 4) % 5 = 4 by omega, show (k * 5 + 4) / 5 = k by omega]
    simp
  rw [if_neg h4]
  by_cases h3 : j = k * 5 + 3
  · subst h3
    rw [if_pos rfl, if_pos (by omega), icell, show (k * 5 + 3) % 5 = 3 by omega, show (k * 5 + 3) / 5 = k by omega]
    simp
  rw [if_neg h3]
  by_cases h2 : j = k * 5 + 2
  · subst h2
    rw [if_pos rfl, if_pos (by omega), icell, show (k * 5 + 2) % 5 = 2 by omega, show (k * 5 + 2) / 5 = k by omega]
    simp
  rw [if_neg h2]
  by_cases h1 : j = k * 5 + 1
  · subst h1
    rw [if_pos rfl, if_pos (by omega), icell, show (k * 5 + 1) % 5 = 1 by omega, show (k * 5 + 1) / 5 = k by omega]
    simp
  rw [if_neg h1]
  by_cases h0 : j = k * 5
  · subst h0
    rw [if_pos rfl, if_pos (by omega), icell, show (k * 5) % 5 = 0 by omega, show (k * 5) / 5 = k by omega]
    simp
  rw [if_neg h0]
  by_cases h : j < k * 5
  · rw [if_pos h, if_pos (by omega)]
  · rw [if_neg h, if_neg (by omega)]
theorem at_row {w : World} {b : Nat} {t : TypeId} {its : List Itm} (h : w.rowIs b t (its.length * 5) (icell its)) (i : Nat) (hi : i < its.length) : At w b (0 + i * 5) (its.getD i zero) := by
  rw [Nat.zero_add]
  refine ⟨?_, ?_, ?_, ?_, ?_⟩
  · rw [h.cell (by omega), icell, show (i * 5) % 5 = 0 by omega, show (i * 5) / 5 = i by omega]; simp
  · rw [h.cell (by omega), icell, show (i * 5 + 1) % 5 = 1 by omega, show (i * 5 + 1) / 5 = i by omega]; simp
  · rw [h.cell (by omega), icell, show (i * 5 + 2) % 5 = 2 by omega, show (i * 5 + 2) / 5 = i by omega]; simp
  · rw [h.cell (by omega), icell, show (i * 5 + 3) % 5 = 3 by omega, show (i * 5 + 3) / 5 = i by omega]; simp
  · rw [h.cell (by omega), icell, show (i * 5 + 4) % 5 = 4 by omega, show (i * 5 + 4) / 5 = i by omega]; simp
theorem ItemsAt.row {w : World} {b : Nat} {t : TypeId} {its : List Itm} (h : w.rowIs b t (its.length * 5) (icell its)) : ItemsAt w (some ⟨b, 0, none⟩) its :=
  fun _ => ⟨b, 0, rfl, h.lt, at_row h⟩

theorem made_zero (i : Nat) : (#[Value.string ByteArray.empty, .int .i64 0, .string ByteArray.empty, .int .i64 0, .int .i64 0] : Array Value)[i % 5]! = icell [] i := by
  have h : i % 5 < 5 := Nat.mod_lt _ (by omega)
  unfold icell
  generalize i % 5 = m at h
  obtain rfl | rfl | rfl | rfl | rfl : m = 0 ∨ m = 1 ∨ m = 2 ∨ m = 3 ∨ m = 4 := by omega
  all_goals simp [zero]

/-- What szItem and szItemS reckon. -/
def szI (x : Itm) (left : Int) : Int := if left - x.key.size < 0 then -1 else if left - x.key.size - x.data.size < 0 then -1 else left - x.key.size - x.data.size
def szGo : List Itm → Int → Int
  | [], l => l
  | x :: r, l => if szI x l < 0 then -1 else szGo r (szI x l)
def szIs (its : List Itm) (left : Int) : Int := if left - its.length < 0 then -1 else szGo its (left - its.length)
theorem szI_bd (x : Itm) (l : Int) (h : 0 ≤ l) : -1 ≤ szI x l ∧ szI x l ≤ l := by
  unfold szI
  repeat' split
  all_goals omega
theorem szGo_drop (its : List Itm) (k : Nat) (h : k < its.length) (l : Int) : szGo (its.drop k) l = if szI (its.getD k zero) l < 0 then -1 else szGo (its.drop (k + 1)) (szI (its.getD k zero) l) := by
  rw [List.drop_eq_getElem_cons h, szGo]
  simp [h]
theorem szGo_bd (its : List Itm) (l : Int) (h : 0 ≤ l) : -1 ≤ szGo its l ∧ szGo its l ≤ l := by
  induction its generalizing l with
  | nil => simp [szGo]; omega
  | cons x r ih =>
    have := szI_bd x l h
    rw [szGo]
    split
    · omega
    · have := ih (szI x l) (by omega); omega
theorem szIs_bd (its : List Itm) (left : Int) (h0 : 0 ≤ left) : -1 ≤ szIs its left ∧ szIs its left ≤ left := by
  unfold szIs
  split
  · omega
  · have := szGo_bd its (left - its.length) (by omega); omega
theorem szIs_len {its : List Itm} {left : Int} (h : ¬ szIs its left < 0) : (its.length : Int) ≤ left := by
  unfold szIs at h
  split at h <;> omega

/-- What an item and a list of them must be to be handed in. -/
def Fits (x : Itm) : Prop := x.key.size ≤ maxLen ∧ x.data.size ≤ maxLen
theorem fits_getD {its : List Itm} (h : ∀ x ∈ its, Fits x) (k : Nat) (hk : k < its.length) : Fits (its.getD k zero) := by
  rw [List.getD_eq_getElem?_getD, List.getElem?_eq_getElem hk]
  exact h _ (List.getElem_mem _)
end Items
end Go.Proofs.YtkdcofmpbmiloaaGreatDoor
/-
  The contract of the model's l1In; what a good key is, as a plain function of its bytes.
-/
namespace Go.Proofs.YtkdcofmpbmiloaaGreatDoor
namespace GoodKey
open Go.RowKit Base
set_option linter.unusedVariables false

def okb (c : UInt8) : Bool := decide (33 ≤ c.toNat) && decide (c.toNat ≤ 126)
def inB (n lo hi : Int) : Bool := decide (lo ≤ n) && decide (n ≤ hi)
def gk (l : List UInt8) : Bool := inB l.length 1 30 && l.all okb

theorem take_snoc (s : ByteArray) (k : Nat) (h : k < s.size) : s.data.toList.take (k + 1) = s.data.toList.take k ++ [s[k]] := by
  rw [List.take_succ_eq_append_getElem (by simpa using h)]; rfl
theorem all_snoc (s : ByteArray) (k : Nat) (h : k < s.size) (ha : (s.data.toList.take k).all okb = true) (h1 : ¬ (s[k].toNat : Int) < 33) (h2 : ¬ 126 < (s[k].toNat : Int)) :
    (s.data.toList.take (k + 1)).all okb = true := by
  rw [take_snoc s k h, List.all_append, ha]
  simp [okb]; omega
theorem gk_bad (s : ByteArray) (k : Nat) (h : k < s.size) (hb : (s[k].toNat : Int) < 33 ∨ 126 < (s[k].toNat : Int)) : gk s.data.toList = false := by
  have hm : s[k] ∈ s.data.toList := by
    have e : s[k] = s.data.toList[k]'(by simpa using h) := rfl
    rw [e]; exact List.getElem_mem _
  have ho : okb s[k] = false := by simp [okb]; omega
  have ha : s.data.toList.all okb = false := by
    rw [List.all_eq_false]; exact ⟨_, hm, by simp [ho]⟩
  simp [gk, ha]
theorem gk_all (s : ByteArray) (k : Nat) (hk : k ≤ s.size) (h : ¬ k < s.size) (ha : (s.data.toList.take k).all okb = true) : inB s.size 1 30 = gk s.data.toList := by
  have e : s.data.toList.take k = s.data.toList := List.take_of_length_le (by simp; omega)
  rw [e] at ha
  have el : s.data.toList.length = s.size := by simp
  simp [gk, ha, el]
theorem gk_len (s : ByteArray) (h : (s.size : Int) < 1 ∨ 30 < (s.size : Int)) : gk s.data.toList = false := by
  have el : s.data.toList.length = s.size := by simp
  have e : inB s.size 1 30 = false := by simp [inB]; omega
  simp [gk, el, e]
theorem inB_true (s : ByteArray) (h1 : ¬ (s.size : Int) < 1) (h2 : ¬ 30 < (s.size : Int)) : inB s.size 1 30 = true := by simp [inB]; omega

set_option maxHeartbeats 400000 in
theorem l1In_any (n lo hi : Int) (w : World) :
    Calls Tryz.prog 49 #[.int .i64 n, .int .i64 lo, .int .i64 hi] w fun e w' => e = .returned (.bool (inB n lo hi)) ∧ w' = w := by
  by_cases h : lo ≤ n
  · go_enter Tryz.func49, Tryz.ntmps49
    go_wp2
    go_ret
    exact ⟨ret_bool (by simp [inB, h]), rfl⟩
  · go_enter Tryz.func49, Tryz.ntmps49
    go_wp2
    go_ret
    exact ⟨ret_bool (by rw [inB, decide_eq_false (by omega)]; rfl), rfl⟩

end GoodKey
end Go.Proofs.YtkdcofmpbmiloaaGreatDoor
/-
  The contract of the model's GoodKey: it answers by a plain function of the bytes, for every string.
-/
namespace Go.Proofs.YtkdcofmpbmiloaaGreatDoor
namespace GoodKey
open Go.RowKit Base
set_option linter.unusedVariables false

set_option maxHeartbeats 400000 in
theorem spec_any (s : ByteArray) (w : World) (hs : s.size ≤ maxLen) :
    Calls Tryz.prog 52 #[.string s] w fun e w' => e = .returned (.bool (gk s.data.toList)) ∧ w' = w := by
  unfold maxLen at hs
  go_enter Tryz.func52, Tryz.ntmps52
  go_wp2
  go_loop [3] (fun i => ∃ k : Nat, k ≤ s.size ∧ i = .int .i64 k ∧ Hid ((s.data.toList.take k).all okb = true)) (fun i => s.size - (intOf i).toNat)
  case atStart => exact ⟨0, Nat.zero_le _, rfl, hide rfl⟩
  case round =>
    obtain ⟨k, hk, rfl, ha⟩ := hrel
    by_cases hlt : k < s.size
    · by_cases h1 : (s[k].toNat : Int) < 33
      · have H := hide (gk_bad s k hlt (.inl h1))
        go_wp2
        go_ret
        exact ⟨ret_bool (unhide H).symm, rfl⟩
      · by_cases h2 : 126 < (s[k].toNat : Int)
        · have H := hide (gk_bad s k hlt (.inr h2))
          go_wp2
          go_ret
          exact ⟨ret_bool (unhide H).symm, rfl⟩
        · have H := hide (all_snoc s k hlt (unhide ha) h1 h2)
          go_wp2
          go_round
          case rel => exact ⟨k + 1, by omega, by go_num, H⟩
          case measure => simp [intOf]; omega
    · have H := hide (gk_all s k hk hlt (unhide ha))
      go_wp2_with (go_at_call 49; refine (l1In_any _ _ _ _).mono ?_; rintro e w' ⟨rfl, rfl⟩)
      go_ret
      exact ⟨ret_bool (unhide H), rfl⟩

end GoodKey
end Go.Proofs.YtkdcofmpbmiloaaGreatDoor
/-
  What a good store is, as a plain function of its fields, and the charges of items. No Go function is spoken of here.
-/
namespace Go.Proofs.YtkdcofmpbmiloaaGreatDoor
namespace Store
open Go.RowKit Base GoodKey Items

def itemB (x : Itm) : Bool := gk x.key.data.toList && inB x.flags 0 1000000000 && decide ((x.data.size : Int) ≤ 100) && inB x.upto 0 2000000000 && inB x.token 1 1000000000
theorem item_1 {x : Itm} (h : ¬ gk x.key.data.toList = true) : false = itemB x := by simp [itemB, h]
theorem item_2 {x : Itm} (h : ¬ inB x.flags 0 1000000000 = true) : false = itemB x := by simp [itemB, h]
theorem item_3 {x : Itm} (h : ¬ (x.data.size : Int) ≤ 100) : false = itemB x := by
  unfold itemB; rw [decide_eq_false h]; simp
theorem item_4 {x : Itm} (h : ¬ inB x.upto 0 2000000000 = true) : false = itemB x := by simp [itemB, h]
theorem item_5 {x : Itm} (h1 : gk x.key.data.toList = true) (h2 : inB x.flags 0 1000000000 = true) (h3 : (x.data.size : Int) ≤ 100) (h4 : inB x.upto 0 2000000000 = true) : inB x.token 1 1000000000 = itemB x := by
  unfold itemB; rw [h1, h2, h4, decide_eq_true h3]; simp

def charge (x : Itm) : Int := x.key.size + x.data.size + 10
def total : List Itm → Int
  | [] => 0
  | x :: r => charge x + total r
theorem total_append (a b : List Itm) : total (a ++ b) = total a + total b := by
  induction a with
  | nil => simp [total]
  | cons x r ih => simp only [List.cons_append, total, ih]; omega
theorem total_step (its : List Itm) (k : Nat) (h : k < its.length) : total (its.take (k + 1)) = total (its.take k) + charge (its.getD k zero) := by
  rw [List.take_succ_eq_append_getElem h, total_append]
  simp [total, List.getD_eq_getElem?_getD, List.getElem?_eq_getElem h]
/-- Small items: what l2All may be asked of without a wrap. -/
def Small (x : Itm) : Prop := x.key.size ≤ 1048576 ∧ x.data.size ≤ 1048576
theorem small_getD {its : List Itm} (h : ∀ x ∈ its, Small x) (k : Nat) (hk : k < its.length) : Small (its.getD k zero) := by
  rw [List.getD_eq_getElem?_getD, List.getElem?_eq_getElem hk]
  exact h _ (List.getElem_mem _)
theorem total_bd (its : List Itm) (h : ∀ x ∈ its, Small x) : 0 ≤ total its ∧ total its ≤ its.length * 2097162 := by
  induction its with
  | nil => simp [total]
  | cons x r ih =>
    have h1 := h x (by simp)
    have h2 := ih (fun y hy => h y (by simp [hy]))
    unfold Small at h1
    simp only [total, charge, List.length_cons]
    omega

def clash (o x : Itm) : Bool := (o.key.toList == x.key.toList) || (o.token == x.token)
def freshB (x : Itm) (l : List Itm) : Bool := l.all (fun o => !clash o x)
def stepB (nx : Int) (its : List Itm) (i : Nat) : Bool := itemB (its.getD i zero) && decide ((its.getD i zero).token < nx) && freshB (its.getD i zero) (its.take i)
def goodTo (nx : Int) (its : List Itm) (k : Nat) : Bool := (List.range k).all (stepB nx its)
def gsB (lim nx : Int) (its : List Itm) : Bool := inB lim 0 10000 && inB nx 1 1000000000 && decide ((its.length : Int) ≤ 60) && goodTo nx its its.length && decide (total its ≤ lim)
theorem gs_1 {lim nx : Int} {its : List Itm} (h : ¬ inB lim 0 10000 = true) : gsB lim nx its = false := by simp [gsB, h]
theorem gs_2 {lim nx : Int} {its : List Itm} (h : ¬ inB nx 1 1000000000 = true) : gsB lim nx its = false := by simp [gsB, h]
theorem gs_3 {lim nx : Int} {its : List Itm} (h : 60 < (its.length : Int)) : gsB lim nx its = false := by
  unfold gsB; rw [decide_eq_false (show ¬ (its.length : Int) ≤ 60 by omega)]; simp
theorem goodTo_step {nx : Int} {its : List Itm} {k : Nat} (h : goodTo nx its k = true) (hs : stepB nx its k = true) : goodTo nx its (k + 1) = true := by
  unfold goodTo at *
  rw [List.range_succ, List.all_append, h]
  simp [hs]
theorem goodTo_bad {nx : Int} {its : List Itm} {k : Nat} (hk : k < its.length) (hs : stepB nx its k = false) : goodTo nx its its.length = false := by
  unfold goodTo
  rw [List.all_eq_false]
  exact ⟨k, by simpa using hk, by simp [hs]⟩
theorem gs_4 {lim nx : Int} {its : List Itm} {k : Nat} (hk : k < its.length) (hs : stepB nx its k = false) : gsB lim nx its = false := by
  unfold gsB; rw [goodTo_bad hk hs]; simp
theorem gs_5 {lim nx : Int} {its : List Itm} (h1 : inB lim 0 10000 = true) (h2 : inB nx 1 1000000000 = true) (h3 : ¬ 60 < (its.length : Int)) (h4 : goodTo nx its its.length = true) : decide (total its ≤ lim) = gsB lim nx its := by
  unfold gsB; rw [h1, h2, h4, decide_eq_true (show (its.length : Int) ≤ 60 by omega)]; simp
theorem step_1 {nx : Int} {its : List Itm} {k : Nat} (h : itemB (its.getD k zero) = false) : stepB nx its k = false := by simp only [stepB, h, Bool.false_and]
theorem step_2 {nx : Int} {its : List Itm} {k : Nat} (h : nx ≤ (its.getD k zero).token) : stepB nx its k = false := by
  unfold stepB; rw [decide_eq_false (show ¬ (its.getD k zero).token < nx by omega)]; simp
theorem step_3 {nx : Int} {its : List Itm} {k : Nat} (h : freshB (its.getD k zero) (its.take k) = false) : stepB nx its k = false := by simp only [stepB, h, Bool.and_false]
theorem step_4 {nx : Int} {its : List Itm} {k : Nat} (h1 : itemB (its.getD k zero) = true) (h2 : ¬ nx ≤ (its.getD k zero).token) (h3 : freshB (its.getD k zero) (its.take k) = true) : stepB nx its k = true := by
  simp only [stepB, h1, h3, decide_eq_true (show (its.getD k zero).token < nx by omega)]; rfl
theorem fresh_step {x : Itm} {its : List Itm} {j : Nat} (hj : j < its.length) (h : freshB x (its.take j) = true) (hc : clash (its.getD j zero) x = false) : freshB x (its.take (j + 1)) = true := by
  unfold freshB at *
  rw [List.take_succ_eq_append_getElem hj, List.all_append, h]
  simp [List.getD_eq_getElem?_getD, List.getElem?_eq_getElem hj] at hc
  simp [hc]
theorem fresh_bad {x : Itm} {its : List Itm} {j k : Nat} (hjk : j < k) (hk : k ≤ its.length) (hc : clash (its.getD j zero) x = true) : freshB x (its.take k) = false := by
  unfold freshB
  rw [List.all_eq_false]
  refine ⟨its[j]'(by omega), ?_, ?_⟩
  · rw [List.mem_take_iff_getElem]
    exact ⟨j, by omega, rfl⟩
  · simp [List.getD_eq_getElem?_getD, List.getElem?_eq_getElem (show j < its.length by omega)] at hc
    simp [hc]
theorem good_small {nx : Int} {its : List Itm} (h : goodTo nx its its.length = true) : ∀ x ∈ its, Small x := by
  intro x hx
  obtain ⟨i, hi, rfl⟩ := List.getElem_of_mem hx
  unfold goodTo at h
  rw [List.all_eq_true] at h
  have := h i (by simpa using hi)
  simp only [stepB, itemB, gk, inB, List.getD_eq_getElem?_getD, List.getElem?_eq_getElem hi, Option.getD_some, Bool.and_eq_true, decide_eq_true_eq] at this
  have el : its[i].key.data.toList.length = its[i].key.size := by simp
  unfold Small
  omega
end Store
end Go.Proofs.YtkdcofmpbmiloaaGreatDoor
/-
  The contract of the model's l1Number, for every int.
-/
namespace Go.Proofs.YtkdcofmpbmiloaaGreatDoor
namespace Num
open Go.RowKit Base GoodKey

set_option maxHeartbeats 400000 in
theorem number_any (n : Int) (w : World) :
    Calls Tryz.prog 53 #[.int .i64 n] w fun e w' => e = .returned (.bool (inB n 0 1000000000)) ∧ w' = w := by
  go_enter Tryz.func53, Tryz.ntmps53
  go_wp2_with (go_at_call 49; refine (l1In_any _ _ _ _).mono ?_; rintro e w' ⟨rfl, rfl⟩)
  go_ret
  exact ⟨rfl, rfl⟩
end Num
end Go.Proofs.YtkdcofmpbmiloaaGreatDoor
