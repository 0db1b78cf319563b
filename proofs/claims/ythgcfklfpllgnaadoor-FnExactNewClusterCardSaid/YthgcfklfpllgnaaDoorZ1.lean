/-
  Small laws of my own that the other texts use: no Go function is spoken of here.
-/
import Derived.WalkKit
import Derived.ProofKit
import Derived.Deep.OwnRows
import Derived.Deep.Draws
import Derived.Lib.Strings
import Derived.Laws.IdiomStrings
import Derived.WideShapes
namespace Go.Proofs.YthgcfklfpllgnaaDoor
namespace Base
open Go.RowKit

theorem hide {p : Prop} (h : p) : Hid p := h
theorem unhide {p : Prop} (h : Hid p) : p := h
theorem ret_bool {a b : Bool} (h : a = b) : Ending.returned (.bool a) = .returned (.bool b) := by rw [h]
theorem ret_int {k : IntKind} {a b : Int} (h : a = b) : Ending.returned (.int k a) = .returned (.int k b) := by rw [h]
theorem ret_str {a b : ByteArray} (h : a = b) : Ending.returned (.string a) = .returned (.string b) := by rw [h]

theorem str_ne {s t : ByteArray} (h : s ≠ t) : (s.toList == t.toList) = false := by
  rw [Lib.toList_data, Lib.toList_data]
  simp only [beq_eq_false_iff_ne]
  intro e
  exact h (Go.WideShapes.bytes_inj e)
theorem str_eq {s t : ByteArray} (h : s = t) : (s.toList == t.toList) = true := by rw [h]; simp

/-- A slice of strings that lies in memory: where it has an element it leads to the row of its elements' cells. -/
def StrsAt (w : World) (a : Option Addr) (ss : List ByteArray) : Prop :=
  ss ≠ [] → ∃ b off, a = some ⟨b, off, none⟩ ∧ b < w.heap.size ∧ ∀ i, i < ss.length → w.cell? ⟨b, off + i, none⟩ = some (.string (ss.getD i ByteArray.empty))

theorem StrsAt.below {w w' : World} {a : Option Addr} {ss : List ByteArray} {B : Nat} (h : StrsAt w a ss) (hb : Below B w w') (hB : w.heap.size ≤ B) : StrsAt w' a ss := by
  intro hne
  obtain ⟨b, off, ha, hlt, hc⟩ := h hne
  refine ⟨b, off, ha, Nat.lt_of_lt_of_le hlt hb.size, fun i hi => ?_⟩
  rw [hb.cell (p := ⟨b, off + i, none⟩) (Nat.lt_of_lt_of_le hlt hB)]
  exact hc i hi

theorem StrsAt.row {w : World} {b : Nat} {t : TypeId} {ss : List ByteArray} (h : w.rowIs b t ss.length (fun i => .string (ss.getD i ByteArray.empty))) : StrsAt w (some ⟨b, 0, none⟩) ss := by
  intro _
  refine ⟨b, 0, rfl, h.lt, fun i hi => ?_⟩
  rw [Nat.zero_add]
  exact h.cell hi

theorem bel1 (w : World) (o1 : Obj) : Below w.heap.size w (w.alloc o1) := (Below.refl _ _).alloc (Nat.le_refl _) o1
theorem bel2 (w : World) (o1 o2 : Obj) : Below w.heap.size w ((w.alloc o1).alloc o2) := (bel1 w o1).alloc (by simp) o2
theorem bel3 (w : World) (o1 o2 o3 : Obj) : Below w.heap.size w (((w.alloc o1).alloc o2).alloc o3) := (bel2 w o1 o2).alloc (by simp; omega) o3
theorem bel_draws {B : Nat} {a w : World} (h : Below B a w) (n : Nat) : Below B a (w.drewN n) := h.trans ⟨rfl, rfl, rfl, Nat.le_refl _, fun _ _ => rfl⟩
theorem bcell {W w1 : World} {B : Nat} (hb : Below B W w1) (hB : W.heap.size ≤ B) : (∀ b o, b < W.heap.size → w1.cell? ⟨b, o, none⟩ = W.cell? ⟨b, o, none⟩) ∧ (∀ b o, b < W.heap.size → w1.frozen? ⟨b, o, none⟩ = W.frozen? ⟨b, o, none⟩) :=
  ⟨fun b o h => hb.cell (p := ⟨b, o, none⟩) (Nat.lt_of_lt_of_le h hB), fun b o h => hb.frozen (p := ⟨b, o, none⟩) (Nat.lt_of_lt_of_le h hB)⟩

/-- The call's own box, its first new block, reads on as it was laid while nothing below its end turns. -/
theorem boxcell {w w1 : World} {A : Obj} (hb : Below (w.heap.size + 1) (w.alloc A) w1) : ∀ o, w1.cell? ⟨w.heap.size, o, none⟩ = (w.alloc A).cell? ⟨w.heap.size, o, none⟩ :=
  fun o => hb.cell (p := ⟨w.heap.size, o, none⟩) (Nat.lt_succ_self _)

/-- 'make([]T, n)', n a variable, T of several cells. -/
theorem run_make_rows {P : Program} (t e : TypeId) (z : Value) (sz bytes : Nat) (ht : P.underlying t = some (.slice e)) (hinfo : (P.info? e).map (fun i => (i.zero, i.size, i.bytes)) = some (some z, sz, bytes))
    (kl kc : IntKind) (n : Nat) (hbytes : bytes * n ≤ 281474976710656) (h63 : n ≤ 9223372036854775807) (w : World) :
    (Instr.makeSlice t (.int kl (n : Int)) (.int kc (n : Int))).run P w = .ok (.slice (some ⟨w.heap.size, 0, none⟩) n n) (w.alloc (.cells (madeCells z.cells (n * sz)) e)) := by
  obtain ⟨i, hi, hzz⟩ := Option.map_eq_some_iff.1 hinfo
  simp only [Prod.mk.injEq] at hzz
  obtain ⟨hz, hs, hb⟩ := hzz
  have hb' : (i.bytes : Int) * (n : Int) ≤ 281474976710656 := by
    have h : ((i.bytes * n : Nat) : Int) ≤ 281474976710656 := by rw [hb]; omega
    rwa [Int.natCast_mul] at h
  have hr := run_make (P := P) w t e i z ht hi hz kl kc n n (by omega) (Int.le_refl _) hb' (by omega)
  simp only [Int.toNat_natCast, hs] at hr
  exact hr
theorem rowIs_mades (w : World) (z : Array Value) (n : Nat) (t : TypeId) (f : Nat → Value) (h : ∀ i, z[i % z.size]! = f i) : (w.alloc (.cells (madeCells z n) t)).rowIs w.heap.size t n f := by
  have hr := World.rowIs_alloc w (madeCells z n) t f (fun i hi => by
    rw [size_madeCells] at hi
    simp only [madeCells, Array.getElem?_map, Array.getElem?_range, hi, if_true, Option.map_some]
    rw [h i])
  rw [size_madeCells] at hr
  exact hr

/-- 'string([]byte{c})'. -/
theorem conv1 {P : Program} (src dst e : TypeId) (m : Int) (h0 : 0 ≤ m) (h1 : m < 256) (hs : P.underlying src = some (.slice e)) (he : P.underlying e = some (.int .u8)) (hd : P.underlying dst = some .string)
    (w : World) (b : Nat) (hc : w.cell? ⟨b, 0, none⟩ = some (.int .u8 m)) :
    (convert src dst (.slice (some ⟨b, 0, none⟩) 1 1)).run P w = .ok (.string ⟨#[UInt8.ofNat m.toNat]⟩) w :=
  run_convert_bytes_back (P := P) w src dst e ⟨b, 0, none⟩ 1 [UInt8.ofNat m.toNat] hs he hd (fun j hj => by
    obtain rfl : j = 0 := by simpa using hj
    show w.cell? ⟨b, 0, none⟩ = some (.int .u8 ((UInt8.ofNat m.toNat).toNat : Int))
    rw [hc, UInt8.toNat_ofNat', Nat.mod_eq_of_lt (show m.toNat < 2 ^ 8 by omega)]
    congr 2
    omega)

/-- What szStringS reckons. -/
def szGo : List ByteArray → Int → Int
  | [], l => l
  | s :: r, l => if l - s.size < 0 then -1 else szGo r (l - s.size)
def szS (ss : List ByteArray) (left : Int) : Int := if left - ss.length < 0 then -1 else szGo ss (left - ss.length)

theorem szGo_drop (ss : List ByteArray) (k : Nat) (h : k < ss.length) (l : Int) : szGo (ss.drop k) l = if l - (ss.getD k ByteArray.empty).size < 0 then -1 else szGo (ss.drop (k + 1)) (l - (ss.getD k ByteArray.empty).size) := by
  rw [List.drop_eq_getElem_cons h, szGo]
  simp [h]
theorem szGo_le (ss : List ByteArray) (l : Int) : szGo ss l ≤ l ∨ szGo ss l = -1 := by
  induction ss generalizing l with
  | nil => left; simp [szGo]
  | cons s r ih =>
    rw [szGo]
    split
    · right; rfl
    · rcases ih (l - s.size) with h | h
      · left; omega
      · right; exact h
theorem szGo_sizes (ss : List ByteArray) (l : Int) (h : 0 ≤ szGo ss l) : ∀ s ∈ ss, (s.size : Int) ≤ l := by
  induction ss generalizing l with
  | nil => simp
  | cons s r ih =>
    rw [szGo] at h
    split at h
    · omega
    · intro t ht
      rcases List.mem_cons.1 ht with rfl | ht
      · rcases szGo_le r (l - t.size) with h' | h' <;> omega
      · have := ih _ h t ht; omega
theorem szS_len (ss : List ByteArray) (left : Int) (h : 0 ≤ szS ss left) : (ss.length : Int) ≤ left ∧ szS ss left = szGo ss (left - ss.length) := by
  unfold szS at h ⊢
  split at h
  · omega
  · rename_i h'
    rw [if_neg h']
    exact ⟨by omega, rfl⟩
theorem szS_bd (ss : List ByteArray) (left : Int) (h0 : 0 ≤ left) : -1 ≤ szS ss left ∧ szS ss left ≤ left := by
  have go : ∀ (ss : List ByteArray) (l : Int), 0 ≤ l → -1 ≤ szGo ss l ∧ szGo ss l ≤ l := by
    intro ss
    induction ss with
    | nil => intro l hl; simp [szGo]; omega
    | cons s r ih =>
      intro l hl
      rw [szGo]
      split
      · omega
      · have := ih (l - s.size) (by omega); omega
  unfold szS
  split
  · omega
  · have := go ss (left - ss.length) (by omega); omega
end Base
end Go.Proofs.YthgcfklfpllgnaaDoor
/-
  Items as plain data, and how a slice of them lies in memory. No Go function is spoken of here.
-/
namespace Go.Proofs.YthgcfklfpllgnaaDoor
namespace Items
open Go.RowKit Base

structure Itm where
  key : ByteArray
  flags : Int
  data : ByteArray
  upto : Int
  token : Int
def zero : Itm := ⟨ByteArray.empty, 0, ByteArray.empty, 0, 0⟩
theorem Itm.ext' {x y : Itm} (h1 : x.key = y.key) (h2 : x.flags = y.flags) (h3 : x.data = y.data) (h4 : x.upto = y.upto) (h5 : x.token = y.token) : x = y := by
  cases x; cases y; simp_all

/-- Five cells from a place on hold an item. -/
def At (w : World) (b o : Nat) (x : Itm) : Prop :=
  w.cell? ⟨b, o, none⟩ = some (.string x.key) ∧ w.cell? ⟨b, o + 1, none⟩ = some (.int .i64 x.flags) ∧ w.cell? ⟨b, o + 2, none⟩ = some (.string x.data) ∧
  w.cell? ⟨b, o + 3, none⟩ = some (.int .i64 x.upto) ∧ w.cell? ⟨b, o + 4, none⟩ = some (.int .i64 x.token)
theorem At.below {w w' : World} {b o : Nat} {x : Itm} {B : Nat} (h : At w b o x) (hb : Below B w w') (hB : b < B) : At w' b o x := by
  obtain ⟨h0, h1, h2, h3, h4⟩ := h
  refine ⟨?_, ?_, ?_, ?_, ?_⟩
  · rw [hb.cell (p := ⟨b, o, none⟩) hB]; exact h0
  · rw [hb.cell (p := ⟨b, o + 1, none⟩) hB]; exact h1
  · rw [hb.cell (p := ⟨b, o + 2, none⟩) hB]; exact h2
  · rw [hb.cell (p := ⟨b, o + 3, none⟩) hB]; exact h3
  · rw [hb.cell (p := ⟨b, o + 4, none⟩) hB]; exact h4
/-- A slice of items that lies in memory. -/
def ItemsAt (w : World) (a : Option Addr) (its : List Itm) : Prop :=
  its ≠ [] → ∃ b off, a = some ⟨b, off, none⟩ ∧ b < w.heap.size ∧ ∀ i, i < its.length → At w b (off + i * 5) (its.getD i zero)
theorem ItemsAt.below {w w' : World} {a : Option Addr} {its : List Itm} {B : Nat} (h : ItemsAt w a its) (hb : Below B w w') (hB : w.heap.size ≤ B) : ItemsAt w' a its := by
  intro hne
  obtain ⟨b, off, ha, hlt, hc⟩ := h hne
  exact ⟨b, off, ha, Nat.lt_of_lt_of_le hlt hb.size, fun i hi => (hc i hi).below hb (Nat.lt_of_lt_of_le hlt hB)⟩

/-- The row of a list of items: cell j. -/
def icell (its : List Itm) (j : Nat) : Value :=
  if j % 5 = 0 then .string (its.getD (j / 5) zero).key else if j % 5 = 1 then .int .i64 (its.getD (j / 5) zero).flags else
  if j % 5 = 2 then .string (its.getD (j / 5) zero).data else if j % 5 = 3 then .int .i64 (its.getD (j / 5) zero).upto else .int .i64 (its.getD (j / 5) zero).token
def half (its : List Itm) (k j : Nat) : Value := if j < k * 5 then icell its j else icell [] j
theorem half_step (its : List Itm) (k : Nat) (j : Nat) :
    (if j = k * 5 + 4 then Value.int .i64 (its.getD k zero).token else if j = k * 5 + 3 then .int .i64 (its.getD k zero).upto else if j = k * 5 + 2 then .string (its.getD k zero).data else
      if j = k * 5 + 1 then .int .i64 (its.getD k zero).flags else if j = k * 5 then .string (its.getD k zero).key else half its k j) = half its (k + 1) j := by
  unfold half
  by_cases h4 : j = k * 5 + 4
  · subst h4
    rw [if_pos rfl, if_pos (by omega), icell, show (k * 5 + 4) % 5 = 4 by omega, show (k * 5 + 4) / 5 = k by omega]
    simp
  rw [if_neg h4]
  by_cases h3 : j = k * 5 + 3
  · subst h3
    rw [if_pos rfl, if_pos (by omega), icell, show (k * 5 + 3) % 5 = 3 by omega, show (k * 5 + 3) / 5 = k by omega]
    simp
  rw [if_neg h3]
  by_cases h2 : j = k * 5 + 2
  · subst h2
    rw [if_pos rfl, if_pos (by omega), icell, show (k * 5 + 2) % 5 = 2 by omega, show (k * 5 + 2) / 5 = k by omega]
    simp
  rw [if_neg h2]
  by_cases h1 : j = k * 5 + 1
  · subst h1
    rw [if_pos rfl, if_pos (by omega), icell, show (k * 5 + 1) % 5 = 1 by omega, show (k * 5 + 1) / 5 = k by omega]
    simp
  rw [if_neg h1]
  by_cases h0 : j = k * 5
  · subst h0
    rw [if_pos rfl, if_pos (by omega), icell, show (k * 5) % 5 = 0 by omega, show (k * 5) / 5 = k by omega]
    simp
  rw [if_neg h0]
  by_cases h : j < k * 5
  · rw [if_pos h, if_pos (by omega)]
  · rw [if_neg h, if_neg (by omega)]
theorem at_row {w : World} {b : Nat} {t : TypeId} {its : List Itm} (h : w.rowIs b t (its.length * 5) (icell its)) (i : Nat) (hi : i < its.length) : At w b (0 + i * 5) (its.getD i zero) := by
  rw [Nat.zero_add]
  refine ⟨?_, ?_, ?_, ?_, ?_⟩
  · rw [h.cell (by omega), icell, show (i * 5) % 5 = 0 by omega, show (i * 5) / 5 = i by omega]; simp
  · rw [h.cell (by omega), icell, show (i * 5 + 1) % 5 = 1 by omega, show (i * 5 + 1) / 5 = i by omega]; simp
  · rw [h.cell (by omega), icell, show (i * 5 + 2) % 5 = 2 by omega, show (i * 5 + 2) / 5 = i by omega]; simp
  · rw [h.cell (by omega), icell, show (i * 5 + 3) % 5 = 3 by omega, show (i * 5 + 3) / 5 = i by omega]; simp
  · rw [h.cell (by omega), icell, show (i * 5 + 4) % 5 = 4 by omega, show (i * 5 + 4) / 5 = i by omega]; simp
theorem ItemsAt.row {w : World} {b : Nat} {t : TypeId} {its : List Itm} (h : w.rowIs b t (its.length * 5) (icell its)) : ItemsAt w (some ⟨b, 0, none⟩) its :=
  fun _ => ⟨b, 0, rfl, h.lt, at_row h⟩

theorem made_zero (i : Nat) : (#[Value.string ByteArray.empty, .int .i64 0, .string ByteArray.empty, .int .i64 0, .int .i64 0] : Array Value)[i % 5]! = icell [] i := by
  have h : i % 5 < 5 := Nat.mod_lt _ (by omega)
  unfold icell
  generalize i % 5 = m at h
  obtain rfl | rfl | rfl | rfl | rfl : m = 0 ∨ m = 1 ∨ m = 2 ∨ m = 3 ∨ m = 4 := by omega
  all_goals simp [zero]

/-- What szItem and szItemS reckon. -/
def szI (x : Itm) (left : Int) : Int := if left - x.key.size < 0 then -1 else if left - x.key.size - x.data.size < 0 then -1 else left - x.key.size - x.data.size
def szGo : List Itm → Int → Int
  | [], l => l
  | x :: r, l => if szI x l < 0 then -1 else szGo r (szI x l)
def szIs (its : List Itm) (left : Int) : Int := if left - its.length < 0 then -1 else szGo its (left - its.length)
theorem szI_bd (x : Itm) (l : Int) (h : 0 ≤ l) : -1 ≤ szI x l ∧ szI x l ≤ l := by
  unfold szI
  repeat' split
  all_goals omega
theorem szGo_drop (its : List Itm) (k : Nat) (h : k < its.length) (l : Int) : szGo (its.drop k) l = if szI (its.getD k zero) l < 0 then -1 else szGo (its.drop (k + 1)) (szI (its.getD k zero) l) := by
  rw [List.drop_eq_getElem_cons h, szGo]
  simp [h]
theorem szGo_bd (its : List Itm) (l : Int) (h : 0 ≤ l) : -1 ≤ szGo its l ∧ szGo its l ≤ l := by
  induction its generalizing l with
  | nil => simp [szGo]; omega
  | cons x r ih =>
    have := szI_bd x l h
    rw [szGo]
    split
    · omega
    · have := ih (szI x l) (by omega); omega
theorem szIs_bd (its : List Itm) (left : Int) (h0 : 0 ≤ left) : -1 ≤ szIs its left ∧ szIs its left ≤ left := by
  unfold szIs
  split
  · omega
  · have := szGo_bd its (left - its.length) (by omega); omega
theorem szIs_len {its : List Itm} {left : Int} (h : ¬ szIs its left < 0) : (its.length : Int) ≤ left := by
  unfold szIs at h
  split at h <;> omega

/-- What an item and a list of them must be to be handed in. -/
def Fits (x : Itm) : Prop := x.key.size ≤ maxLen ∧ x.data.size ≤ maxLen
theorem fits_getD {its : List Itm} (h : ∀ x ∈ its, Fits x) (k : Nat) (hk : k < its.length) : Fits (its.getD k zero) := by
  rw [List.getD_eq_getElem?_getD, List.getElem?_eq_getElem hk]
  exact h _ (List.getElem_mem _)
end Items
end Go.Proofs.YthgcfklfpllgnaaDoor
/-
  Plain data of a slice of places, and how it lies in memory. No Go function is spoken of here.
-/
namespace Go.Proofs.YthgcfklfpllgnaaDoor
namespace Pls
open Go.RowKit Base
set_option linter.unusedVariables false

structure Pl where
  name : ByteArray
  lim : Int
  nx : Int
  a : Option Addr
  cap : Nat
  its : List Items.Itm
structure Core where
  name : ByteArray
  lim : Int
  nx : Int
  its : List Items.Itm
def zeroL : Pl := ⟨ByteArray.empty, 0, 0, none, 0, []⟩
def zeroC : Core := ⟨ByteArray.empty, 0, 0, []⟩
def core (x : Pl) : Core := ⟨x.name, x.lim, x.nx, x.its⟩
def PlAt (w : World) (b o : Nat) (x : Pl) : Prop :=
  w.cell? ⟨b, o, none⟩ = some (.string x.name) ∧ w.cell? ⟨b, o + 1, none⟩ = some (.int .i64 x.lim) ∧ w.cell? ⟨b, o + 2, none⟩ = some (.int .i64 x.nx) ∧ w.cell? ⟨b, o + 3, none⟩ = some (.slice x.a x.its.length x.cap)
theorem PlAt.below {w w' : World} {b o : Nat} {x : Pl} {B : Nat} (h : PlAt w b o x) (hb : Below B w w') (hB : b < B) : PlAt w' b o x := by
  have e := fun o => hb.cell (p := ⟨b, o, none⟩) hB
  exact ⟨(e _).trans h.1, (e _).trans h.2.1, (e _).trans h.2.2.1, (e _).trans h.2.2.2⟩
def LsAt (w : World) (a : Option Addr) (L : List Pl) : Prop :=
  L ≠ [] → ∃ b off, a = some ⟨b, off, none⟩ ∧ b < w.heap.size ∧ ∀ i, i < L.length → PlAt w b (off + i * 4) (L.getD i zeroL) ∧ Items.ItemsAt w (L.getD i zeroL).a (L.getD i zeroL).its
theorem LsAt.below {w w' : World} {a : Option Addr} {L : List Pl} {B : Nat} (h : LsAt w a L) (hb : Below B w w') (hB : w.heap.size ≤ B) : LsAt w' a L := by
  intro hne
  obtain ⟨b, off, ha, hlt, hc⟩ := h hne
  exact ⟨b, off, ha, Nat.lt_of_lt_of_le hlt hb.size, fun i hi => ⟨(hc i hi).1.below hb (Nat.lt_of_lt_of_le hlt hB), (hc i hi).2.below hb hB⟩⟩
/-- What can be handed in. -/
def Fits (x : Pl) : Prop := x.name.size ≤ maxLen ∧ x.its.length ≤ x.cap ∧ x.its.length ≤ maxLen ∧ ∀ y ∈ x.its, Items.Fits y
/-- The block that holds a place's items. -/
def blk (x : Pl) : Nat := match x.a with | some p => p.block | none => 0
/-- A place that a call has laid itself: its items have a block of their own. -/
def Str (w : World) (x : Pl) : Prop := x.a = some ⟨blk x, 0, none⟩ ∧ w.rowIs (blk x) 92 (x.its.length * 5) (Items.icell x.its) ∧ x.cap = x.its.length
theorem Str.lt {w : World} {x : Pl} (h : Str w x) : blk x < w.heap.size := h.2.1.lt
theorem Str.block {w w' : World} {x : Pl} (h : Str w x) (e : w'.heap[blk x]? = w.heap[blk x]?) : Str w' x := ⟨h.1, h.2.1.of_block e, h.2.2⟩
theorem Str.below {w w' : World} {x : Pl} {B : Nat} (h : Str w x) (hb : Below B w w') (hB : w.heap.size ≤ B) : Str w' x := h.block (hb.block _ (Nat.lt_of_lt_of_le h.lt hB))
theorem Str.set {w : World} {x : Pl} {p : Addr} (h : Str w x) (hne : blk x ≠ p.block) (v : Value) : Str (w.setCell p v) x := h.block (Below.heap_setCell _ _ _ _ hne)
theorem Str.items {w : World} {x : Pl} (h : Str w x) : Items.ItemsAt w x.a x.its := by rw [h.1]; exact Items.ItemsAt.row h.2.1

/-- Cell j of a row of places. -/
def lcell (L : List Pl) (j : Nat) : Value :=
  if j % 4 = 0 then .string (L.getD (j / 4) zeroL).name else if j % 4 = 1 then .int .i64 (L.getD (j / 4) zeroL).lim else if j % 4 = 2 then .int .i64 (L.getD (j / 4) zeroL).nx else .slice (L.getD (j / 4) zeroL).a (L.getD (j / 4) zeroL).its.length (L.getD (j / 4) zeroL).cap
theorem getD_snoc (L : List Pl) (x : Pl) (i : Nat) : (L ++ [x]).getD i zeroL = if i = L.length then x else L.getD i zeroL := by
  simp only [List.getD_eq_getElem?_getD]
  rcases Nat.lt_trichotomy i L.length with h | h | h
  · rw [if_neg (by omega), List.getElem?_append_left h]
  · rw [if_pos h, h]; simp
  · rw [if_neg (by omega), List.getElem?_append_right (by omega), List.getElem?_eq_none (by simp; omega), List.getElem?_eq_none (by omega)]
theorem lcell_snoc (L : List Pl) (x : Pl) (k j : Nat) (hk : L.length = k) : (if j = k * 4 + 3 then (.slice x.a x.its.length x.cap : Value) else if j = k * 4 + 2 then (.int .i64 x.nx : Value) else if j = k * 4 + 1 then (.int .i64 x.lim : Value) else if j = k * 4 then (.string x.name : Value) else lcell L j) = lcell (L ++ [x]) j := by
  subst hk
  unfold lcell
  rw [getD_snoc]
  have hm : j % 4 < 4 := Nat.mod_lt _ (by decide)
  have hd := Nat.div_add_mod j 4
  by_cases h3 : j = L.length * 4 + 3
  · rw [if_pos h3, if_neg (by omega), if_neg (by omega), if_neg (by omega), if_pos (by omega)]
  rw [if_neg h3]
  by_cases h2 : j = L.length * 4 + 2
  · rw [if_pos h2, if_neg (by omega), if_neg (by omega), if_pos (by omega), if_pos (by omega)]
  rw [if_neg h2]
  by_cases h1 : j = L.length * 4 + 1
  · rw [if_pos h1, if_neg (by omega), if_pos (by omega), if_pos (by omega)]
  rw [if_neg h1]
  by_cases h0 : j = L.length * 4
  · rw [if_pos h0, if_pos (by omega), if_pos (by omega)]
  rw [if_neg h0, if_neg (show ¬ j / 4 = L.length by omega)]
theorem lcell_at {w : World} {b : Nat} {t : TypeId} {n : Nat} {L : List Pl} (h : w.rowIs b t (n * 4) (lcell L)) (i : Nat) (hi : i < n) : PlAt w b (0 + i * 4) (L.getD i zeroL) := by
  rw [Nat.zero_add]
  refine ⟨?_, ?_, ?_, ?_⟩
  · rw [h.cell (by omega), lcell, show (i * 4) % 4 = 0 by omega, show (i * 4) / 4 = i by omega]; simp
  · rw [h.cell (by omega), lcell, show (i * 4 + 1) % 4 = 1 by omega, show (i * 4 + 1) / 4 = i by omega]; simp
  · rw [h.cell (by omega), lcell, show (i * 4 + 2) % 4 = 2 by omega, show (i * 4 + 2) / 4 = i by omega]; simp
  · rw [h.cell (by omega), lcell, show (i * 4 + 3) % 4 = 3 by omega, show (i * 4 + 3) / 4 = i by omega]; simp

/-- A row of places that a call has laid itself, every block apart. -/
structure RAt (w : World) (b : Nat) (L : List Pl) : Prop where
  row : w.rowIs b 59 (L.length * 4) (lcell L)
  str : ∀ i, i < L.length → Str w (L.getD i zeroL)
  far : ∀ i, i < L.length → b < blk (L.getD i zeroL)
  up : ∀ i j, i < j → j < L.length → blk (L.getD i zeroL) < blk (L.getD j zeroL)
theorem RAt.below {w w' : World} {b : Nat} {L : List Pl} {B : Nat} (h : RAt w b L) (hb : Below B w w') (hB : w.heap.size ≤ B) : RAt w' b L :=
  ⟨h.row.of_block (hb.block _ (Nat.lt_of_lt_of_le h.row.lt hB)), fun i hi => (h.str i hi).below hb hB, h.far, h.up⟩
theorem RAt.setOther {w : World} {b : Nat} {L : List Pl} {p : Addr} (h : RAt w b L) (hp : p.block < b) (v : Value) : RAt (w.setCell p v) b L :=
  ⟨h.row.setOther (by omega) v, fun i hi => (h.str i hi).set (by have := h.far i hi; omega) v, h.far, h.up⟩
theorem RAt.lt {w : World} {b : Nat} {L : List Pl} (h : RAt w b L) : b < w.heap.size := h.row.lt
theorem RAt.ls {w : World} {b : Nat} {L : List Pl} (h : RAt w b L) : LsAt w (some ⟨b, 0, none⟩) L :=
  fun _ => ⟨b, 0, rfl, h.row.lt, fun i hi => ⟨lcell_at h.row i hi, (h.str i hi).items⟩⟩

/-- How much room is left. -/
def szPl (x : Pl) (left : Int) : Int := if left - x.name.size < 0 then -1 else Items.szIs x.its (left - x.name.size)
def szGo : List Pl → Int → Int
  | [], left => left
  | x :: r, left => if szPl x left < 0 then -1 else szGo r (szPl x left)
def szLs (L : List Pl) (left : Int) : Int := if left - L.length < 0 then -1 else szGo L (left - L.length)
theorem szPl_bd (x : Pl) (l : Int) (h : 0 ≤ l) : -1 ≤ szPl x l ∧ szPl x l ≤ l := by
  unfold szPl
  split
  · omega
  · have := Items.szIs_bd x.its (l - x.name.size) (by omega)
    omega
theorem szPl_len {x : Pl} {l : Int} (h : ¬ szPl x l < 0) : (x.name.size : Int) ≤ l ∧ (x.its.length : Int) ≤ l := by
  unfold szPl at h
  split at h
  · omega
  · have := Items.szIs_len h
    omega
theorem szGo_drop (L : List Pl) (k : Nat) (h : k < L.length) (l : Int) : szGo (L.drop k) l = if szPl (L.getD k zeroL) l < 0 then -1 else szGo (L.drop (k + 1)) (szPl (L.getD k zeroL) l) := by
  rw [List.drop_eq_getElem_cons h, szGo]
  simp [h]
theorem szGo_bd (L : List Pl) (l : Int) (h : 0 ≤ l) : -1 ≤ szGo L l ∧ szGo L l ≤ l := by
  induction L generalizing l with
  | nil => simp [szGo]; omega
  | cons x r ih =>
    have := szPl_bd x l h
    rw [szGo]
    split
    · omega
    · have := ih (szPl x l) (by omega); omega
theorem szLs_bd (L : List Pl) (left : Int) (h0 : 0 ≤ left) : -1 ≤ szLs L left ∧ szLs L left ≤ left := by
  unfold szLs
  split
  · omega
  · have := szGo_bd L (left - L.length) (by omega); omega
theorem szGo_len : ∀ (L : List Pl) (left : Int), 0 ≤ left → ¬ szGo L left < 0 → ∀ x ∈ L, (x.name.size : Int) ≤ left ∧ (x.its.length : Int) ≤ left
  | [], _, _, _ => by simp
  | x :: r, left, h0, h => by
    have hbd := szPl_bd x left h0
    unfold szGo at h
    split at h
    · omega
    · rename_i hn
      intro y hy
      rcases List.mem_cons.1 hy with rfl | hy
      · exact szPl_len hn
      · have := szGo_len r _ (by omega) h y hy
        omega
theorem szLs_len {L : List Pl} {left : Int} (h : ¬ szLs L left < 0) : (L.length : Int) ≤ left ∧ ∀ x ∈ L, (x.name.size : Int) ≤ left ∧ (x.its.length : Int) ≤ left := by
  unfold szLs at h
  split at h
  · omega
  · refine ⟨by omega, fun x hx => ?_⟩
    have := szGo_len L _ (by omega) h x hx
    omega
theorem map_at {L M : List Pl} (h : L.map core = M.map core) (i : Nat) : core (L.getD i zeroL) = core (M.getD i zeroL) := by
  have e := congrArg (fun l => l[i]?) h
  simp only [List.getElem?_map] at e
  simp only [List.getD_eq_getElem?_getD]
  cases h1 : L[i]? <;> cases h2 : M[i]? <;> rw [h1, h2] at e <;> simp at e <;> simp [e]
theorem map_len {L M : List Pl} (h : L.map core = M.map core) : L.length = M.length := by
  have := congrArg List.length h
  simpa using this
theorem getD_mem {L : List Pl} {k : Nat} (h : k < L.length) : L.getD k zeroL ∈ L := by
  rw [List.getD_eq_getElem?_getD, List.getElem?_eq_getElem h]; simp
end Pls
end Go.Proofs.YthgcfklfpllgnaaDoor
