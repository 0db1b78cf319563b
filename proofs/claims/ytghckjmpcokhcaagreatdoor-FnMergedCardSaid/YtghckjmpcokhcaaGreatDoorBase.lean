/-
  Small laws of my own that the other texts use: no Go function is spoken of here.
-/
import Derived.WalkKit
import Derived.ProofKit
import Derived.Deep.OwnRows
import Derived.Deep.Draws
import Derived.Lib.Strings
import Derived.Laws.IdiomStrings
import Derived.WideShapes
namespace Go.Proofs.YtghckjmpcokhcaaGreatDoor
namespace Base
open Go.RowKit

theorem hide {p : Prop} (h : p) : Hid p := h
theorem unhide {p : Prop} (h : Hid p) : p := h
theorem ret_bool {a b : Bool} (h : a = b) : Ending.returned (.bool a) = .returned (.bool b) := by rw [h]
theorem ret_int {k : IntKind} {a b : Int} (h : a = b) : Ending.returned (.int k a) = .returned (.int k b) := by rw [h]
theorem ret_str {a b : ByteArray} (h : a = b) : Ending.returned (.string a) = .returned (.string b) := by rw [h]

theorem str_ne {s t : ByteArray} (h : s ≠ t) : (s.toList == t.toList) = false := by
  rw [Lib.toList_data, Lib.toList_data]
  simp only [beq_eq_false_iff_ne]
  intro e
  exact h (Go.WideShapes.bytes_inj e)
theorem str_eq {s t : ByteArray} (h : s = t) : (s.toList == t.toList) = true := by rw [h]; simp

/-- A slice of strings that lies in memory: where it has an element it leads to the row of its elements' cells. -/
def StrsAt (w : World) (a : Option Addr) (ss : List ByteArray) : Prop :=
  ss ≠ [] → ∃ b off, a = some ⟨b, off, none⟩ ∧ b < w.heap.size ∧ ∀ i, i < ss.length → w.cell? ⟨b, off + i, none⟩ = some (.string (ss.getD i ByteArray.empty))

theorem StrsAt.below {w w' : World} {a : Option Addr} {ss : List ByteArray} {B : Nat} (h : StrsAt w a ss) (hb : Below B w w') (hB : w.heap.size ≤ B) : StrsAt w' a ss := by
  intro hne
  obtain ⟨b, off, ha, hlt, hc⟩ := h hne
  refine ⟨b, off, ha, Nat.lt_of_lt_of_le hlt hb.size, fun i hi => ?_⟩
  rw [hb.cell (p := ⟨b, off + i, none⟩) (Nat.lt_of_lt_of_le hlt hB)]
  exact hc i hi

theorem StrsAt.row {w : World} {b : Nat} {t : TypeId} {ss : List ByteArray} (h : w.rowIs b t ss.length (fun i => .string (ss.getD i ByteArray.empty))) : StrsAt w (some ⟨b, 0, none⟩) ss := by
  intro _
  refine ⟨b, 0, rfl, h.lt, fun i hi => ?_⟩
  rw [Nat.zero_add]
  exact h.cell hi

theorem bel1 (w : World) (o1 : Obj) : Below w.heap.size w (w.alloc o1) := (Below.refl _ _).alloc (Nat.le_refl _) o1
theorem bel2 (w : World) (o1 o2 : Obj) : Below w.heap.size w ((w.alloc o1).alloc o2) := (bel1 w o1).alloc (by simp) o2
theorem bel3 (w : World) (o1 o2 o3 : Obj) : Below w.heap.size w (((w.alloc o1).alloc o2).alloc o3) := (bel2 w o1 o2).alloc (by simp; omega) o3
theorem bel_draws {B : Nat} {a w : World} (h : Below B a w) (n : Nat) : Below B a (w.drewN n) := h.trans ⟨rfl, rfl, rfl, Nat.le_refl _, fun _ _ => rfl⟩
theorem bcell {W w1 : World} {B : Nat} (hb : Below B W w1) (hB : W.heap.size ≤ B) : (∀ b o, b < W.heap.size → w1.cell? ⟨b, o, none⟩ = W.cell? ⟨b, o, none⟩) ∧ (∀ b o, b < W.heap.size → w1.frozen? ⟨b, o, none⟩ = W.frozen? ⟨b, o, none⟩) :=
  ⟨fun b o h => hb.cell (p := ⟨b, o, none⟩) (Nat.lt_of_lt_of_le h hB), fun b o h => hb.frozen (p := ⟨b, o, none⟩) (Nat.lt_of_lt_of_le h hB)⟩

/-- The call's own box, its first new block, reads on as it was laid while nothing below its end turns. -/
theorem boxcell {w w1 : World} {A : Obj} (hb : Below (w.heap.size + 1) (w.alloc A) w1) : ∀ o, w1.cell? ⟨w.heap.size, o, none⟩ = (w.alloc A).cell? ⟨w.heap.size, o, none⟩ :=
  fun o => hb.cell (p := ⟨w.heap.size, o, none⟩) (Nat.lt_succ_self _)

/-- 'make([]T, n)', n a variable, T of several cells. -/
theorem run_make_rows {P : Program} (t e : TypeId) (z : Value) (sz bytes : Nat) (ht : P.underlying t = some (.slice e)) (hinfo : (P.info? e).map (fun i => (i.zero, i.size, i.bytes)) = some (some z, sz, bytes))
    (kl kc : IntKind) (n : Nat) (hbytes : bytes * n ≤ 281474976710656) (h63 : n ≤ 9223372036854775807) (w : World) :
    (Instr.makeSlice t (.int kl (n : Int)) (.int kc (n : Int))).run P w = .ok (.slice (some ⟨w.heap.size, 0, none⟩) n n) (w.alloc (.cells (madeCells z.cells (n * sz)) e)) := by
  obtain ⟨i, hi, hzz⟩ := Option.map_eq_some_iff.1 hinfo
  simp only [Prod.mk.injEq] at hzz
  obtain ⟨hz, hs, hb⟩ := hzz
  have hb' : (i.bytes : Int) * (n : Int) ≤ 281474976710656 := by
    have h : ((i.bytes * n : Nat) : Int) ≤ 281474976710656 := by rw [hb]; omega
    rwa [Int.natCast_mul] at h
  have hr := run_make (P := P) w t e i z ht hi hz kl kc n n (by omega) (Int.le_refl _) hb' (by omega)
  simp only [Int.toNat_natCast, hs] at hr
  exact hr
theorem rowIs_mades (w : World) (z : Array Value) (n : Nat) (t : TypeId) (f : Nat → Value) (h : ∀ i, z[i % z.size]! = f i) : (w.alloc (.cells (madeCells z n) t)).rowIs w.heap.size t n f := by
  have hr := World.rowIs_alloc w (madeCells z n) t f (fun i hi => by
    rw [size_madeCells] at hi
    simp only [madeCells, Array.getElem?_map, Array.getElem?_range, hi, if_true, Option.map_some]
    rw [h i])
  rw [size_madeCells] at hr
  exact hr

/-- 'string([]byte{c})'. -/
theorem conv1 {P : Program} (src dst e : TypeId) (m : Int) (h0 : 0 ≤ m) (h1 : m < 256) (hs : P.underlying src = some (.slice e)) (he : P.underlying e = some (.int .u8)) (hd : P.underlying dst = some .string)
    (w : World) (b : Nat) (hc : w.cell? ⟨b, 0, none⟩ = some (.int .u8 m)) :
    (convert src dst (.slice (some ⟨b, 0, none⟩) 1 1)).run P w = .ok (.string ⟨#[UInt8.ofNat m.toNat]⟩) w :=
  run_convert_bytes_back (P := P) w src dst e ⟨b, 0, none⟩ 1 [UInt8.ofNat m.toNat] hs he hd (fun j hj => by
    obtain rfl : j = 0 := by simpa using hj
    show w.cell? ⟨b, 0, none⟩ = some (.int .u8 ((UInt8.ofNat m.toNat).toNat : Int))
    rw [hc, UInt8.toNat_ofNat', Nat.mod_eq_of_lt (show m.toNat < 2 ^ 8 by omega)]
    congr 2
    omega)

/-- What szStringS reckons. -/
def szGo : List ByteArray → Int → Int
  | [], l => l
  | s :: r, l => if l - s.size < 0 then -1 else szGo r (l - s.size)
def szS (ss : List ByteArray) (left : Int) : Int := if left - ss.length < 0 then -1 else szGo ss (left - ss.length)

theorem szGo_drop (ss : List ByteArray) (k : Nat) (h : k < ss.length) (l : Int) : szGo (ss.drop k) l = if l - (ss.getD k ByteArray.empty).size < 0 then -1 else szGo (ss.drop (k + 1)) (l - (ss.getD k ByteArray.empty).size) := by
  rw [List.drop_eq_getElem_cons h, szGo]
  simp [h]
theorem szGo_le (ss : List ByteArray) (l : Int) : szGo ss l ≤ l ∨ szGo ss l = -1 := by
  induction ss generalizing l with
  | nil => left; simp [szGo]
  | cons s r ih =>
    rw [szGo]
    split
    · right; rfl
    · rcases ih (l - s.size) with h | h
      · left; omega
      · right; exact h
theorem szGo_sizes (ss : List ByteArray) (l : Int) (h : 0 ≤ szGo ss l) : ∀ s ∈ ss, (s.size : Int) ≤ l := by
  induction ss generalizing l with
  | nil => simp
  | cons s r ih =>
    rw [szGo] at h
    split at h
    · omega
    · intro t ht
      rcases List.mem_cons.1 ht with rfl | ht
      · rcases szGo_le r (l - t.size) with h' | h' <;> omega
      · have := ih _ h t ht; omega
theorem szS_len (ss : List ByteArray) (left : Int) (h : 0 ≤ szS ss left) : (ss.length : Int) ≤ left ∧ szS ss left = szGo ss (left - ss.length) := by
  unfold szS at h ⊢
  split at h
  · omega
  · rename_i h'
    rw [if_neg h']
    exact ⟨by omega, rfl⟩
theorem szS_bd (ss : List ByteArray) (left : Int) (h0 : 0 ≤ left) : -1 ≤ szS ss left ∧ szS ss left ≤ left := by
  have go : ∀ (ss : List ByteArray) (l : Int), 0 ≤ l → -1 ≤ szGo ss l ∧ szGo ss l ≤ l := by
    intro ss
    induction ss with
    | nil => intro l hl; simp [szGo]; omega
    | cons s r ih =>
      intro l hl
      rw [szGo]
      split
      · omega
      · have := ih (l - s.size) (by omega); omega
  unfold szS
  split
  · omega
  · have := go ss (left - ss.length) (by omega); omega
end Base
end Go.Proofs.YtghckjmpcokhcaaGreatDoor
