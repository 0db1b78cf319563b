/-
  A row of slots of which the first are closed; a slice's rest. No Go function is spoken of here (but for how a slice is cut).
-/
import Derived.Test.YtedcmbegcmgfkaaSlotR
import Derived.Test.YtedcmbegcmgfkaaRndP
namespace Go.Proofs.Ytedcmbegcmgfkaa
namespace Rnd
open Go.RowKit Base Slots Sess Marks SlotsW
set_option linter.unusedVariables false

def mixL (l : List D) (k : Nat) (id : Int) (ans : ByteArray) : List D := (l.take k).map (shut id ans) ++ l.drop k
theorem mix_len (l : List D) (k : Nat) (id : Int) (ans : ByteArray) : (mixL l k id ans).length = l.length := by
  unfold mixL
  rw [List.length_append, List.length_map, ← List.length_append, List.take_append_drop]
theorem mix_0 (l : List D) (id : Int) (ans : ByteArray) : mixL l 0 id ans = l := by simp [mixL]
theorem mix_all (l : List D) (id : Int) (ans : ByteArray) : mixL l l.length id ans = closeL l id ans := by simp [mixL, closeL]
theorem mix_get (l : List D) (k : Nat) (id : Int) (ans : ByteArray) (hk : k ≤ l.length) (i : Nat) (hi : i < l.length) : (mixL l k id ans).getD i zero = if i < k then shut id ans (l.getD i zero) else l.getD i zero := by
  rw [getD_lt _ _ (by rw [mix_len]; exact hi), getD_lt _ _ hi]
  unfold mixL
  by_cases h : i < k
  · rw [if_pos h, List.getElem_append_left (by simp; omega)]
    simp
  · rw [if_neg h, List.getElem_append_right (by simp; omega)]
    simp only [List.length_map, List.length_take, List.getElem_drop]
    congr 1
    omega
theorem mix_at (l : List D) (k : Nat) (id : Int) (ans : ByteArray) (hk : k < l.length) : (mixL l k id ans).getD k zero = l.getD k zero := by
  rw [mix_get l k id ans (by omega) k hk, if_neg (by omega)]
theorem mix_hit (l : List D) (k : Nat) (id : Int) (ans : ByteArray) (hk : k < l.length) (hh : hitB id (l.getD k zero) = true) (j : Nat) (hj : j < l.length * 3) :
    (if j = k * 3 + 2 then (.string ans : Value) else if j = k * 3 + 1 then .bool true else if j = k * 3 then .int .i64 id else icell (mixL l k id ans) j) = icell (mixL l (k + 1) id ans) j := by
  have es : shut id ans (l.getD k zero) = ⟨id, true, ans⟩ := by unfold shut; rw [if_pos hh]
  by_cases h3 : j / 3 = k
  · have e1 : (mixL l (k + 1) id ans).getD (j / 3) zero = ⟨id, true, ans⟩ := by rw [mix_get l (k + 1) id ans (by omega) (j / 3) (by omega), if_pos (by omega), h3, es]
    have e2 : icell (mixL l (k + 1) id ans) j = if j % 3 = 0 then (.int .i64 id : Value) else if j % 3 = 1 then .bool true else .string ans := by unfold icell; rw [e1]
    rw [e2]
    by_cases h2 : j = k * 3 + 2
    · rw [if_pos h2, if_neg (by omega), if_neg (by omega)]
    · rw [if_neg h2]
      by_cases h1 : j = k * 3 + 1
      · rw [if_pos h1, if_neg (by omega), if_pos (by omega)]
      · rw [if_neg h1, if_pos (by omega), if_pos (by omega)]
  · have e : (mixL l (k + 1) id ans).getD (j / 3) zero = (mixL l k id ans).getD (j / 3) zero := by
      rw [mix_get l (k + 1) id ans (by omega) (j / 3) (by omega), mix_get l k id ans (by omega) (j / 3) (by omega)]
      by_cases h : j / 3 < k
      · rw [if_pos h, if_pos (by omega)]
      · rw [if_neg h, if_neg (by omega)]
    rw [if_neg (by omega), if_neg (by omega), if_neg (by omega)]
    unfold icell
    rw [e]
theorem mix_miss (l : List D) (k : Nat) (id : Int) (ans : ByteArray) (hk : k < l.length) (hh : hitB id (l.getD k zero) = false) (j : Nat) (hj : j < l.length * 3) : icell (mixL l k id ans) j = icell (mixL l (k + 1) id ans) j := by
  have es : shut id ans (l.getD k zero) = l.getD k zero := by unfold shut; rw [if_neg (by rw [hh]; simp)]
  have e : (mixL l (k + 1) id ans).getD (j / 3) zero = (mixL l k id ans).getD (j / 3) zero := by
    rw [mix_get l (k + 1) id ans (by omega) (j / 3) (by omega), mix_get l k id ans (by omega) (j / 3) (by omega)]
    by_cases h3 : j / 3 = k
    · rw [h3, if_pos (Nat.lt_succ_self k), if_neg (Nat.lt_irrefl k), es]
    · by_cases h : j / 3 < k
      · rw [if_pos h, if_pos (by omega)]
      · rw [if_neg h, if_neg (by omega)]
  unfold icell
  rw [e]
theorem any_take (l : List D) (k : Nat) (id : Int) (hk : k < l.length) : anyB (l.take (k + 1)) id = (anyB (l.take k) id || hitB id (l.getD k zero)) := by
  unfold anyB
  rw [List.take_succ_eq_append_getElem hk, List.any_append, getD_lt l k hk]
  simp
theorem any_all (l : List D) (id : Int) : anyB (l.take l.length) id = anyB l id := by rw [List.take_length]
theorem own_row {w : World} {B g n c : Nat} {l : List D} (h : OwnV w B (.slice (some ⟨g, 0, none⟩) n c) l) : RowAt w g 41 (l.length * 3) (icell l) ∧ B ≤ g ∧ n = l.length ∧ l.length ≤ c := by
  rcases h.2 with ⟨hv, _⟩ | ⟨g', cap', cur, hv, hg, hh, hn, _, hsz, ht⟩
  · simp at hv
  · simp only [Value.slice.injEq, Option.some.injEq, Addr.mk.injEq, and_true] at hv
    obtain ⟨rfl, h2, rfl⟩ := hv
    refine ⟨⟨cur, hh, by rw [hsz]; omega, fun i hi => ?_⟩, hg, h2, hn⟩
    rw [← flat_get l i hi, ← ht, List.getElem?_take_of_lt (by omega)]
    simp
theorem row_at {w : World} {g : Nat} {l : List D} {t : TypeId} (h : RowAt w g t (l.length * 3) (icell l)) (i : Nat) (hi : i < l.length) : At w g (i * 3) (l.getD i zero) := by
  refine ⟨?_, ?_, ?_⟩
  · rw [h.cell (by omega), icell, show (i * 3) % 3 = 0 by omega, show (i * 3) / 3 = i by omega]; simp
  · rw [h.cell (by omega), icell, show (i * 3 + 1) % 3 = 1 by omega, show (i * 3 + 1) / 3 = i by omega]; simp
  · rw [h.cell (by omega), icell, show (i * 3 + 2) % 3 = 2 by omega, show (i * 3 + 2) / 3 = i by omega]; simp

/-- Slots in the block g from the cell o on. -/
def Rst (w : World) (g o c : Nat) (l : List D) : Prop := g < w.heap.size ∧ l.length ≤ c ∧ ∀ i, i < l.length → At w g (o + i * 3) (l.getD i zero)
def toff (o c : Nat) : Nat := if c = 1 then o else o + 3
theorem Rst.of_block {w w' : World} {g o c : Nat} {l : List D} (h : Rst w g o c l) (e : w'.heap[g]? = w.heap[g]?) (hz : w.heap.size ≤ w'.heap.size) : Rst w' g o c l := by
  obtain ⟨h1, h2, h3⟩ := h
  have ec : ∀ o, w'.cell? ⟨g, o, none⟩ = w.cell? ⟨g, o, none⟩ := fun o => World.cell?_of_block (a := ⟨g, o, none⟩) e
  refine ⟨by omega, h2, fun i hi => ?_⟩
  obtain ⟨q0, q1, q2⟩ := h3 i hi
  exact ⟨(ec _).trans q0, (ec _).trans q1, (ec _).trans q2⟩
theorem Rst.tail {w : World} {g o c : Nat} {x : D} {r : List D} (h : Rst w g o c (x :: r)) : Rst w g (toff o c) (c - 1) r := by
  obtain ⟨h1, h2, h3⟩ := h
  rw [List.length_cons] at h2 h3
  refine ⟨h1, by omega, fun i hi => ?_⟩
  have := h3 (i + 1) (by omega)
  unfold toff
  rw [if_neg (by omega), show o + 3 + i * 3 = o + (i + 1) * 3 by omega]
  exact this
theorem Rst.src {w : World} {g o c : Nat} {l : List D} (h : Rst w g o c l) : Src w (some ⟨g, o, none⟩) l.length c l := .inr ⟨g, o, rfl, h.1, rfl, h.2.2⟩
set_option maxRecDepth 10000 in
theorem slice_one (b o n c : Nat) (hs : 1 ≤ n) (w : World) :
    (Instr.slice 50 (.slice (some ⟨b, o, none⟩) n c) (some (.int .i64 1)) none none).run Try.prog w = .ok (.slice (some ⟨b, toff o c, none⟩) (n - 1) (c - 1)) w := by
  have ht : Try.prog.underlying 50 = some (.slice (Try.prog.elem 50)) := by kernel_rfl
  have hz : (sizeOf (Try.prog.elem 50)).run Try.prog w = .ok 3 w := Try.sizeOf41 w
  have h := run_slice_l w 50 (some ⟨b, o, none⟩) n c ht .i64 (1 : Nat) (by omega) (by omega)
  rw [show ((1 : Nat) : Int) = 1 from rfl] at h
  rw [h, hz]
  simp only [Result.andThen_ok, sliced, toff]
  by_cases h : c = 1
  · rw [if_pos h]; simp [h]
  · rw [if_neg h]
    simp [h, Go.WideShapes.add_plain]
end Rnd
end Go.Proofs.Ytedcmbegcmgfkaa
