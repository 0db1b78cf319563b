/-
  Which lane is best: the plain function, and what is needed of it. No Go function is spoken of here.
-/
import Derived.Test.YtncdoghnfgnafaaLnP
namespace Go.Proofs.Ytncdoghnfgnafaa
namespace Hash
theorem hashN_bd (l : List UInt8) : 0 ≤ hashN l ∧ hashN l < 4294967296 := by
  unfold hashN mixN
  exact mixE_bd _
end Hash
namespace Lanes
open Go.RowKit Base GoodKey
set_option linter.unusedVariables false

/-- What BestLane answers. -/
def bestR (cs : List Core) (key : ByteArray) : Int × Bool :=
  if (inB (cs.length : Int) 1 20 && gk key.data.toList && goodB cs) = true then ((bestN cs ((Hash.hashN key.data.toList).toNat % cs.length) : Int), true) else (0, false)
theorem bestR_of (L : List Ln) (key : ByteArray) (n m : Nat) (hn : L.length = n) (hm : Hash.hashN key.data.toList = (m : Int)) :
    ((inB (n : Int) 1 20 && gk key.data.toList && goodB (L.map core)) = false → bestR (L.map core) key = (0, false)) ∧
    ((inB (n : Int) 1 20 && gk key.data.toList && goodB (L.map core)) = true → bestR (L.map core) key = ((bestN (L.map core) (m % n) : Int), true)) := by
  unfold bestR
  rw [List.length_map, hn, hm, Int.toNat_natCast]
  refine ⟨fun h => ?_, fun h => ?_⟩
  · rw [h]; rfl
  · rw [h]; rfl
theorem core_at (L : List Ln) (i : Nat) : (L.map core).getD i zeroC = core (L.getD i zeroL) := by
  simp only [List.getD_eq_getElem?_getD, List.getElem?_map]
  cases L[i]? <;> rfl
theorem good_bad (L : List Ln) (j : Nat) (hj : j < L.length) (h : glB (L.getD j zeroL).ep (L.getD j zeroL).fa (L.getD j zeroL).ws = false) : goodB (L.map core) = false := by
  unfold goodB
  rw [List.all_eq_false]
  refine ⟨core (L[j]), List.mem_map.2 ⟨_, List.getElem_mem _, rfl⟩, ?_⟩
  rw [List.getD_eq_getElem?_getD, List.getElem?_eq_getElem hj] at h
  simp only [Option.getD_some] at h
  simp [core, h]
theorem good_all (L : List Ln) (h : ∀ j, j < L.length → glB (L.getD j zeroL).ep (L.getD j zeroL).fa (L.getD j zeroL).ws = true) : goodB (L.map core) = true := by
  unfold goodB
  rw [List.all_eq_true]
  intro x hx
  obtain ⟨y, hy, rfl⟩ := List.mem_map.1 hx
  obtain ⟨j, hj, rfl⟩ := List.getElem_of_mem hy
  have := h j hj
  rw [List.getD_eq_getElem?_getD, List.getElem?_eq_getElem hj] at this
  exact this
/-- Which one is told: the first that is sound, going round from f on; else f. -/
theorem best_found (L : List Ln) (n f : Nat) (hn : L.length = n) :
    (∀ k, k < n → (∀ j, j < k → 3 ≤ (L.getD (pos n f j) zeroL).fa) → (L.getD (pos n f k) zeroL).fa < 3 → bestN (L.map core) f = pos n f k) ∧
    ((∀ j, j < n → 3 ≤ (L.getD (pos n f j) zeroL).fa) → bestN (L.map core) f = f) := by
  have hs : ∀ j, soundB (L.map core) (pos n f j) = decide ((L.getD (pos n f j) zeroL).fa < 3) := fun j => by
    unfold soundB; rw [core_at]; rfl
  unfold bestN foundO
  rw [List.length_map, hn]
  refine ⟨fun k hk hno hyes => ?_, fun hno => ?_⟩
  · have e : (List.range n).find? (fun i => soundB (L.map core) (pos n f i)) = some k := by
      rw [List.find?_range_eq_some]
      refine ⟨by rw [hs]; exact decide_eq_true hyes, by simpa using hk, fun j hj => ?_⟩
      rw [hs, decide_eq_false (by have := hno j hj; omega)]; rfl
    rw [e]
  · have e : (List.range n).find? (fun i => soundB (L.map core) (pos n f i)) = none := by
      rw [List.find?_eq_none]
      intro j hj
      rw [hs, decide_eq_false (by have := hno j (by simpa using hj); omega)]
      simp
    rw [e]
end Lanes
end Go.Proofs.Ytncdoghnfgnafaa
