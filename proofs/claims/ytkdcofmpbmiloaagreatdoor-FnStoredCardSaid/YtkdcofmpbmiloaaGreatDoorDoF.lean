/-
  The model's DoStore: what it answers, and what it leaves in memory.
-/
import Derived.Test.YtkdcofmpbmiloaaGreatDoorY12
import Derived.Test.YtkdcofmpbmiloaaGreatDoorY13
import Derived.Test.YtkdcofmpbmiloaaGreatDoorStoreS
namespace Go.Proofs.YtkdcofmpbmiloaaGreatDoor
namespace Rw
open Go.RowKit Base GoodKey Items Store Own
open _root_.Go.Proofs.YtkdcofmpbmiloaaGreatDoor.Shelf
set_option linter.unusedVariables false

theorem news_at {w : World} {b off : Nat} {its : List Itm} (hc : ∀ i, i < its.length → At w b (off + i * 5) (its.getD i zero)) (j : Nat) (u : Value) (hj : (flat its)[j]? = some u) : w.cell? ((⟨b, off, none⟩ : Addr).add j) = some u := by
  rw [Go.WideShapes.add_plain]
  have hl : j < its.length * 5 := by
    rcases Nat.lt_or_ge j (flat its).length with h1 | h1
    · rwa [flat_length] at h1
    · rw [List.getElem?_eq_none h1] at hj; simp at hj
  rw [flat_get its j hl] at hj
  obtain ⟨h0, h1, h2, h3, h4⟩ := hc (j / 5) (by omega)
  rw [← hj]
  unfold icell
  have hm : j % 5 < 5 := Nat.mod_lt _ (by decide)
  have hd := Nat.div_add_mod j 5
  by_cases e0 : j % 5 = 0
  · rw [if_pos e0, ← h0]; congr 2; omega
  by_cases e1 : j % 5 = 1
  · rw [if_neg e0, if_pos e1, ← h1]; congr 2; omega
  by_cases e2 : j % 5 = 2
  · rw [if_neg e0, if_neg e1, if_pos e2, ← h2]; congr 2; omega
  by_cases e3 : j % 5 = 3
  · rw [if_neg e0, if_neg e1, if_neg e2, if_pos e3, ← h3]; congr 2; omega
  · rw [if_neg e0, if_neg e1, if_neg e2, if_neg e3, ← h4]; congr 2; omega
section
variable {w w' : World} {H : Nat} {lim nx : Int} {v : Value} {nm : ByteArray} {kv : Value} {f x n : Int} {dt : ByteArray} {q : Bool}
theorem Bw.put2 (h : Bw w H lim nx v nm kv f x n dt q) (u : Value) : Bw (w.setCell ⟨H, 2, none⟩ u) H lim nx u nm kv f x n dt q := by
  obtain ⟨⟨s0, s1, s2⟩, ⟨i0, i1, i2, i3, i4, i5, i6⟩, ⟨y0, y1, y2⟩, f0, f2, z⟩ := h
  refine ⟨⟨?_, ?_, ?_⟩, ⟨?_, ?_, ?_, ?_, ?_, ?_, ?_⟩, ⟨?_, ?_, ?_⟩, fun o => ?_, fun o => ?_, by simpa [World.setCell] using z⟩
  all_goals go_simp
end
theorem doEnd_row {w w' : World} {B : Nat} {lim nx : Int} {its : List Itm} {ans : ByteArray} {lost : Nat} {a : Option Addr} {cap : Nat} (h : Row w' B (.slice a its.length cap) its) (hB : w.heap.size ≤ B) (hb : Below w.heap.size w w') :
    DoEnd ⟨lim, nx, its, ans, lost, true⟩ w (.returned (.tuple #[.agg #[.int .i64 lim, .int .i64 nx, .slice a its.length cap], .string ans, .int .i64 lost, .bool true])) w' := by
  obtain ⟨r, hou, hge⟩ := own_ours h
  exact ⟨a, cap, r, rfl, hou, fun g hg => Nat.le_trans hB (hge g hg), hb⟩

end Rw
end Go.Proofs.YtkdcofmpbmiloaaGreatDoor
