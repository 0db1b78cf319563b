/-
  Small laws of my own by which an argument is opened: a field of a struct by value, a slice of strings. No Go function is spoken of here.
-/
import Derived.Test.YtglpdipfemiadacBase
import Derived.SliceStrings
import Derived.Deep.Fields
import Derived.ProofKit
namespace Go.Proofs.Ytglpdipfemiadac
namespace Open
open Go.ChangeShapes Go.WideShapes Go.RowKit Go.Deep Base
section
variable {H : Type} {enc : TypeId × Value → H} {P : Program} {w : World} {base : Nat} {spare : Nat → Bool} {held : Bool}

theorem field_at {t : TypeId} {fs : Array Field} {cs : Array Value} {d : DataW H} {p : List MemPlace} (hs : P.underlying t = some (.struct fs)) (hone : oneCellFields P fs = true)
    (h : DataW.Trod enc P w base spare held t (.agg cs) d p) (i : Nat) (f : Field) (hf : fs[i]? = some f) (v : Value) (hv : cs[i]? = some v) :
    ∃ n y, DataW.trod enc P w base spare held n f.type [v] = some y := by
  obtain ⟨fuel, hfu⟩ := h
  obtain ⟨xs, n, _, hx, hl, hlen, hfld⟩ := DataW.trod_struct hs hfu
  obtain ⟨o, k⟩ := hone_of hone i f hf
  have hh := hfld i f hf
  have hi : i < xs.length := by
    have := (Array.getElem?_eq_some_iff.1 hf).1
    omega
  rw [o, k, List.getElem?_eq_getElem hi] at hh
  have hcs : ((Value.agg cs).cells.toList.drop i).take 1 = [v] := by
    have hv' : cs.toList[i]? = some v := by simpa using hv
    obtain ⟨hlt, e⟩ := List.getElem?_eq_some_iff.1 hv'
    show (cs.toList.drop i).take 1 = [v]
    rw [List.drop_eq_getElem_cons hlt, e]
    rfl
  rw [hcs] at hh
  exact ⟨n, _, hh⟩

theorem cell_lt {a : Addr} {v : Value} (h : w.cell? a = some v) : a.block < w.heap.size := by
  unfold World.cell? at h
  rcases Nat.lt_or_ge a.block w.heap.size with h' | h'
  · exact h'
  · rw [Array.getElem?_eq_none h'] at h; cases h

theorem strs_of {t e : TypeId} {n : Nat} {v : Value} {y : DataW H × List MemPlace} (ht : P.underlying t = some (.slice e)) (he : P.underlying e = some .string) (hc : P.cellsOf e = 1)
    (h : DataW.trod enc P w base spare held n t [v] = some y) :
    ∃ (a : Option Addr) (cap : Nat) (ss : List ByteArray), v = .slice a ss.length cap ∧ StrsAt w a ss ∧ ss.length ≤ maxLen ∧ ∀ s ∈ ss, s.size ≤ maxLen := by
  rcases open_strings ht he hc h with ⟨hcs, _⟩ | ⟨a, len, cap, ss, hcs, _, hl, hm, hz, _, hcell, hsz⟩
  · simp only [List.cons.injEq, and_true] at hcs
    exact ⟨none, 0, [], hcs, fun h => absurd rfl h, by simp, by simp⟩
  · simp only [List.cons.injEq, and_true] at hcs
    have hle : len ≤ ss.length := by rw [hz]; split <;> omega
    refine ⟨some a, cap, ss.take len, ?_, ?_, ?_, fun s hs => hsz s (List.mem_of_mem_take hs)⟩
    · rw [List.length_take, Nat.min_eq_left hle]; exact hcs
    · intro hne
      have hp : 0 < (ss.take len).length := List.length_pos_iff.2 hne
      rw [List.length_take, Nat.min_eq_left hle] at hp
      have h0 := hcell 0 (by omega)
      obtain ⟨b, off, spot⟩ := a
      have hspot : spot = none := by simpa [Addr.add] using World.cell?_spot h0
      subst hspot
      refine ⟨b, off, rfl, by simpa [Addr.add] using cell_lt h0, fun i hi => ?_⟩
      rw [List.length_take, Nat.min_eq_left hle] at hi
      rw [← add_plain, hcell i (by omega)]
      simp [List.getD_eq_getElem?_getD, hi]
    · rw [List.length_take]; omega
theorem array7 {α : Type} {cs : Array α} (h : cs.size = 7) : ∃ c0 c1 c2 c3 c4 c5 c6, cs = #[c0, c1, c2, c3, c4, c5, c6] := by
  obtain ⟨l⟩ := cs
  match l, h with
  | [c0, c1, c2, c3, c4, c5, c6], _ => exact ⟨c0, c1, c2, c3, c4, c5, c6, rfl⟩
end
end Open
end Go.Proofs.Ytglpdipfemiadac
