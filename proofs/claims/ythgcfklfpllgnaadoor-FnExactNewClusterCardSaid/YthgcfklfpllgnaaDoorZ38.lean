/-
  Small laws of my own by which an argument is opened: a field of a struct by value, a slice of strings. No Go function is spoken of here.
-/
import Derived.Test.YthgcfklfpllgnaaDoorZ1
import Derived.SliceStrings
import Derived.Deep.Fields
import Derived.Deep.Slices
import Derived.ProofKit
import Derived.Test.YthgcfklfpllgnaaDoorZ2
namespace Go.Proofs.YthgcfklfpllgnaaDoor
namespace Open
open Go.ChangeShapes Go.WideShapes Go.RowKit Go.Deep Base
section
variable {H : Type} {enc : TypeId × Value → H} {P : Program} {w : World} {base : Nat} {spare : Nat → Bool} {held : Bool}

theorem field_at {t : TypeId} {fs : Array Field} {cs : Array Value} {d : DataW H} {p : List MemPlace} (hs : P.underlying t = some (.struct fs)) (hone : oneCellFields P fs = true)
    (h : DataW.Trod enc P w base spare held t (.agg cs) d p) (i : Nat) (f : Field) (hf : fs[i]? = some f) (v : Value) (hv : cs[i]? = some v) :
    ∃ n y, DataW.trod enc P w base spare held n f.type [v] = some y := by
  obtain ⟨fuel, hfu⟩ := h
  obtain ⟨xs, n, _, hx, hl, hlen, hfld⟩ := DataW.trod_struct hs hfu
  obtain ⟨o, k⟩ := hone_of hone i f hf
  have hh := hfld i f hf
  have hi : i < xs.length := by
    have := (Array.getElem?_eq_some_iff.1 hf).1
    omega
  rw [o, k, List.getElem?_eq_getElem hi] at hh
  have hcs : ((Value.agg cs).cells.toList.drop i).take 1 = [v] := by
    have hv' : cs.toList[i]? = some v := by simpa using hv
    obtain ⟨hlt, e⟩ := List.getElem?_eq_some_iff.1 hv'
    show (cs.toList.drop i).take 1 = [v]
    rw [List.drop_eq_getElem_cons hlt, e]
    rfl
  rw [hcs] at hh
  exact ⟨n, _, hh⟩

theorem cell_lt {a : Addr} {v : Value} (h : w.cell? a = some v) : a.block < w.heap.size := by
  unfold World.cell? at h
  rcases Nat.lt_or_ge a.block w.heap.size with h' | h'
  · exact h'
  · rw [Array.getElem?_eq_none h'] at h; cases h

theorem strs_of {t e : TypeId} {n : Nat} {v : Value} {y : DataW H × List MemPlace} (ht : P.underlying t = some (.slice e)) (he : P.underlying e = some .string) (hc : P.cellsOf e = 1)
    (h : DataW.trod enc P w base spare held n t [v] = some y) :
    ∃ (a : Option Addr) (cap : Nat) (ss : List ByteArray), v = .slice a ss.length cap ∧ StrsAt w a ss ∧ ss.length ≤ maxLen ∧ ∀ s ∈ ss, s.size ≤ maxLen := by
  rcases open_strings ht he hc h with ⟨hcs, _⟩ | ⟨a, len, cap, ss, hcs, _, hl, hm, hz, _, hcell, hsz⟩
  · simp only [List.cons.injEq, and_true] at hcs
    exact ⟨none, 0, [], hcs, fun h => absurd rfl h, by simp, by simp⟩
  · simp only [List.cons.injEq, and_true] at hcs
    have hle : len ≤ ss.length := by rw [hz]; split <;> omega
    refine ⟨some a, cap, ss.take len, ?_, ?_, ?_, fun s hs => hsz s (List.mem_of_mem_take hs)⟩
    · rw [List.length_take, Nat.min_eq_left hle]; exact hcs
    · intro hne
      have hp : 0 < (ss.take len).length := List.length_pos_iff.2 hne
      rw [List.length_take, Nat.min_eq_left hle] at hp
      have h0 := hcell 0 (by omega)
      obtain ⟨b, off, spot⟩ := a
      have hspot : spot = none := by simpa [Addr.add] using World.cell?_spot h0
      subst hspot
      refine ⟨b, off, rfl, by simpa [Addr.add] using cell_lt h0, fun i hi => ?_⟩
      rw [List.length_take, Nat.min_eq_left hle] at hi
      rw [← add_plain, hcell i (by omega)]
      simp [List.getD_eq_getElem?_getD, hi]
    · rw [List.length_take]; omega
/-- A slice of structs of one-cell fields: each field of each element has its cell, with its own reading. -/
theorem rows_of {t e : TypeId} {fs : Array Field} {n : Nat} {v : Value} {y : DataW H × List MemPlace} (ht : P.underlying t = some (.slice e)) (he : P.underlying e = some (.struct fs)) (hone : oneCellFields P fs = true)
    (hsz : P.cellsOf e = fs.size) (hp : 0 < fs.size) (h : DataW.trod enc P w base spare held n t [v] = some y) :
    ∃ (a : Option Addr) (len cap : Nat), v = .slice a len cap ∧ len ≤ cap ∧ cap ≤ maxLen ∧ (0 < len → ∃ b off, a = some ⟨b, off, none⟩ ∧ b < w.heap.size ∧
      ∀ i, i < len → ∀ (j : Nat) (f : Field), fs[j]? = some f → ∃ c m z, w.cell? ⟨b, off + i * fs.size + j, none⟩ = some c ∧ DataW.trod enc P w base spare held m f.type [c] = some z) := by
  rcases open_slice ht h with ⟨hcs, _⟩ | ⟨a, len, cap, m, k, D, Pl, hcs, _, hl, hm, hmm, _, hx⟩
  · simp only [List.cons.injEq, and_true] at hcs
    exact ⟨none, 0, 0, hcs, Nat.le_refl _, Nat.zero_le _, fun h => absurd h (by omega)⟩
  · simp only [List.cons.injEq, and_true] at hcs
    refine ⟨some a, len, cap, hcs, hl, hm, fun hlen => ?_⟩
    have hle : len ≤ m := by rw [hmm]; split <;> omega
    have hcell : ∀ i, i < len → ∀ (j : Nat) (f : Field), fs[j]? = some f → ∃ c m z, w.cell? (a.add (i * fs.size + j)) = some c ∧ DataW.trod enc P w base spare held m f.type [c] = some z := by
      intro i hi j f hf
      obtain ⟨cs', h1, h2⟩ := hx i (by omega)
      rw [hsz] at h1
      obtain ⟨_, hcl, hce⟩ := World.cells?_some h1
      have hj : j < fs.size := (Array.getElem?_eq_some_iff.1 hf).1
      obtain ⟨xs, n', _, _, _, hxl, hfld⟩ := DataW.trod_struct he h2
      obtain ⟨o, kk⟩ := hone_of hone j f hf
      have hh := hfld j f hf
      rw [o, kk, List.getElem?_eq_getElem (show j < xs.length by omega)] at hh
      have hjc : j < cs'.length := by omega
      have hcs' : (cs'.drop j).take 1 = [cs'[j]] := by rw [List.drop_eq_getElem_cons hjc]; rfl
      rw [hcs'] at hh
      refine ⟨cs'[j], n', _, ?_, hh⟩
      rw [← Go.Deep.add_add, hce j hj, List.getElem?_eq_getElem hjc]
    obtain ⟨f0, hf0⟩ : ∃ f, fs[0]? = some f := ⟨fs[0], by simp [hp]⟩
    obtain ⟨c0, _, _, h0, _⟩ := hcell 0 hlen 0 f0 hf0
    obtain ⟨b, off, spot⟩ := a
    have hspot : spot = none := by simpa [Addr.add] using World.cell?_spot h0
    subst hspot
    refine ⟨b, off, rfl, by simpa [Addr.add] using cell_lt h0, fun i hi j f hf => ?_⟩
    obtain ⟨c, m', z, e1, e2⟩ := hcell i hi j f hf
    refine ⟨c, m', z, ?_, e2⟩
    rw [add_plain] at e1
    rw [Nat.add_assoc]
    exact e1
theorem array3 {α : Type} {cs : Array α} (h : cs.size = 3) : ∃ c0 c1 c2, cs = #[c0, c1, c2] := by
  obtain ⟨l⟩ := cs
  match l, h with
  | [c0, c1, c2], _ => exact ⟨c0, c1, c2, rfl⟩
theorem array7 {α : Type} {cs : Array α} (h : cs.size = 7) : ∃ c0 c1 c2 c3 c4 c5 c6, cs = #[c0, c1, c2, c3, c4, c5, c6] := by
  obtain ⟨l⟩ := cs
  match l, h with
  | [c0, c1, c2, c3, c4, c5, c6], _ => exact ⟨c0, c1, c2, c3, c4, c5, c6, rfl⟩
end
end Open
end Go.Proofs.YthgcfklfpllgnaaDoor
/-
  A slice of the struct Node among the arguments, opened (written by a program of mine). No Go function is spoken of here.
-/
namespace Go.Proofs.YthgcfklfpllgnaaDoor
namespace Nodes
open Go.ChangeShapes Go.WideShapes Go.RowKit Go.Deep Base
section
variable {H : Type} {enc : TypeId × Value → H} {P : Program} {w : World} {base : Nat} {spare : Nat → Bool} {held : Bool}
theorem open_of {t e : TypeId} {f0 f1 : Field} {n : Nat} {v : Value} {y : DataW H × List MemPlace} (ht : P.underlying t = some (.slice e)) (he : P.underlying e = some (.struct #[f0, f1])) (hone : oneCellFields P #[f0, f1] = true)
    (hsz : P.cellsOf e = 2) (h0 : P.underlying f0.type = some .string) (h1 : P.underlying f1.type = some (.int .i64))
    (h : DataW.trod enc P w base spare held n t [v] = some y) :
    ∃ (a : Option Addr) (cap : Nat) (l : List D), v = .slice a l.length cap ∧ LAt w a l ∧ l.length ≤ cap ∧ l.length ≤ maxLen ∧ ∀ x ∈ l, Fits x := by
  obtain ⟨a, len, cap, hv, hl, hm, hx⟩ := Open.rows_of ht he hone hsz (by simp) h
  by_cases hlen : len = 0
  · subst hlen
    exact ⟨a, cap, [], hv, fun h => absurd rfl h, Nat.zero_le _, Nat.zero_le _, by simp⟩
  · obtain ⟨b, off, ha, hb, hcell⟩ := hx (by omega)
    have hall : ∀ i, i < len → ∃ x : D, At w b (off + i * 2) x ∧ Fits x := by
      intro i hi
      obtain ⟨c0, m0, z0, e0, g0⟩ := hcell i hi 0 f0 rfl
      obtain ⟨c1, m1, z1, e1, g1⟩ := hcell i hi 1 f1 rfl
      obtain ⟨s0, q0, _, b0⟩ := DataW.trod_string h0 g0
      obtain ⟨s1, q1, _, _⟩ := DataW.trod_int h1 g1
      simp only [List.cons.injEq, and_true] at q0 q1
      subst q0 q1
      exact ⟨⟨s0, s1⟩, ⟨e0, e1⟩, b0⟩
    obtain ⟨V, hV⟩ := @choose_lt D ⟨zero⟩ len _ hall
    refine ⟨a, cap, (List.range len).map V, by simpa using hv, fun _ => ⟨b, off, ha, hb, fun i hi => ?_⟩, by simpa using hl, by simp; omega, fun x hx => ?_⟩
    · have hi' : i < len := by simpa using hi
      have e : ((List.range len).map V).getD i zero = V i := by simp [List.getD_eq_getElem?_getD, hi']
      rw [e]
      exact (hV i hi').1
    · obtain ⟨i, hi, rfl⟩ := List.mem_map.1 hx
      exact (hV i (by simpa using hi)).2
end
end Nodes
end Go.Proofs.YthgcfklfpllgnaaDoor
