/-
  The program's readNode: a node from a word.
-/
import Derived.Test.YteiecijgmdbajaaDoorRnP
import Derived.Test.YteiecijgmdbajaaDoorCountV
import Derived.Test.YteiecijgmdbajaaDoorCloneS
import Derived.Lib.SplitLaws
import Derived.Lib.CutLaws
namespace Go.Proofs.YteiecijgmdbajaaDoor
namespace Rn
open Go.RowKit Base GoodKey NumText Sp Count
set_option linter.unusedVariables false

/-- What the library's variables hold. -/
structure V2 (w : World) : Prop where
  vars : Count.Vars w
  most : ∃ m, w.cell? ⟨0, 0, none⟩ = some (.int .i64 m)
theorem V2.below {w w' : World} (h : V2 w) (hb : Below w.heap.size w w') : V2 w' := by
  obtain ⟨h1, m, h2⟩ := h
  exact ⟨h1.below hb, m, (hb.cell (p := ⟨0, 0, none⟩) (block_lt_of_cell h2)).trans h2⟩
def nameB (s : ByteArray) : ByteArray := ⟨(Lib.cut (bl s) [58]).1.toArray⟩
def numB (s : ByteArray) : ByteArray := ⟨(Lib.cut (bl s) [58]).2.1.toArray⟩
theorem cut_any (s : ByteArray) (w : World) (hs : s.size ≤ 1048576) (hv : V2 w) : Calls Tryd.prog 31 #[.string s, .string ⟨#[58]⟩] w fun e w' => (∃ f, e = .returned (.tuple #[.string (nameB s), .string (numB s), .bool f])) ∧ Below w.heap.size w w' := by
  obtain ⟨m, hm⟩ := hv.most
  refine (Tryd.strings_Cut s ⟨#[58]⟩ m w (by omega) hm).mono ?_
  rintro e w' ⟨rfl, n, rfl⟩
  exact ⟨⟨_, rfl⟩, bel_draws (Below.refl _ _) n⟩
def wordsB (s : ByteArray) : List ByteArray := Lib.splitB ⟨#[32]⟩ 0 (Lib.countB s ⟨#[32]⟩) s
theorem words_sp (s : ByteArray) : (wordsB s).map bl = spc 32 (bl s) := (splitB_sp s).trans (spc_sp _).symm
theorem words_len (s : ByteArray) : (wordsB s).length = Lib.countB s ⟨#[32]⟩ + 1 := Lib.splitB_all ⟨#[32]⟩ (by decide) 0 _ s rfl
theorem split_any (s : ByteArray) (w : World) (hs : s.size ≤ 1048576) (hv : V2 w) : Calls Tryd.prog 17 #[.string s, .string ⟨#[32]⟩] w fun e w' => e = .returned (.slice (some ⟨w.heap.size, 0, none⟩) (wordsB s).length (wordsB s).length) ∧ w' = w.alloc (.cells ((wordsB s).map Value.string).toArray 9) := by
  obtain ⟨m, hm⟩ := hv.most
  refine (Tryd.strings_Split s ⟨#[32]⟩ m w (by omega) hm (by decide)).mono ?_
  rintro e w' ⟨rfl, rfl⟩
  rw [words_len]
  exact ⟨rfl, rfl⟩
theorem cut_sizes (s : ByteArray) : (nameB s).size ≤ s.size ∧ (numB s).size ≤ s.size := by
  have e1 : (nameB s).size = (Lib.cut (bl s) [58]).1.length := by simp [nameB, ByteArray.size]
  have e2 : (numB s).size = (Lib.cut (bl s) [58]).2.1.length := by simp [numB, ByteArray.size]
  rw [e1, e2, ← bl_len s]
  by_cases h : 58 ∈ bl s
  · obtain ⟨a, r, ha, he⟩ := split_at h
    rw [he, cut_some ha]; simp; omega
  · rw [cut_none h]; simp
theorem rnode_eq (s : ByteArray) : rnode (bl s) = match rdB (numB s).data.toList 5 with | some v => (⟨nameB s, v⟩, true) | none => (⟨nameB s, 0⟩, false) := rfl

def rnV (p : Nodes.D × Bool) : Value := .tuple #[.agg #[.string p.1.name, .int .i64 p.1.weight], .bool p.2]
set_option maxRecDepth 10000 in
set_option maxHeartbeats 1000000 in
theorem readNode_any (s : ByteArray) (w : World) (hs : s.size ≤ 1048576) (hv : V2 w) :
    Calls Tryd.prog 18 #[.string s] w fun e w' => e = .returned (rnV (rnode (bl s))) ∧ Below w.heap.size w w' := by
  have HV := hide hv
  obtain ⟨hz1, hz2⟩ := cut_sizes s
  have HE := hide (rnode_eq s)
  have HCUT := hide (fun w' h => cut_any s w' hs h)
  generalize rnode (bl s) = p at HE ⊢
  generalize nameB s = nm at HE HCUT hz1
  generalize numB s = nu at HE HCUT hz2
  have HRD := hide (fun w' h => readNumber_any nu 5 w' (by omega) (by omega) (by omega) h)
  have HCL := hide (fun w' => CloneS.clone_any nm w' (by omega))
  have B0 := hide (bel1 w (.cells #[.string ⟨#[]⟩, .int .i64 0] 38))
  obtain ⟨k0, k1⟩ : (w.alloc (.cells #[.string ⟨#[]⟩, .int .i64 0] 38)).cell? ⟨w.heap.size, 0, none⟩ = some (.string ⟨#[]⟩) ∧ (w.alloc (.cells #[.string ⟨#[]⟩, .int .i64 0] 38)).cell? ⟨w.heap.size, 1, none⟩ = some (.int .i64 0) := by
    constructor <;> (rw [World.cell?_alloc_new]; rfl)
  obtain ⟨f0, f1⟩ : (w.alloc (.cells #[.string ⟨#[]⟩, .int .i64 0] 38)).frozen? ⟨w.heap.size, 0, none⟩ = false ∧ (w.alloc (.cells #[.string ⟨#[]⟩, .int .i64 0] 38)).frozen? ⟨w.heap.size, 1, none⟩ = false := by
    have hbk : (w.alloc (.cells #[.string ⟨#[]⟩, .int .i64 0] 38)).heap[w.heap.size]? = some (.cells #[.string ⟨#[]⟩, .int .i64 0] 38 (0, 0)) := by
      show (w.heap.push _)[w.heap.size]? = _
      simp
    exact ⟨Lib.frozen_of_heap hbk 0, Lib.frozen_of_heap hbk 1⟩
  have hlt0 : w.heap.size < (w.alloc (.cells #[.string ⟨#[]⟩, .int .i64 0] 38)).heap.size := by simp
  clear hv
  go_enter Tryd.func18, Tryd.ntmps18
  go_wp2_with fail
  generalize w.alloc (.cells #[.string ⟨#[]⟩, .int .i64 0] 38) = wa at B0 k0 k1 f0 f1 hlt0 ⊢
  refine (unhide HCUT _ ((unhide HV).below (unhide B0))).mono ?_
  rintro e w1 ⟨⟨f, rfl⟩, hb1⟩
  have c0 := (hb1.cell (p := ⟨w.heap.size, 0, none⟩) hlt0).trans k0
  have c1 := (hb1.cell (p := ⟨w.heap.size, 1, none⟩) hlt0).trans k1
  have g0 := (hb1.frozen (p := ⟨w.heap.size, 0, none⟩) hlt0).trans f0
  have g1 := (hb1.frozen (p := ⟨w.heap.size, 1, none⟩) hlt0).trans f1
  have B1 := hide ((unhide B0).trans (hb1.mono (unhide B0).size))
  have hlt1 : w.heap.size < w1.heap.size := Nat.lt_of_lt_of_le hlt0 hb1.size
  clear hb1 k0 k1 f0 f1 B0 hlt0 HCUT
  go_wp2_with fail
  refine (unhide HRD _ ((unhide HV).below (unhide B1)).vars).mono ?_
  rintro e w2 ⟨rfl, hb2⟩
  have d0 := (hb2.cell (p := ⟨w.heap.size, 0, none⟩) hlt1).trans c0
  have d1 := (hb2.cell (p := ⟨w.heap.size, 1, none⟩) hlt1).trans c1
  have e0 := (hb2.frozen (p := ⟨w.heap.size, 0, none⟩) hlt1).trans g0
  have e1 := (hb2.frozen (p := ⟨w.heap.size, 1, none⟩) hlt1).trans g1
  have B2 := hide ((unhide B1).trans (hb2.mono (unhide B1).size))
  have hlt2 : w.heap.size < w2.heap.size := Nat.lt_of_lt_of_le hlt1 hb2.size
  clear hb2 c0 c1 g0 g1 B1 hlt1 HRD
  cases hr : rdB nu.data.toList 5 with
  | none =>
    have HP : Hid (p = (⟨nm, 0⟩, false)) := by show p = _; rw [unhide HE, hr]
    clear hr HE
    unfold rdV
    go_wp2_with fail
    refine (unhide HCL _).mono ?_
    rintro e w3 ⟨rfl, hb3⟩
    have c0 := (hb3.cell (p := ⟨w.heap.size, 0, none⟩) hlt2).trans d0
    have c1 := (hb3.cell (p := ⟨w.heap.size, 1, none⟩) hlt2).trans d1
    have g0 := (hb3.frozen (p := ⟨w.heap.size, 0, none⟩) hlt2).trans e0
    have g1 := (hb3.frozen (p := ⟨w.heap.size, 1, none⟩) hlt2).trans e1
    have B3 := hide ((unhide B2).trans (hb3.mono (unhide B2).size))
    have hlt3 : w.heap.size < w3.heap.size := Nat.lt_of_lt_of_le hlt2 hb3.size
    clear hb3 d0 d1 e0 e1 B2 hlt2 HCL
    go_wp2
    refine bodyPost_ret (v := .tuple #[.agg #[.string nm, .int .i64 0], .bool false]) (by simp [results, Tryd.results18, go_sem, *]; done) rfl ⟨by rw [unhide HP]; rfl, ((unhide B3).setCell (by simp) _).setCell (by simp) _⟩
  | some v =>
    have HP : Hid (p = (⟨nm, v⟩, true)) := by show p = _; rw [unhide HE, hr]
    clear hr HE
    unfold rdV
    go_wp2_with fail
    refine (unhide HCL _).mono ?_
    rintro e w3 ⟨rfl, hb3⟩
    have c0 := (hb3.cell (p := ⟨w.heap.size, 0, none⟩) hlt2).trans d0
    have c1 := (hb3.cell (p := ⟨w.heap.size, 1, none⟩) hlt2).trans d1
    have g0 := (hb3.frozen (p := ⟨w.heap.size, 0, none⟩) hlt2).trans e0
    have g1 := (hb3.frozen (p := ⟨w.heap.size, 1, none⟩) hlt2).trans e1
    have B3 := hide ((unhide B2).trans (hb3.mono (unhide B2).size))
    have hlt3 : w.heap.size < w3.heap.size := Nat.lt_of_lt_of_le hlt2 hb3.size
    clear hb3 d0 d1 e0 e1 B2 hlt2 HCL
    go_wp2
    refine bodyPost_ret (v := .tuple #[.agg #[.string nm, .int .i64 v], .bool true]) (by simp [results, Tryd.results18, go_sem, *]; done) rfl ⟨by rw [unhide HP]; rfl, ((unhide B3).setCell (by simp) _).setCell (by simp) _⟩
end Rn
end Go.Proofs.YteiecijgmdbajaaDoor
