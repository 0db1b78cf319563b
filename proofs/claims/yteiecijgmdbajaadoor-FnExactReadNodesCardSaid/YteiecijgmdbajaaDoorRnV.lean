/-
  FnExactReadNodes returns true for every text.
-/
import Derived.Test.YteiecijgmdbajaaDoorRnS
import Derived.Test.YteiecijgmdbajaaDoorNodeH
import Derived.Test.YteiecijgmdbajaaDoorNodeL
namespace Go.Proofs.YteiecijgmdbajaaDoor
namespace ReadNodesL
open Go.RowKit Base Marks OwnR Rn
set_option linter.unusedVariables false

/-- Both ways end so. -/
def Ends (T : List Nodes.D) (k : Bool) (w : World) (e : Ending) (w' : World) : Prop :=
  ∃ a c r, e = .returned (.tuple #[.slice a T.length c, .bool k]) ∧ NodesM.Ours w' a T.length (Nodes.icell T) r ∧ (∀ g, r = some g → w.heap.size ≤ g) ∧ Below w.heap.size w w'
theorem ends_of {s : ByteArray} {w w' : World} {e : Ending} {T : List Nodes.D} {k : Bool} (hT : (k = true ∧ Rd (spc 32 (bl s)) T) ∨ (k = false ∧ T = [] ∧ ∀ m, ¬ Rd (spc 32 (bl s)) m)) (h : RnEnd s w e w') : Ends T k w e w' := by
  obtain ⟨B, a, c, l, ok, rfl, hB, ho, hb, hr⟩ := h
  have he : l = T ∧ ok = k := by
    rcases hT with ⟨rfl, h1⟩ | ⟨rfl, rfl, h1⟩ <;> rcases hr with ⟨rfl, h2⟩ | ⟨rfl, rfl, h2⟩
    · exact ⟨h2.unique h1, rfl⟩
    · exact absurd h1 (h2 _)
    · exact absurd h2 (h1 _)
    · exact ⟨rfl, rfl⟩
  obtain ⟨rfl, rfl⟩ := he
  obtain ⟨r, h1, h2⟩ := NodesW.own_ours ho
  exact ⟨a, c, r, rfl, h1, fun g e => Nat.le_trans hB (h2 g e), hb⟩
theorem told_is (s : ByteArray) : ∃ T k, (T : List Nodes.D).length ≤ 60 ∧ ((k = true ∧ Rd (spc 32 (bl s)) T) ∨ (k = false ∧ T = [] ∧ ∀ m, ¬ Rd (spc 32 (bl s)) m)) := by
  by_cases h : ∃ l, Rd (spc 32 (bl s)) l
  · obtain ⟨l, hl⟩ := h
    exact ⟨l, true, by have := Nt.gn_lens hl.2; omega, .inl ⟨rfl, hl⟩⟩
  · exact ⟨[], false, by simp, .inr ⟨rfl, rfl, fun m hm => h ⟨m, hm⟩⟩⟩

set_option maxRecDepth 10000 in
set_option maxHeartbeats 4000000 in
theorem walk (s : ByteArray) (w : World) (hsm : s.size ≤ maxLen) (hv : V2 w) :
    Calls Tryd.prog 3 #[.string s] w fun e w' => e = .returned (.bool true) ∧ Below w.heap.size w w' := by
  by_cases hs : s.size ≤ 1048576
  case neg =>
    have hs' : (1048576 : Int) < (s.size : Int) := by omega
    clear hv
    unfold maxLen at hsm
    go_enter Tryd.func3, Tryd.ntmps3
    go_wp2
    go_ret
    exact ⟨rfl, Below.refl _ _⟩
  have hs' : ¬ (1048576 : Int) < (s.size : Int) := by omega
  obtain ⟨T, k, hTl, hT⟩ := told_is s
  have HM := hide (fun w' => (spec_any s w' hs).mono (fun e w'' h => ends_of hT h))
  have HI := hide (fun w' hv => (impl_any s w' hs hv).mono (fun e w'' h => ends_of hT h))
  unfold Ends at HM HI
  have HV := hide hv
  have hkk : (k != k) = false := by cases k <;> rfl
  clear hT hv hs hsm
  go_enter Tryd.func3, Tryd.ntmps3
  go_wp2_with fail
  refine (unhide HM _).mono ?_
  rintro e w1 ⟨a1, c1, r1, rfl, ho1, hr1, hb1⟩
  have M1 := hide ho1
  have L1 := hide ho1.lt
  have B1 := hide hb1
  clear ho1 hr1 hb1
  go_wp2_with fail
  refine (unhide HI _ ((unhide HV).below (unhide B1))).mono ?_
  rintro e w2 ⟨a2, c2, r2, rfl, ho2, hr2, hb2⟩
  have G2 := hide ho2
  have M2 := hide ((unhide M1).below hb2 (Nat.le_refl _))
  have R2 := hide hr2
  have L2 := hide ho2.lt
  have B2 := hide ((unhide B1).trans (hb2.mono (unhide B1).size))
  have hz1 := (unhide B1).size
  clear ho2 hr2 hb2 M1 B1
  go_wp2_with fail
  refine (Nodes.eq_same a2 a1 c2 c1 T _ (NodesW.ours_at (unhide G2)) (NodesW.ours_at (unhide M2)) (by unfold maxLen; omega)).mono ?_
  rintro e w3 ⟨rfl, hb3⟩
  have G3 := hide ((unhide G2).below hb3 (Nat.le_refl _))
  have M3 := hide ((unhide M2).below hb3 (Nat.le_refl _))
  have B3 := hide ((unhide B2).trans (hb3.mono (unhide B2).size))
  clear hb3 G2 M2 B2
  go_wp2_with fail
  refine (NodesM.mark_any a2 c2 T.length (Nodes.icell T) r2 1 _ (unhide G3) (by omega) (by omega) (by omega)).mono ?_
  rintro e w4 ⟨rfl, hm4, hg4⟩
  have G4 := hide hm4
  have M4 := hide ((unhide M3).gb hg4 (fun g h e => by have h1 := unhide L1 g h; have h2 := unhide R2 g e.symm; omega))
  have B4 := hide ((unhide B3).grown hg4 (unhide B3).size (fun g e => by have h2 := unhide R2 g e; omega))
  clear hm4 hg4 G3 M3 B3
  have hk1 : ¬ 1 + (T.length : Int) * 2 < 0 := by omega
  go_wp2_with fail
  refine (NodesM.held_any a2 c2 T.length r2 1 _ (unhide G4) (by omega) (by omega) (by omega)).mono ?_
  rintro e w5 ⟨rfl, hb5⟩
  have G5 := hide ((unhide G4).below hb5 (Nat.le_refl _))
  have M5 := hide ((unhide M4).below hb5 (Nat.le_refl _))
  have B5 := hide ((unhide B4).trans (hb5.mono (unhide B4).size))
  clear hb5 G4 M4 B4
  go_wp2_with fail
  refine (unhide HI _ ((unhide HV).below (unhide B5))).mono ?_
  rintro e w6 ⟨a6, c6, r6, rfl, ho6, hr6, hb6⟩
  have H6 := hide ho6
  have G6 := hide ((unhide G5).below hb6 (Nat.le_refl _))
  have M6 := hide ((unhide M5).below hb6 (Nat.le_refl _))
  have B6 := hide ((unhide B5).trans (hb6.mono (unhide B5).size))
  clear ho6 hr6 hb6 G5 M5 B5
  go_wp2_with fail
  refine (Nodes.eq_same a6 a1 c6 c1 T _ (NodesW.ours_at (unhide H6)) (NodesW.ours_at (unhide M6)) (by unfold maxLen; omega)).mono ?_
  rintro e w7 ⟨rfl, hb7⟩
  have G7 := hide ((unhide G6).below hb7 (Nat.le_refl _))
  have B7 := hide ((unhide B6).trans (hb7.mono (unhide B6).size))
  clear hb7 G6 H6 M6 B6
  go_wp2_with fail
  refine (NodesM.held_any a2 c2 T.length r2 1 _ (unhide G7) (by omega) (by omega) (by omega)).mono ?_
  rintro e w8 ⟨rfl, hb8⟩
  have B8 := hide ((unhide B7).trans (hb8.mono (unhide B7).size))
  clear hb8 G7 B7
  go_wp2
  go_ret
  exact ⟨rfl, unhide B8⟩
end ReadNodesL
end Go.Proofs.YteiecijgmdbajaaDoor
