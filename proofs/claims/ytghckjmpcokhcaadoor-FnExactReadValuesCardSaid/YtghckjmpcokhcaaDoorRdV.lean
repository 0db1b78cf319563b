/-
  FnExactReadValues returns true for every text and either token.
-/
import Derived.Test.YtghckjmpcokhcaaDoorRdS
import Derived.Test.YtghckjmpcokhcaaDoorRdM
import Derived.Test.YtghckjmpcokhcaaDoorItemsE
import Derived.Test.YtghckjmpcokhcaaDoorMarkItemsA
import Derived.Test.YtghckjmpcokhcaaDoorOwnItems
namespace Go.Proofs.YtghckjmpcokhcaaDoor
namespace ReadValuesL
open Go.RowKit Base Items Store Marks Own Rd
set_option linter.unusedVariables false

/-- Both ways end so. -/
def Ends (T : List Itm) (k : Bool) (w : World) (e : Ending) (w' : World) : Prop :=
  ∃ a c r, e = .returned (.tuple #[.slice a T.length c, .bool k]) ∧ Ours w' a T.length (icell T) r ∧ (∀ g, r = some g → w.heap.size ≤ g) ∧ Below w.heap.size w w'
theorem ends_of {s : ByteArray} {token : Bool} {w w' : World} {e : Ending} {T : List Itm} {k : Bool} (hT : (k = true ∧ rdR s token = some T) ∨ (k = false ∧ T = [] ∧ rdR s token = none))
    (h : ∃ v its ok, e = .returned (.tuple #[v, .bool ok]) ∧ w'.ownsRow w.heap.size 32 5 v its.length (flat its) ∧ Below w.heap.size w w' ∧ ((ok = true ∧ rdR s token = some its) ∨ (ok = false ∧ its = [] ∧ rdR s token = none))) : Ends T k w e w' := by
  obtain ⟨v, its, ok, rfl, ho, hb, hr⟩ := h
  have he : its = T ∧ ok = k := by
    rcases hT with ⟨rfl, h1⟩ | ⟨rfl, rfl, h1⟩ <;> rcases hr with ⟨rfl, h2⟩ | ⟨rfl, rfl, h2⟩
    · rw [h1] at h2; simp at h2; exact ⟨h2.symm, rfl⟩
    · rw [h1] at h2; simp at h2
    · rw [h1] at h2; simp at h2
    · exact ⟨rfl, rfl⟩
  obtain ⟨rfl, rfl⟩ := he
  obtain ⟨a, c, rfl⟩ := own_form ho
  obtain ⟨r, h1, h2⟩ := own_ours ho
  exact ⟨a, c, r, rfl, h1, h2, hb⟩
theorem told_is (s : ByteArray) (token : Bool) : ∃ T k, T.length ≤ 60 ∧ ((k = true ∧ rdR s token = some T) ∨ (k = false ∧ T = [] ∧ rdR s token = none)) := by
  by_cases h : ∃ l, Reads s token l
  · obtain ⟨l, hl⟩ := h
    exact ⟨l, true, hl.len, .inl ⟨rfl, rdR_some hl⟩⟩
  · exact ⟨[], false, by simp, .inr ⟨rfl, rfl, rdR_none (fun l hl => h ⟨l, hl⟩)⟩⟩

set_option maxHeartbeats 1000000 in
theorem spec_any (s : ByteArray) (token : Bool) (w : World) (hs : s.size ≤ 1048576) :
    Calls Tryd.prog 4 #[.string s, .bool token] w (MdEnd s token w) := by
  have H := hide (fun w' => l6Read_any s token w' hs)
  go_enter Tryd.func4, Tryd.ntmps4
  go_wp2_with fail
  refine (unhide H _).mono ?_
  rintro e w1 ⟨v, its, ok, rfl, h1, h2, h3⟩
  have H1 := hide (show MdEnd s token w (.returned (.tuple #[v, .bool ok])) w1 from ⟨v, its, ok, rfl, h1, h2, h3⟩)
  clear h1 h2 h3
  go_wp2
  go_ret2
  exact unhide H1

set_option maxRecDepth 10000 in
set_option maxHeartbeats 4000000 in
theorem walk (s : ByteArray) (token : Bool) (w : World) (hsm : s.size ≤ maxLen) (hv : V2 w) :
    Calls Tryd.prog 3 #[.string s, .bool token] w fun e w' => e = .returned (.bool true) ∧ Below w.heap.size w w' := by
  by_cases hs : s.size ≤ 1048576
  case neg =>
    have hs' : (1048576 : Int) < (s.size : Int) := by omega
    clear hv
    unfold maxLen at hsm
    go_enter Tryd.func3, Tryd.ntmps3
    go_wp2
    go_ret
    exact ⟨rfl, Below.refl _ _⟩
  have hs' : ¬ (1048576 : Int) < (s.size : Int) := by omega
  obtain ⟨T, k, hTl, hT⟩ := told_is s token
  have HM := hide (fun w' => (spec_any s token w' hs).mono (fun e w'' h => ends_of hT h))
  have HI := hide (fun w' hv => (impl_any s token w' hs hv).mono (fun e w'' h => ends_of hT h))
  unfold Ends at HM HI
  have HV := hide hv
  have hkk : (k != k) = false := by cases k <;> rfl
  clear hT hv hs hsm
  go_enter Tryd.func3, Tryd.ntmps3
  go_wp2_with fail
  refine (unhide HM _).mono ?_
  rintro e w1 ⟨a1, c1, r1, rfl, ho1, hr1, hb1⟩
  have M1 := hide ho1
  have L1 := hide ho1.lt
  have B1 := hide hb1
  clear ho1 hr1 hb1
  go_wp2_with fail
  refine (unhide HI _ ((unhide HV).below (unhide B1))).mono ?_
  rintro e w2 ⟨a2, c2, r2, rfl, ho2, hr2, hb2⟩
  have G2 := hide ho2
  have M2 := hide ((unhide M1).below hb2 (Nat.le_refl _))
  have R2 := hide hr2
  have L2 := hide ho2.lt
  have B2 := hide ((unhide B1).trans (hb2.mono (unhide B1).size))
  have hz1 := (unhide B1).size
  clear ho2 hr2 hb2 M1 B1
  go_wp2_with fail
  refine (eqItemS_same a2 a1 c2 c1 T _ (unhide G2).at (unhide M2).at (by unfold maxLen; omega)).mono ?_
  rintro e w3 ⟨rfl, hb3⟩
  have G3 := hide ((unhide G2).below hb3 (Nat.le_refl _))
  have M3 := hide ((unhide M2).below hb3 (Nat.le_refl _))
  have B3 := hide ((unhide B2).trans (hb3.mono (unhide B2).size))
  clear hb3 G2 M2 B2
  go_wp2_with fail
  refine (items_mark_any a2 c2 T.length (icell T) r2 1 _ (unhide G3) (by omega) (by omega) (by omega)).mono ?_
  rintro e w4 ⟨rfl, hm4, hg4⟩
  have G4 := hide hm4
  have M4 := hide ((unhide M3).gb hg4 (fun g h e => by have h1 := unhide L1 g h; have h2 := unhide R2 g e.symm; omega))
  have B4 := hide ((unhide B3).grown hg4 (unhide B3).size (fun g e => by have h2 := unhide R2 g e; omega))
  clear hm4 hg4 G3 M3 B3
  have hk1 : ¬ 1 + (T.length : Int) * 5 < 0 := by omega
  go_wp2_with fail
  refine (items_held_any a2 c2 T.length r2 1 _ (unhide G4) (by omega) (by omega) (by omega)).mono ?_
  rintro e w5 ⟨rfl, hb5⟩
  have G5 := hide ((unhide G4).below hb5 (Nat.le_refl _))
  have M5 := hide ((unhide M4).below hb5 (Nat.le_refl _))
  have B5 := hide ((unhide B4).trans (hb5.mono (unhide B4).size))
  clear hb5 G4 M4 B4
  go_wp2_with fail
  refine (unhide HI _ ((unhide HV).below (unhide B5))).mono ?_
  rintro e w6 ⟨a6, c6, r6, rfl, ho6, hr6, hb6⟩
  have H6 := hide ho6
  have G6 := hide ((unhide G5).below hb6 (Nat.le_refl _))
  have M6 := hide ((unhide M5).below hb6 (Nat.le_refl _))
  have B6 := hide ((unhide B5).trans (hb6.mono (unhide B5).size))
  clear ho6 hr6 hb6 G5 M5 B5
  go_wp2_with fail
  refine (eqItemS_same a6 a1 c6 c1 T _ (unhide H6).at (unhide M6).at (by unfold maxLen; omega)).mono ?_
  rintro e w7 ⟨rfl, hb7⟩
  have G7 := hide ((unhide G6).below hb7 (Nat.le_refl _))
  have B7 := hide ((unhide B6).trans (hb7.mono (unhide B6).size))
  clear hb7 G6 H6 M6 B6
  go_wp2_with fail
  refine (items_held_any a2 c2 T.length r2 1 _ (unhide G7) (by omega) (by omega) (by omega)).mono ?_
  rintro e w8 ⟨rfl, hb8⟩
  have B8 := hide ((unhide B7).trans (hb8.mono (unhide B7).size))
  clear hb8 G7 B7
  go_wp2
  go_ret
  exact ⟨rfl, unhide B8⟩
end ReadValuesL
end Go.Proofs.YtghckjmpcokhcaaDoor
