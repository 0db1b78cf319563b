/-
  The program's CountText, over what the library's variables hold: what they answer, by the plain functions.
-/
import Derived.Test.YthlcmnjaimffdaaGreatDoorCountV
namespace Go.Proofs.YthlcmnjaimffdaaGreatDoor
namespace Count
open Go.RowKit Base GoodKey NumText
set_option linter.unusedVariables false

set_option maxRecDepth 10000 in
set_option maxHeartbeats 1000000 in
theorem count_any (s : ByteArray) (m : Int) (down : Bool) (w : World) (hs : s.size ≤ 1048576) (hm : (Lit.int .i64 m).wf = true) (hv : Vars w) :
    Calls Tryz.prog 94 #[.string s, .int .i64 m, .bool down] w fun e w' => e = .returned (countV (countB s.data.toList m down)) ∧ Below w.heap.size w w' := by
  have hmb := wf_bounds hm
  have HC := hide (count_eq s.data.toList m down)
  have hrd := readNumber_any s 999999999999999999 w hs (by omega) (by omega) hv
  have hbd : ∀ v, rdB s.data.toList 999999999999999999 = some v → 0 ≤ v ∧ v ≤ 999999999999999999 := by
    intro v e
    unfold rdB at e
    cases e2 : Lib.atoiAll s.data.toList with
    | ok u =>
      rw [e2] at e
      simp only at e
      split at e
      · rename_i hh; simp at e; omega
      · simp at e
    | «syntax» => rw [e2] at e; simp at e
    | range => rw [e2] at e; simp at e
  generalize rdB s.data.toList 999999999999999999 = o at HC hrd hbd
  have HV := hide hv
  have HR := hide hrd
  clear hrd hv hm
  cases o with
  | none =>
    clear hbd
    go_enter Tryz.func94, Tryz.ntmps94
    go_wp2_with fail
    refine (unhide HR).mono ?_
    rintro e w1 ⟨rfl, hb1⟩
    have HB1 := hide hb1
    clear hb1
    unfold rdV
    go_wp2
    go_ret2
    exact ⟨ret_cnt (o := none) (unhide HC).symm, unhide HB1⟩
  | some v =>
    obtain ⟨v0, v1⟩ := hbd v rfl
    clear hbd
    simp only at HC
    by_cases g1 : inB m 0 1000000000 = true
    · have g1' : 0 ≤ m ∧ m ≤ 1000000000 := by simp [inB] at g1; omega
      rw [if_pos g1] at HC
      clear g1
      cases down with
      | true =>
        obtain ⟨r, hr, hr0, hr1, hrr⟩ : ∃ r : Int, r = res v m true ∧ 0 ≤ r ∧ r ≤ 999999999999999999 ∧ r = max 0 (v - m) := by
          refine ⟨res v m true, rfl, ?_, ?_, ?_⟩
          · unfold res; simp; split <;> omega
          · unfold res; simp; split <;> omega
          · unfold res; simp; omega
        rw [← hr, if_neg (by omega)] at HC
        have HI := hide (fun w' (h : Vars w') => itoa_any r w' hr0 (by omega) h)
        clear hr
        subst hrr
        all_goals
          go_enter Tryz.func94, Tryz.ntmps94
          go_wp2_with fail
          refine (unhide HR).mono ?_
          rintro e w1 ⟨rfl, hb1⟩
          have HB1 := hide hb1
          have HV1 := hide ((unhide HV).below hb1)
          clear hb1
          unfold rdV
          go_wp2_with fail
          refine (unhide HI _ (unhide HV1)).mono ?_
          rintro e w2 ⟨rfl, hb2⟩
          have HB2 := hide ((unhide HB1).trans (hb2.mono (unhide HB1).size))
          clear hb2
          go_wp2
          go_ret2
          exact ⟨ret_cnt (o := some _) (unhide HC).symm, unhide HB2⟩
      | false =>
        obtain ⟨r, hr, hrr⟩ : ∃ r : Int, r = res v m false ∧ r = v + m := by
          refine ⟨res v m false, rfl, ?_⟩
          unfold res; simp; omega
        rw [← hr] at HC
        clear hr
        by_cases g : 999999999999999999 < r
        · rw [if_pos g] at HC
          subst hrr
          go_enter Tryz.func94, Tryz.ntmps94
          go_wp2_with fail
          refine (unhide HR).mono ?_
          rintro e w1 ⟨rfl, hb1⟩
          have HB1 := hide hb1
          clear hb1
          unfold rdV
          go_wp2
          go_ret2
          exact ⟨ret_cnt (o := none) (unhide HC).symm, unhide HB1⟩
        · rw [if_neg g] at HC
          have HI := hide (fun w' (h : Vars w') => itoa_any r w' (by omega) (by omega) h)
          subst hrr
          generalize txt (v + m).toNat = t at HC HI
          go_enter Tryz.func94, Tryz.ntmps94
          go_wp2_with fail
          refine (unhide HR).mono ?_
          rintro e w1 ⟨rfl, hb1⟩
          have HB1 := hide hb1
          have HV1 := hide ((unhide HV).below hb1)
          clear hb1
          unfold rdV
          go_wp2_with fail
          refine (unhide HI _ (unhide HV1)).mono ?_
          rintro e w2 ⟨rfl, hb2⟩
          have HB2 := hide ((unhide HB1).trans (hb2.mono (unhide HB1).size))
          clear hb2
          go_wp2
          go_ret2
          exact ⟨ret_cnt (o := some t) (unhide HC).symm, unhide HB2⟩
    · have g1' : m < 0 ∨ 1000000000 < m := by simp [inB] at g1; omega
      rw [if_neg g1] at HC
      clear g1
      rcases g1' with g | g
      all_goals
        go_enter Tryz.func94, Tryz.ntmps94
        go_wp2_with fail
        refine (unhide HR).mono ?_
        rintro e w1 ⟨rfl, hb1⟩
        have HB1 := hide hb1
        clear hb1
        unfold rdV
        go_wp2
        go_ret2
        exact ⟨ret_cnt (o := none) (unhide HC).symm, unhide HB1⟩
end Count
end Go.Proofs.YthlcmnjaimffdaaGreatDoor
