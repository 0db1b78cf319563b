/-
  The contract of the program's goodKeys: so many keys, each good, for every slice of strings that lies in memory.
-/
import Derived.Test.YtghckjmpcokhcaaGreatDoorKeyZ
import Derived.Test.YtghckjmpcokhcaaGreatDoorGoodKeyC
namespace Go.Proofs.YtghckjmpcokhcaaGreatDoor
namespace KeysI
open Go.RowKit Base GoodKey GoodCmd
set_option linter.unusedVariables false

theorem len_no1 {ks : List ByteArray} {lo hi : Int} (h : (ks.length : Int) < lo) : (inB ks.length lo hi && ks.all gkb) = false := by
  have : inB ks.length lo hi = false := by unfold inB; rw [decide_eq_false (show ¬ lo ≤ (ks.length : Int) by omega)]; rfl
  rw [this]; rfl
theorem len_no2 {ks : List ByteArray} {lo hi : Int} (h : hi < (ks.length : Int)) : (inB ks.length lo hi && ks.all gkb) = false := by
  have : inB ks.length lo hi = false := by unfold inB; rw [decide_eq_false (show ¬ (ks.length : Int) ≤ hi by omega)]; simp
  rw [this]; rfl
theorem len_yes {ks : List ByteArray} {lo hi : Int} (h1 : ¬ (ks.length : Int) < lo) (h2 : ¬ hi < (ks.length : Int)) : (inB ks.length lo hi && ks.all gkb) = ks.all gkb := by
  have : inB ks.length lo hi = true := by unfold inB; rw [decide_eq_true (show lo ≤ (ks.length : Int) by omega), decide_eq_true (show (ks.length : Int) ≤ hi by omega)]; rfl
  rw [this]; rfl

set_option maxRecDepth 10000 in
set_option maxHeartbeats 1000000 in
theorem keys_any (b off cap : Nat) (ks : List ByteArray) (lo hi : Int) (w : World) (hb : b < w.heap.size)
    (hc : ∀ i, i < ks.length → w.cell? ⟨b, off + i, none⟩ = some (.string (ks.getD i ByteArray.empty))) (hl : ks.length ≤ maxLen) (hs : ∀ s ∈ ks, s.size ≤ maxLen) :
    Calls Tryz.prog 22 #[.slice (some ⟨b, off, none⟩) ks.length cap, .int .i64 lo, .int .i64 hi] w fun e w' =>
      e = .returned (.bool (inB ks.length lo hi && ks.all gkb)) ∧ Below w.heap.size w w' := by
  unfold maxLen at hl
  by_cases g1 : (ks.length : Int) < lo
  · have H := hide (len_no1 (hi := hi) g1)
    go_enter Tryz.func22, Tryz.ntmps22
    go_wp2
    go_ret
    exact ⟨ret_bool (unhide H).symm, Below.refl _ _⟩
  by_cases g2 : hi < (ks.length : Int)
  · have H := hide (len_no2 (lo := lo) g2)
    go_enter Tryz.func22, Tryz.ntmps22
    go_wp2
    go_ret
    exact ⟨ret_bool (unhide H).symm, Below.refl _ _⟩
  have HL := hide (len_yes g1 g2)
  have hcs := hide hc
  have hss := hide hs
  clear hc hs
  go_enter Tryz.func22, Tryz.ntmps22
  go_wp2
  go_loop [21] (fun i => ∃ k : Nat, k ≤ ks.length ∧ i = .int .i64 k ∧ Hid ((ks.take k).all gkb = true)) (fun i => ks.length - (intOf i).toNat)
  case atStart => exact ⟨0, Nat.zero_le _, rfl, hide rfl⟩
  case round =>
    obtain ⟨k, hk, rfl, ha⟩ := hrel
    by_cases hlt : k < ks.length
    · have hck := unhide hcs k hlt
      have hsk : Hid ((ks.getD k ByteArray.empty).size ≤ maxLen) := unhide hss _ (by rw [List.getD_eq_getElem?_getD, List.getElem?_eq_getElem hlt]; simp)
      have hst := hide (all_step ks k hlt (unhide ha))
      have hbad := hide (all_bad ks k hlt)
      have hgk : ∀ s : ByteArray, Hid (gk s.data.toList = gkb s) := fun s => hide rfl
      generalize ks.getD k ByteArray.empty = s at hck hsk hst hbad
      have hgs := hgk s
      clear hgk
      cases hg : gkb s
      · rw [hg] at hbad hgs
        have H := hide (unhide hbad rfl)
        clear hg hst hbad
        go_wp2_with fail
        refine (GoodKey.impl_any _ _ (unhide hsk)).mono ?_
        rintro e w1 ⟨rfl, rfl⟩
        rw [unhide hgs]
        go_wp2
        go_ret
        exact ⟨ret_bool (by rw [unhide HL]; exact (unhide H).symm), Below.refl _ _⟩
      · rw [hg] at hst hgs
        have H := hide (unhide hst rfl)
        clear hg hst hbad
        go_wp2_with fail
        refine (GoodKey.impl_any _ _ (unhide hsk)).mono ?_
        rintro e w1 ⟨rfl, rfl⟩
        rw [unhide hgs]
        go_wp2
        go_round
        case rel => exact ⟨k + 1, by omega, by go_num, H⟩
        case measure => simp [intOf]; omega
    · have HA := hide (all_whole ks k hk hlt (unhide ha))
      go_wp2
      go_ret
      exact ⟨ret_bool (by rw [unhide HL]; exact (unhide HA).symm), Below.refl _ _⟩

end KeysI
end Go.Proofs.YtghckjmpcokhcaaGreatDoor
