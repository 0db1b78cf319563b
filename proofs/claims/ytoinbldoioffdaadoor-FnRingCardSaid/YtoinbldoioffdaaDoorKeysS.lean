/-
  The contract of the model's l3Keys: at most sixty keys, each good, for every slice of strings that lies in memory.
-/
import Derived.Test.YtoinbldoioffdaaDoorKeyZ
namespace Go.Proofs.YtoinbldoioffdaaDoor
namespace KeysS
open Go.RowKit Base GoodKey GoodCmd
set_option linter.unusedVariables false

/-- Keys that may be asked for. -/
def kB (ks : List ByteArray) : Bool := inB ks.length 0 60 && ks.all gkb
theorem kB_bad {ks : List ByteArray} (h : ks.all gkb = false) : kB ks = false := by unfold kB; rw [h]; simp
theorem kB_all {ks : List ByteArray} (h : ks.all gkb = true) : decide ((ks.length : Int) ≤ 60) = kB ks := by unfold kB inB; rw [h]; simp
theorem kB_len {ks : List ByteArray} (h : kB ks = true) : ks.length ≤ 60 ∧ ∀ s ∈ ks, gkb s = true := by
  unfold kB inB at h
  simp only [Bool.and_eq_true, decide_eq_true_eq, List.all_eq_true] at h
  exact ⟨by omega, h.2⟩
theorem gkb_size {s : ByteArray} (h : gkb s = true) : s.size ≤ 30 := by
  unfold gkb gk inB at h
  simp only [Bool.and_eq_true, decide_eq_true_eq] at h
  have el : s.data.toList.length = s.size := by simp
  omega

set_option maxRecDepth 10000 in
set_option maxHeartbeats 1000000 in
theorem mkeys_any (b off cap : Nat) (ks : List ByteArray) (w : World) (hb : b < w.heap.size)
    (hc : ∀ i, i < ks.length → w.cell? ⟨b, off + i, none⟩ = some (.string (ks.getD i ByteArray.empty))) (hl : ks.length ≤ maxLen) (hs : ∀ s ∈ ks, s.size ≤ maxLen) :
    Calls Tryd.prog 17 #[.slice (some ⟨b, off, none⟩) ks.length cap] w fun e w' => e = .returned (.bool (kB ks)) ∧ w' = w := by
  unfold maxLen at hl
  have hcs := hide hc
  have hss := hide hs
  clear hc hs
  go_enter Tryd.func17, Tryd.ntmps17
  go_wp2
  go_loop [7] (fun i => ∃ k : Nat, k ≤ ks.length ∧ i = .int .i64 k ∧ Hid ((ks.take k).all gkb = true)) (fun i => ks.length - (intOf i).toNat)
  case atStart => exact ⟨0, Nat.zero_le _, rfl, hide rfl⟩
  case round =>
    obtain ⟨k, hk, rfl, ha⟩ := hrel
    by_cases hlt : k < ks.length
    · have hck := unhide hcs k hlt
      have hsk : Hid ((ks.getD k ByteArray.empty).size ≤ maxLen) := unhide hss _ (by rw [List.getD_eq_getElem?_getD, List.getElem?_eq_getElem hlt]; simp)
      have hst := hide (all_step ks k hlt (unhide ha))
      have hbad := hide (all_bad ks k hlt)
      have hgk : ∀ s : ByteArray, Hid (gk s.data.toList = gkb s) := fun s => hide rfl
      generalize ks.getD k ByteArray.empty = s at hck hsk hst hbad
      have hgs := hgk s
      clear hgk
      cases hg : gkb s
      · rw [hg] at hbad hgs
        have H := hide (kB_bad (unhide hbad rfl))
        clear hg hst hbad
        go_wp2_with fail
        refine (GoodKey.spec_any _ _ (unhide hsk)).mono ?_
        rintro e w1 ⟨rfl, rfl⟩
        rw [unhide hgs]
        go_wp2
        go_ret
        exact ⟨ret_bool (unhide H).symm, rfl⟩
      · rw [hg] at hst hgs
        have H := hide (unhide hst rfl)
        clear hg hst hbad
        go_wp2_with fail
        refine (GoodKey.spec_any _ _ (unhide hsk)).mono ?_
        rintro e w1 ⟨rfl, rfl⟩
        rw [unhide hgs]
        go_wp2
        go_round
        case rel => exact ⟨k + 1, by omega, by go_num, H⟩
        case measure => simp [intOf]; omega
    · have HA := hide (kB_all (all_whole ks k hk hlt (unhide ha)))
      go_wp2
      go_ret
      exact ⟨ret_bool (unhide HA), rfl⟩
end KeysS
end Go.Proofs.YtoinbldoioffdaaDoor
