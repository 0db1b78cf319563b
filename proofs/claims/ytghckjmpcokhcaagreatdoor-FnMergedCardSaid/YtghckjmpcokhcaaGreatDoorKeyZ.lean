/-
  Lists of good keys, as plain data. No Go function is spoken of here.
-/
import Derived.Test.YtghckjmpcokhcaaGreatDoorNodesZ
namespace Go.Proofs.YtghckjmpcokhcaaGreatDoor
namespace GoodCmd
open Go.RowKit Base GoodKey
def gkb (s : ByteArray) : Bool := gk s.data.toList
theorem all_step (ks : List ByteArray) (k : Nat) (h : k < ks.length) (ha : (ks.take k).all gkb = true) (hg : gkb (ks.getD k ByteArray.empty) = true) : (ks.take (k + 1)).all gkb = true := by
  rw [List.take_succ_eq_append_getElem h, List.all_append, ha]
  simp [List.getD_eq_getElem?_getD, List.getElem?_eq_getElem h] at hg
  simp [hg]
theorem all_bad (ks : List ByteArray) (k : Nat) (h : k < ks.length) (hg : gkb (ks.getD k ByteArray.empty) = false) : ks.all gkb = false := by
  rw [List.all_eq_false]
  refine ⟨ks[k], List.getElem_mem _, ?_⟩
  simp [List.getD_eq_getElem?_getD, List.getElem?_eq_getElem h] at hg
  simp [hg]
theorem all_whole (ks : List ByteArray) (k : Nat) (hk : k ≤ ks.length) (h : ¬ k < ks.length) (ha : (ks.take k).all gkb = true) : ks.all gkb = true := by
  rw [List.take_of_length_le (by omega)] at ha
  exact ha
end GoodCmd
end Go.Proofs.YtghckjmpcokhcaaGreatDoor
/-
  The contract of the model's GoodKey: it answers by a plain function of the bytes, for every string.
-/
namespace Go.Proofs.YtghckjmpcokhcaaGreatDoor
namespace GoodKey
open Go.RowKit Base
set_option linter.unusedVariables false

set_option maxHeartbeats 400000 in
theorem spec_any (s : ByteArray) (w : World) (hs : s.size ≤ maxLen) :
    Calls Tryz.prog 59 #[.string s] w fun e w' => e = .returned (.bool (gk s.data.toList)) ∧ w' = w := by
  unfold maxLen at hs
  go_enter Tryz.func59, Tryz.ntmps59
  go_wp2
  go_loop [3] (fun i => ∃ k : Nat, k ≤ s.size ∧ i = .int .i64 k ∧ Hid ((s.data.toList.take k).all okb = true)) (fun i => s.size - (intOf i).toNat)
  case atStart => exact ⟨0, Nat.zero_le _, rfl, hide rfl⟩
  case round =>
    obtain ⟨k, hk, rfl, ha⟩ := hrel
    by_cases hlt : k < s.size
    · by_cases h1 : (s[k].toNat : Int) < 33
      · have H := hide (gk_bad s k hlt (.inl h1))
        go_wp2
        go_ret
        exact ⟨ret_bool (unhide H).symm, rfl⟩
      · by_cases h2 : 126 < (s[k].toNat : Int)
        · have H := hide (gk_bad s k hlt (.inr h2))
          go_wp2
          go_ret
          exact ⟨ret_bool (unhide H).symm, rfl⟩
        · have H := hide (all_snoc s k hlt (unhide ha) h1 h2)
          go_wp2
          go_round
          case rel => exact ⟨k + 1, by omega, by go_num, H⟩
          case measure => simp [intOf]; omega
    · have H := hide (gk_all s k hk hlt (unhide ha))
      go_wp2_with (go_at_call 58; refine (l1In_any _ _ _ _).mono ?_; rintro e w' ⟨rfl, rfl⟩)
      go_ret
      exact ⟨ret_bool (unhide H), rfl⟩

end GoodKey
end Go.Proofs.YtghckjmpcokhcaaGreatDoor
/-
  The contract of the model's l3Keys: at most sixty keys, each good, for every slice of strings that lies in memory.
-/
namespace Go.Proofs.YtghckjmpcokhcaaGreatDoor
namespace KeysS
open Go.RowKit Base GoodKey GoodCmd
set_option linter.unusedVariables false

/-- Keys that may be asked for. -/
def kB (ks : List ByteArray) : Bool := inB ks.length 0 60 && ks.all gkb
theorem kB_bad {ks : List ByteArray} (h : ks.all gkb = false) : kB ks = false := by unfold kB; rw [h]; simp
theorem kB_all {ks : List ByteArray} (h : ks.all gkb = true) : decide ((ks.length : Int) ≤ 60) = kB ks := by unfold kB inB; rw [h]; simp
theorem kB_len {ks : List ByteArray} (h : kB ks = true) : ks.length ≤ 60 ∧ ∀ s ∈ ks, gkb s = true := by
  unfold kB inB at h
  simp only [Bool.and_eq_true, decide_eq_true_eq, List.all_eq_true] at h
  exact ⟨by omega, h.2⟩
theorem gkb_size {s : ByteArray} (h : gkb s = true) : s.size ≤ 30 := by
  unfold gkb gk inB at h
  simp only [Bool.and_eq_true, decide_eq_true_eq] at h
  have el : s.data.toList.length = s.size := by simp
  omega

set_option maxRecDepth 10000 in
set_option maxHeartbeats 1000000 in
theorem mkeys_any (b off cap : Nat) (ks : List ByteArray) (w : World) (hb : b < w.heap.size)
    (hc : ∀ i, i < ks.length → w.cell? ⟨b, off + i, none⟩ = some (.string (ks.getD i ByteArray.empty))) (hl : ks.length ≤ maxLen) (hs : ∀ s ∈ ks, s.size ≤ maxLen) :
    Calls Tryz.prog 27 #[.slice (some ⟨b, off, none⟩) ks.length cap] w fun e w' => e = .returned (.bool (kB ks)) ∧ w' = w := by
  unfold maxLen at hl
  have hcs := hide hc
  have hss := hide hs
  clear hc hs
  go_enter Tryz.func27, Tryz.ntmps27
  go_wp2
  go_loop [7] (fun i => ∃ k : Nat, k ≤ ks.length ∧ i = .int .i64 k ∧ Hid ((ks.take k).all gkb = true)) (fun i => ks.length - (intOf i).toNat)
  case atStart => exact ⟨0, Nat.zero_le _, rfl, hide rfl⟩
  case round =>
    obtain ⟨k, hk, rfl, ha⟩ := hrel
    by_cases hlt : k < ks.length
    · have hck := unhide hcs k hlt
      have hsk : Hid ((ks.getD k ByteArray.empty).size ≤ maxLen) := unhide hss _ (by rw [List.getD_eq_getElem?_getD, List.getElem?_eq_getElem hlt]; simp)
      have hst := hide (all_step ks k hlt (unhide ha))
      have hbad := hide (all_bad ks k hlt)
      have hgk : ∀ s : ByteArray, Hid (gk s.data.toList = gkb s) := fun s => hide rfl
      generalize ks.getD k ByteArray.empty = s at hck hsk hst hbad
      have hgs := hgk s
      clear hgk
      cases hg : gkb s
      · rw [hg] at hbad hgs
        have H := hide (kB_bad (unhide hbad rfl))
        clear hg hst hbad
        go_wp2_with fail
        refine (GoodKey.spec_any _ _ (unhide hsk)).mono ?_
        rintro e w1 ⟨rfl, rfl⟩
        rw [unhide hgs]
        go_wp2
        go_ret
        exact ⟨ret_bool (unhide H).symm, rfl⟩
      · rw [hg] at hst hgs
        have H := hide (unhide hst rfl)
        clear hg hst hbad
        go_wp2_with fail
        refine (GoodKey.spec_any _ _ (unhide hsk)).mono ?_
        rintro e w1 ⟨rfl, rfl⟩
        rw [unhide hgs]
        go_wp2
        go_round
        case rel => exact ⟨k + 1, by omega, by go_num, H⟩
        case measure => simp [intOf]; omega
    · have HA := hide (kB_all (all_whole ks k hk hlt (unhide ha)))
      go_wp2
      go_ret
      exact ⟨ret_bool (unhide HA), rfl⟩
end KeysS
end Go.Proofs.YtghckjmpcokhcaaGreatDoor
/-
  Which keys have another owner, and how many keys each node has: plain data. No Go function is spoken of here.
-/
namespace Go.Proofs.YtghckjmpcokhcaaGreatDoor
namespace Ring
open Go.RowKit Base Points KeysS GoodCmd
set_option linter.unusedVariables false

def ownK (l : List Nodes.D) (key : ByteArray) : ByteArray := ownerN (ring (points l)) (Hash.hashN key.data.toList)
def movedB (la lb : List Nodes.D) (k : ByteArray) : Bool := !((ownK la k).toList == (ownK lb k).toList)
def movK (la lb : List Nodes.D) (ks : List ByteArray) : List ByteArray := ks.filter (movedB la lb)
def movOk (la lb : List Nodes.D) (ks : List ByteArray) : Bool := NodesM.gnB la && NodesM.gnB lb && kB ks
def movL (la lb : List Nodes.D) (ks : List ByteArray) : List ByteArray := if movOk la lb ks then movK la lb ks else []
theorem movK_step (la lb : List Nodes.D) (ks : List ByteArray) (k : Nat) (h : k < ks.length) : movK la lb (ks.take (k + 1)) = movK la lb (ks.take k) ++ (if movedB la lb (ks.getD k ByteArray.empty) then [ks.getD k ByteArray.empty] else []) := by
  have e : ks.getD k ByteArray.empty = ks[k] := by simp [h]
  rw [e, List.take_succ_eq_append_getElem h]
  unfold movK
  rw [List.filter_append]
  congr 1
  by_cases hm : movedB la lb ks[k] = true <;> simp [hm]
theorem movK_len (la lb : List Nodes.D) (ks : List ByteArray) (k : Nat) : (movK la lb (ks.take k)).length ≤ k := by
  unfold movK
  exact Nat.le_trans (List.length_filter_le _ _) (List.length_take_le _ _)
theorem movL_len (la lb : List Nodes.D) (ks : List ByteArray) : (movL la lb ks).length ≤ 60 := by
  unfold movL
  split
  · rename_i h
    unfold movOk at h
    simp only [Bool.and_eq_true] at h
    have h1 := (kB_len h.2).1
    unfold movK
    exact Nat.le_trans (List.length_filter_le _ _) h1
  · simp
theorem key_size {ks : List ByteArray} (h : kB ks = true) {k : Nat} (hk : k < ks.length) : (ks.getD k ByteArray.empty).size ≤ 30 := by
  have e : ks.getD k ByteArray.empty = ks[k] := by simp [hk]
  rw [e]
  exact gkb_size ((kB_len h).2 _ (List.getElem_mem _))
end Ring
end Go.Proofs.YtghckjmpcokhcaaGreatDoor
