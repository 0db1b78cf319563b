/-
  Contracts of the model's l3Name and GoodNodes: plain functions of names and weights, for every slice of nodes that lies in memory.
-/
import Derived.Test.YteiecijgmdbajaaDoorNodeP
import Derived.Test.YteiecijgmdbajaaDoorRows
import Derived.Deep.RegionWith
import Derived.Test.YteiecijgmdbajaaDoorInS
import Derived.BigQuiet
import Derived.Deep.QuietTactic
import Derived.WalkLawsBesides
namespace Go.Proofs.YteiecijgmdbajaaDoor
namespace NodesM
open Go.RowKit Base GoodKey Nodes
set_option linter.unusedVariables false

def okc (c : UInt8) : Bool := (decide (97 ≤ c.toNat) && decide (c.toNat ≤ 122)) || (decide (48 ≤ c.toNat) && decide (c.toNat ≤ 57))
def nameB (l : List UInt8) : Bool := inB l.length 1 8 && l.all okc
theorem okc_yes {c : UInt8} (h : (97 ≤ (c.toNat : Int) ∧ (c.toNat : Int) ≤ 122) ∨ (48 ≤ (c.toNat : Int) ∧ (c.toNat : Int) ≤ 57)) : okc c = true := by
  simp only [okc, Bool.or_eq_true, Bool.and_eq_true, decide_eq_true_eq]; omega
theorem okc_no {c : UInt8} (h : ¬ ((97 ≤ (c.toNat : Int) ∧ (c.toNat : Int) ≤ 122) ∨ (48 ≤ (c.toNat : Int) ∧ (c.toNat : Int) ≤ 57))) : okc c = false := by
  rw [Bool.eq_false_iff]
  intro h2
  simp only [okc, Bool.or_eq_true, Bool.and_eq_true, decide_eq_true_eq] at h2; omega
theorem nall_step (s : ByteArray) (k : Nat) (h : k < s.size) (ha : (s.data.toList.take k).all okc = true) (hc : okc s[k] = true) : (s.data.toList.take (k + 1)).all okc = true := by
  rw [take_snoc s k h, List.all_append, ha]; simp [hc]
theorem nall_bad (s : ByteArray) (k : Nat) (h : k < s.size) (hc : okc s[k] = false) : nameB s.data.toList = false := by
  have hm : s[k] ∈ s.data.toList := by
    have e : s[k] = s.data.toList[k]'(by simpa using h) := rfl
    rw [e]; exact List.getElem_mem _
  have ha : s.data.toList.all okc = false := by rw [List.all_eq_false]; exact ⟨_, hm, by simp [hc]⟩
  simp [nameB, ha]
theorem nall_end (s : ByteArray) (k : Nat) (hk : k ≤ s.size) (h : ¬ k < s.size) (ha : (s.data.toList.take k).all okc = true) : inB s.size 1 8 = nameB s.data.toList := by
  have e : s.data.toList.take k = s.data.toList := List.take_of_length_le (by simp; omega)
  rw [e] at ha
  have el : s.data.toList.length = s.size := by simp
  simp [nameB, ha, el]

set_option maxHeartbeats 1000000 in
theorem name_any (s : ByteArray) (w : World) (hs : s.size ≤ maxLen) :
    Calls Tryd.prog 29 #[.string s] w fun e w' => e = .returned (.bool (nameB s.data.toList)) ∧ w' = w := by
  unfold maxLen at hs
  go_enter Tryd.func29, Tryd.ntmps29
  go_wp2
  go_loop [3] (fun i => ∃ k : Nat, k ≤ s.size ∧ i = .int .i64 k ∧ Hid ((s.data.toList.take k).all okc = true)) (fun i => s.size - (intOf i).toNat)
  case atStart => exact ⟨0, Nat.zero_le _, rfl, hide rfl⟩
  case round =>
    obtain ⟨k, hk, rfl, ha⟩ := hrel
    by_cases hlt : k < s.size
    · have hcase : (97 ≤ (s[k].toNat : Int) ∧ (s[k].toNat : Int) ≤ 122) ∨ (¬ 97 ≤ (s[k].toNat : Int) ∧ 48 ≤ (s[k].toNat : Int) ∧ (s[k].toNat : Int) ≤ 57) ∨ (97 ≤ (s[k].toNat : Int) ∧ ¬ (s[k].toNat : Int) ≤ 122) ∨
          (¬ 97 ≤ (s[k].toNat : Int) ∧ 48 ≤ (s[k].toNat : Int) ∧ ¬ (s[k].toNat : Int) ≤ 57) ∨ (¬ 97 ≤ (s[k].toNat : Int) ∧ ¬ 48 ≤ (s[k].toNat : Int)) := by omega
      rcases hcase with ⟨h1, h2⟩ | ⟨h1, h2, h3⟩ | ⟨h1, h2⟩ | ⟨h1, h2, h3⟩ | ⟨h1, h2⟩
      · have H := hide (nall_step s k hlt (unhide ha) (okc_yes (by omega)))
        go_wp2
        go_round
        case rel => exact ⟨k + 1, by omega, by go_num, H⟩
        case measure => simp [intOf]; omega
      · have H := hide (nall_step s k hlt (unhide ha) (okc_yes (by omega)))
        go_wp2
        go_round
        case rel => exact ⟨k + 1, by omega, by go_num, H⟩
        case measure => simp [intOf]; omega
      · have h3 : 48 ≤ (s[k].toNat : Int) := by omega
        have h4 : ¬ (s[k].toNat : Int) ≤ 57 := by omega
        have H := hide (nall_bad s k hlt (okc_no (by omega)))
        go_wp2
        go_ret
        exact ⟨ret_bool (unhide H).symm, rfl⟩
      · have H := hide (nall_bad s k hlt (okc_no (by omega)))
        go_wp2
        go_ret
        exact ⟨ret_bool (unhide H).symm, rfl⟩
      · have H := hide (nall_bad s k hlt (okc_no (by omega)))
        go_wp2
        go_ret
        exact ⟨ret_bool (unhide H).symm, rfl⟩
    · have H := hide (nall_end s k hk hlt (unhide ha))
      go_wp2_with (go_at_call 27; refine (l1In_any _ _ _ _).mono ?_; rintro e w' ⟨rfl, rfl⟩)
      go_ret
      exact ⟨ret_bool (unhide H), rfl⟩

def nodeB (x : D) : Bool := nameB x.name.data.toList && inB x.weight 1 5
def stepB (l : List D) (i : Nat) : Bool := nodeB (l.getD i zero) && (decide (i = 0) || Op.bytesLess (l.getD (i - 1) zero).name.toList (l.getD i zero).name.toList)
def goodTo (l : List D) (k : Nat) : Bool := (List.range k).all (stepB l)
def gnB (l : List D) : Bool := goodTo l l.length && inB l.length 1 8
theorem goodTo_step {l : List D} {k : Nat} (h : goodTo l k = true) (hs : stepB l k = true) : goodTo l (k + 1) = true := by
  unfold goodTo at *
  rw [List.range_succ, List.all_append, h]
  simp [hs]
theorem gn_bad {l : List D} {k : Nat} (hk : k < l.length) (hs : stepB l k = false) : gnB l = false := by
  have : goodTo l l.length = false := by
    unfold goodTo
    rw [List.all_eq_false]
    exact ⟨k, by simpa using hk, by simp [hs]⟩
  simp [gnB, this]
theorem gn_end {l : List D} (h : goodTo l l.length = true) : inB l.length 1 8 = gnB l := by simp [gnB, h]

set_option maxHeartbeats 2000000 in
theorem nodes_some (b off cap : Nat) (l : List D) (w : World) (hb : b < w.heap.size) (hc : ∀ i, i < l.length → At w b (off + i * 2) (l.getD i zero)) (hl : l.length ≤ maxLen) (hs : ∀ x ∈ l, Fits x) :
    Calls Tryd.prog 16 #[.slice (some ⟨b, off, none⟩) l.length cap] w fun e w' => e = .returned (.bool (gnB l)) ∧ Below w.heap.size w w' := by
  unfold maxLen at hl
  have hcs := hide hc
  have hss := hide hs
  clear hc hs
  go_enter Tryd.func16, Tryd.ntmps16
  go_wp2
  go_loopw [7] (fun i wr => ∃ k : Nat, k ≤ l.length ∧ i = .int .i64 k ∧ Hid (goodTo l k = true) ∧ Hid (Below w.heap.size w wr)) (fun i _ => l.length - (intOf i).toNat)
  case atStart => exact ⟨0, Nat.zero_le _, rfl, hide rfl, hide (Below.refl _ _)⟩
  case round =>
    obtain ⟨k, hk, rfl, hg, hbel⟩ := hrel
    by_cases hlt : k < l.length
    · obtain ⟨c0, c1⟩ := (unhide hcs k hlt).below (unhide hbel) hb
      have hfit := hide (fits_getD (unhide hss) k hlt)
      have hbad := hide (@gn_bad l k hlt)
      have hgs := hide (@goodTo_step l k (unhide hg))
      have hzb := (unhide hbel).size
      have hstep : Hid (stepB l k = (nodeB (l.getD k zero) && (decide (k = 0) || Op.bytesLess (l.getD (k - 1) zero).name.toList (l.getD k zero).name.toList))) := rfl
      have hprev : 0 < k → wr.cell? ⟨b, off + (k - 1) * 2, none⟩ = some (.string (l.getD (k - 1) zero).name) := fun h => ((unhide hcs (k - 1) (by omega)).below (unhide hbel) hb).1
      generalize l.getD k zero = x at c0 c1 hfit hstep
      generalize (l.getD (k - 1) zero).name = pn at hprev hstep
      have hname := fun w => name_any x.name w (unhide hfit)
      cases e1 : nameB x.name.data.toList
      · rw [e1] at hname
        have H := hide (unhide hbad (by rw [unhide hstep, nodeB, e1]; rfl))
        have HN := hide hname
        clear hname e1 hbad hgs hprev
        go_wp2
        go_quiet ((go_at_call 29; exact Calls.quiet_of_same (unhide HN _)))
        go_wp2
        go_ret
        exact ⟨ret_bool (unhide H).symm, bel_draws ((unhide hbel).alloc hzb _) _⟩
      rw [e1] at hname
      have HN := hide hname
      clear hname
      cases e2 : inB x.weight 1 5
      · have H := hide (unhide hbad (by rw [unhide hstep, nodeB, e1, e2]; rfl))
        clear e1 hbad hgs hprev
        go_wp2
        go_quiet ((first | (go_at_call 29; exact Calls.quiet_of_same (unhide HN _)) | (go_at_call 27; exact Calls.quiet_of_same (l1In_any _ _ _ _))))
        go_wp2
        go_ret
        exact ⟨ret_bool (unhide H).symm, bel_draws ((unhide hbel).alloc hzb _) _⟩
      have HST := hide ((unhide hstep).trans (by rw [nodeB, e1, e2]; rfl : _ = (decide (k = 0) || Op.bytesLess pn.toList x.name.toList)))
      clear hstep e1
      by_cases hk0 : k = 0
      · subst hk0
        have H := hide (unhide hgs (by rw [unhide HST]; rfl))
        rw [Nat.zero_mul, Nat.add_zero] at c0 c1
        clear hbad hgs hprev
        go_wp2
        go_quiet ((first | (go_at_call 29; exact Calls.quiet_of_same (unhide HN _)) | (go_at_call 27; exact Calls.quiet_of_same (l1In_any _ _ _ _))))
        go_wp2
        go_roundw
        case rel => exact ⟨1, by omega, by go_num, H, hide (bel_draws ((unhide hbel).alloc hzb _) _)⟩
        case measure => simp [intOf]; omega
      · obtain ⟨j, rfl⟩ : ∃ j, k = j + 1 := ⟨k - 1, by omega⟩
        have p0 := hprev (by omega)
        rw [Nat.add_sub_cancel] at p0
        have hkp : decide (0 < ((j + 1 : Nat) : Int)) = true := by simp
        have hwj : IntKind.i64.wrap (j : Int) = (j : Int) := by rw [IntKind.wrap_i64]; omega
        have hjl : (j : Int) < (l.length : Int) := by omega
        have hbw : b < wr.heap.size := Nat.lt_of_lt_of_le hb hzb
        have hj0 : (0 : Int) ≤ (j : Int) := by omega
        clear hprev hk0
        cases e3 : Op.bytesLess pn.toList x.name.toList
        · have H := hide (unhide hbad (by rw [unhide HST, e3]; simp))
          clear hbad hgs
          go_wp2
          go_quiet ((first | (go_at_call 29; exact Calls.quiet_of_same (unhide HN _)) | (go_at_call 27; exact Calls.quiet_of_same (l1In_any _ _ _ _))))
          go_wp2
          go_ret
          exact ⟨ret_bool (unhide H).symm, bel_draws ((unhide hbel).alloc hzb _) _⟩
        · have H := hide (unhide hgs (by rw [unhide HST, e3]; simp))
          clear hbad hgs
          go_wp2
          go_quiet ((first | (go_at_call 29; exact Calls.quiet_of_same (unhide HN _)) | (go_at_call 27; exact Calls.quiet_of_same (l1In_any _ _ _ _))))
          go_wp2
          go_roundw
          case rel => exact ⟨j + 1 + 1, by omega, by go_num, H, hide (bel_draws ((unhide hbel).alloc hzb _) _)⟩
          case measure => simp [intOf]; omega
    · obtain rfl : k = l.length := by omega
      have H := hide (gn_end (unhide hg))
      go_wp2_with (go_at_call 27; refine (l1In_any _ _ _ _).mono ?_; rintro e w' ⟨rfl, rfl⟩)
      go_ret
      exact ⟨ret_bool (unhide H), unhide hbel⟩
end NodesM
end Go.Proofs.YteiecijgmdbajaaDoor
