/-
  Contracts of the model's l1Number and GoodCmd: it answers by the plain function gcB, for every command whose keys lie in memory.
-/
import Derived.Test.YthlcmnjaimffdaaGreatDoorGoodCmds
import Derived.Test.YthlcmnjaimffdaaGreatDoorPlain
namespace Go.Proofs.YthlcmnjaimffdaaGreatDoor
namespace GoodCmd
open Go.RowKit Base GoodKey Kind Num
set_option linter.unusedVariables false

set_option maxHeartbeats 4000000 in
theorem spec_k0 (nm : ByteArray) (b off cap : Nat) (ks : List ByteArray) (f x n : Int) (dt : ByteArray) (q : Bool) (w : World) (hb : b < w.heap.size)
    (hc : ∀ i, i < ks.length → w.cell? ⟨b, off + i, none⟩ = some (.string (ks.getD i ByteArray.empty)))
    (hl : ks.length ≤ maxLen) (hs : ∀ s ∈ ks, s.size ≤ maxLen) (hd : dt.size ≤ maxLen) (hK : Hid (kindN nm.toList = 0)) :
    Calls Tryz.prog 19 #[.agg #[.string nm, .slice (some ⟨b, off, none⟩) ks.length cap, .int .i64 f, .int .i64 x, .int .i64 n, .string dt, .bool q]] w fun e w' =>
      e = .returned (.bool (gcB 0 ks f x n dt q)) ∧ Below w.heap.size w w' := by
  unfold maxLen at hl hd
  have hcs := hide hc
  have hss := hide hs
  clear hc hs
  go_enter Tryz.func19, Tryz.ntmps19
  go_wp2_with fail
  refine (Kind.spec_any _ _).mono ?_
  rintro e w1 ⟨rfl, rfl⟩
  rw [unhide hK]
  go_wp2_with fail
  go_loop [13] (fun i => ∃ k : Nat, k ≤ ks.length ∧ i = .int .i64 k ∧ Hid ((ks.take k).all gkb = true)) (fun i => ks.length - (intOf i).toNat)
  case atStart => exact ⟨0, Nat.zero_le _, rfl, hide rfl⟩
  case round =>
    obtain ⟨k, hk, rfl, ha⟩ := hrel
    by_cases hlt : k < ks.length
    · have hck := unhide hcs k hlt
      have hsk : Hid ((ks.getD k ByteArray.empty).size ≤ maxLen) := unhide hss _ (by rw [List.getD_eq_getElem?_getD, List.getElem?_eq_getElem hlt]; simp)
      have hst := hide (all_step ks k hlt (unhide ha))
      have hbad := hide (all_bad ks k hlt)
      have hgk : ∀ s : ByteArray, Hid (gk s.data.toList = gkb s) := fun s => hide rfl
      generalize ks.getD k ByteArray.empty = s at hck hsk hst hbad
      have hgs := hgk s
      clear hgk
      have hlt2 : b < w.heap.size := hb
      cases hg : gkb s
      · rw [hg] at hbad hgs
        have H := hide (gcB_bad 0 ks f x n dt q (unhide hbad rfl))
        clear hg hst hbad
        go_wp2_with fail
        refine (GoodKey.spec_any _ _ (unhide hsk)).mono ?_
        rintro e w1 ⟨rfl, rfl⟩
        rw [unhide hgs]
        go_wp2
        go_ret
        exact ⟨ret_bool (unhide H).symm, bel1 w _⟩
      · rw [hg] at hst hgs
        have H := hide (unhide hst rfl)
        clear hg hst hbad
        go_wp2_with fail
        refine (GoodKey.spec_any _ _ (unhide hsk)).mono ?_
        rintro e w1 ⟨rfl, rfl⟩
        rw [unhide hgs]
        go_wp2
        go_round
        case rel => exact ⟨k + 1, by omega, by go_num, H⟩
        case measure => simp [intOf]; omega
    · have HA := hide (all_whole ks k hk hlt (unhide ha))
      go_wp2_with (first | (go_at_call 41; refine (number_any _ _).mono ?_; rintro e w1 ⟨rfl, rfl⟩) | (go_at_call 36; refine (l1In_any _ _ _ _).mono ?_; rintro e w1 ⟨rfl, rfl⟩))
      all_goals
        go_ret
        exact ⟨rfl, bel1 w _⟩

set_option maxHeartbeats 4000000 in
theorem spec_k1 (nm : ByteArray) (b off cap : Nat) (ks : List ByteArray) (f x n : Int) (dt : ByteArray) (q : Bool) (w : World) (hb : b < w.heap.size)
    (hc : ∀ i, i < ks.length → w.cell? ⟨b, off + i, none⟩ = some (.string (ks.getD i ByteArray.empty)))
    (hl : ks.length ≤ maxLen) (hs : ∀ s ∈ ks, s.size ≤ maxLen) (hd : dt.size ≤ maxLen) (hK : Hid (kindN nm.toList = 1)) :
    Calls Tryz.prog 19 #[.agg #[.string nm, .slice (some ⟨b, off, none⟩) ks.length cap, .int .i64 f, .int .i64 x, .int .i64 n, .string dt, .bool q]] w fun e w' =>
      e = .returned (.bool (gcB 1 ks f x n dt q)) ∧ Below w.heap.size w w' := by
  unfold maxLen at hl hd
  have hcs := hide hc
  have hss := hide hs
  clear hc hs
  go_enter Tryz.func19, Tryz.ntmps19
  go_wp2_with fail
  refine (Kind.spec_any _ _).mono ?_
  rintro e w1 ⟨rfl, rfl⟩
  rw [unhide hK]
  go_wp2_with fail
  go_loop [13] (fun i => ∃ k : Nat, k ≤ ks.length ∧ i = .int .i64 k ∧ Hid ((ks.take k).all gkb = true)) (fun i => ks.length - (intOf i).toNat)
  case atStart => exact ⟨0, Nat.zero_le _, rfl, hide rfl⟩
  case round =>
    obtain ⟨k, hk, rfl, ha⟩ := hrel
    by_cases hlt : k < ks.length
    · have hck := unhide hcs k hlt
      have hsk : Hid ((ks.getD k ByteArray.empty).size ≤ maxLen) := unhide hss _ (by rw [List.getD_eq_getElem?_getD, List.getElem?_eq_getElem hlt]; simp)
      have hst := hide (all_step ks k hlt (unhide ha))
      have hbad := hide (all_bad ks k hlt)
      have hgk : ∀ s : ByteArray, Hid (gk s.data.toList = gkb s) := fun s => hide rfl
      generalize ks.getD k ByteArray.empty = s at hck hsk hst hbad
      have hgs := hgk s
      clear hgk
      have hlt2 : b < w.heap.size := hb
      cases hg : gkb s
      · rw [hg] at hbad hgs
        have H := hide (gcB_bad 1 ks f x n dt q (unhide hbad rfl))
        clear hg hst hbad
        go_wp2_with fail
        refine (GoodKey.spec_any _ _ (unhide hsk)).mono ?_
        rintro e w1 ⟨rfl, rfl⟩
        rw [unhide hgs]
        go_wp2
        go_ret
        exact ⟨ret_bool (unhide H).symm, bel1 w _⟩
      · rw [hg] at hst hgs
        have H := hide (unhide hst rfl)
        clear hg hst hbad
        go_wp2_with fail
        refine (GoodKey.spec_any _ _ (unhide hsk)).mono ?_
        rintro e w1 ⟨rfl, rfl⟩
        rw [unhide hgs]
        go_wp2
        go_round
        case rel => exact ⟨k + 1, by omega, by go_num, H⟩
        case measure => simp [intOf]; omega
    · have HA := hide (all_whole ks k hk hlt (unhide ha))
      go_wp2_with (first | (go_at_call 41; refine (number_any _ _).mono ?_; rintro e w1 ⟨rfl, rfl⟩) | (go_at_call 36; refine (l1In_any _ _ _ _).mono ?_; rintro e w1 ⟨rfl, rfl⟩))
      all_goals
        go_ret
        refine ⟨ret_bool ?_, bel1 w _⟩
        rw [gcB1]
        first
          | exact form_f (num_no ‹_›)
          | exact form_x (num_no ‹_›)
          | exact form_n (num_no ‹_›)
          | exact form_d (dat_no ‹_›)
          | exact form_f (num_not0 ‹_›)
          | exact form_d (dat_not0 ‹_›)
          | exact form_x (num_not0 ‹_›)
          | exact form_n (num_not0 (ne_of ‹_›))
          | skip
      all_goals rw [form_end (unhide HA) (num_zero ‹f = 0›) (num_zero ‹x = 0›) (num_zero (eq_of ‹(n != 0) = false›)) (dat_zero ‹dt.toList = []›)]
      · rw [‹inB (ks.length : Int) 1 10 = true›]; simp
      · rw [Bool.eq_false_iff.2 ‹¬ inB (ks.length : Int) 1 10 = true›]; simp

set_option maxHeartbeats 4000000 in
theorem spec_k2 (nm : ByteArray) (b off cap : Nat) (ks : List ByteArray) (f x n : Int) (dt : ByteArray) (q : Bool) (w : World) (hb : b < w.heap.size)
    (hc : ∀ i, i < ks.length → w.cell? ⟨b, off + i, none⟩ = some (.string (ks.getD i ByteArray.empty)))
    (hl : ks.length ≤ maxLen) (hs : ∀ s ∈ ks, s.size ≤ maxLen) (hd : dt.size ≤ maxLen) (hK : Hid (kindN nm.toList = 2)) :
    Calls Tryz.prog 19 #[.agg #[.string nm, .slice (some ⟨b, off, none⟩) ks.length cap, .int .i64 f, .int .i64 x, .int .i64 n, .string dt, .bool q]] w fun e w' =>
      e = .returned (.bool (gcB 2 ks f x n dt q)) ∧ Below w.heap.size w w' := by
  unfold maxLen at hl hd
  have hcs := hide hc
  have hss := hide hs
  clear hc hs
  go_enter Tryz.func19, Tryz.ntmps19
  go_wp2_with fail
  refine (Kind.spec_any _ _).mono ?_
  rintro e w1 ⟨rfl, rfl⟩
  rw [unhide hK]
  go_wp2_with fail
  go_loop [13] (fun i => ∃ k : Nat, k ≤ ks.length ∧ i = .int .i64 k ∧ Hid ((ks.take k).all gkb = true)) (fun i => ks.length - (intOf i).toNat)
  case atStart => exact ⟨0, Nat.zero_le _, rfl, hide rfl⟩
  case round =>
    obtain ⟨k, hk, rfl, ha⟩ := hrel
    by_cases hlt : k < ks.length
    · have hck := unhide hcs k hlt
      have hsk : Hid ((ks.getD k ByteArray.empty).size ≤ maxLen) := unhide hss _ (by rw [List.getD_eq_getElem?_getD, List.getElem?_eq_getElem hlt]; simp)
      have hst := hide (all_step ks k hlt (unhide ha))
      have hbad := hide (all_bad ks k hlt)
      have hgk : ∀ s : ByteArray, Hid (gk s.data.toList = gkb s) := fun s => hide rfl
      generalize ks.getD k ByteArray.empty = s at hck hsk hst hbad
      have hgs := hgk s
      clear hgk
      have hlt2 : b < w.heap.size := hb
      cases hg : gkb s
      · rw [hg] at hbad hgs
        have H := hide (gcB_bad 2 ks f x n dt q (unhide hbad rfl))
        clear hg hst hbad
        go_wp2_with fail
        refine (GoodKey.spec_any _ _ (unhide hsk)).mono ?_
        rintro e w1 ⟨rfl, rfl⟩
        rw [unhide hgs]
        go_wp2
        go_ret
        exact ⟨ret_bool (unhide H).symm, bel1 w _⟩
      · rw [hg] at hst hgs
        have H := hide (unhide hst rfl)
        clear hg hst hbad
        go_wp2_with fail
        refine (GoodKey.spec_any _ _ (unhide hsk)).mono ?_
        rintro e w1 ⟨rfl, rfl⟩
        rw [unhide hgs]
        go_wp2
        go_round
        case rel => exact ⟨k + 1, by omega, by go_num, H⟩
        case measure => simp [intOf]; omega
    · have HA := hide (all_whole ks k hk hlt (unhide ha))
      go_wp2_with (first | (go_at_call 41; refine (number_any _ _).mono ?_; rintro e w1 ⟨rfl, rfl⟩) | (go_at_call 36; refine (l1In_any _ _ _ _).mono ?_; rintro e w1 ⟨rfl, rfl⟩))
      all_goals
        go_ret
        refine ⟨ret_bool ?_, bel1 w _⟩
        rw [gcB2]
        first
          | exact form_f (num_no ‹_›)
          | exact form_x (num_no ‹_›)
          | exact form_n (num_no ‹_›)
          | exact form_d (dat_no ‹_›)
          | exact form_f (num_not0 ‹_›)
          | exact form_d (dat_not0 ‹_›)
          | exact form_x (num_not0 ‹_›)
          | exact form_n (num_not0 (ne_of ‹_›))
          | skip
      all_goals rw [form_end (unhide HA) (num_yes ‹inB f 0 1000000000 = true›) (num_yes ‹inB x 0 1000000000 = true›) (num_zero (eq_of ‹(n != 0) = false›)) (dat_yes ‹(dt.size : Int) ≤ 100›)]
      rw [one_len]; simp

set_option maxHeartbeats 4000000 in
theorem spec_k3 (nm : ByteArray) (b off cap : Nat) (ks : List ByteArray) (f x n : Int) (dt : ByteArray) (q : Bool) (w : World) (hb : b < w.heap.size)
    (hc : ∀ i, i < ks.length → w.cell? ⟨b, off + i, none⟩ = some (.string (ks.getD i ByteArray.empty)))
    (hl : ks.length ≤ maxLen) (hs : ∀ s ∈ ks, s.size ≤ maxLen) (hd : dt.size ≤ maxLen) (hK : Hid (kindN nm.toList = 3)) :
    Calls Tryz.prog 19 #[.agg #[.string nm, .slice (some ⟨b, off, none⟩) ks.length cap, .int .i64 f, .int .i64 x, .int .i64 n, .string dt, .bool q]] w fun e w' =>
      e = .returned (.bool (gcB 3 ks f x n dt q)) ∧ Below w.heap.size w w' := by
  unfold maxLen at hl hd
  have hcs := hide hc
  have hss := hide hs
  clear hc hs
  go_enter Tryz.func19, Tryz.ntmps19
  go_wp2_with fail
  refine (Kind.spec_any _ _).mono ?_
  rintro e w1 ⟨rfl, rfl⟩
  rw [unhide hK]
  go_wp2_with fail
  go_loop [13] (fun i => ∃ k : Nat, k ≤ ks.length ∧ i = .int .i64 k ∧ Hid ((ks.take k).all gkb = true)) (fun i => ks.length - (intOf i).toNat)
  case atStart => exact ⟨0, Nat.zero_le _, rfl, hide rfl⟩
  case round =>
    obtain ⟨k, hk, rfl, ha⟩ := hrel
    by_cases hlt : k < ks.length
    · have hck := unhide hcs k hlt
      have hsk : Hid ((ks.getD k ByteArray.empty).size ≤ maxLen) := unhide hss _ (by rw [List.getD_eq_getElem?_getD, List.getElem?_eq_getElem hlt]; simp)
      have hst := hide (all_step ks k hlt (unhide ha))
      have hbad := hide (all_bad ks k hlt)
      have hgk : ∀ s : ByteArray, Hid (gk s.data.toList = gkb s) := fun s => hide rfl
      generalize ks.getD k ByteArray.empty = s at hck hsk hst hbad
      have hgs := hgk s
      clear hgk
      have hlt2 : b < w.heap.size := hb
      cases hg : gkb s
      · rw [hg] at hbad hgs
        have H := hide (gcB_bad 3 ks f x n dt q (unhide hbad rfl))
        clear hg hst hbad
        go_wp2_with fail
        refine (GoodKey.spec_any _ _ (unhide hsk)).mono ?_
        rintro e w1 ⟨rfl, rfl⟩
        rw [unhide hgs]
        go_wp2
        go_ret
        exact ⟨ret_bool (unhide H).symm, bel1 w _⟩
      · rw [hg] at hst hgs
        have H := hide (unhide hst rfl)
        clear hg hst hbad
        go_wp2_with fail
        refine (GoodKey.spec_any _ _ (unhide hsk)).mono ?_
        rintro e w1 ⟨rfl, rfl⟩
        rw [unhide hgs]
        go_wp2
        go_round
        case rel => exact ⟨k + 1, by omega, by go_num, H⟩
        case measure => simp [intOf]; omega
    · have HA := hide (all_whole ks k hk hlt (unhide ha))
      go_wp2_with (first | (go_at_call 41; refine (number_any _ _).mono ?_; rintro e w1 ⟨rfl, rfl⟩) | (go_at_call 36; refine (l1In_any _ _ _ _).mono ?_; rintro e w1 ⟨rfl, rfl⟩))
      all_goals
        go_ret
        refine ⟨ret_bool ?_, bel1 w _⟩
        rw [gcB3]
        first
          | exact form_f (num_no ‹_›)
          | exact form_x (num_no ‹_›)
          | exact form_n (num_no ‹_›)
          | exact form_d (dat_no ‹_›)
          | exact form_f (num_not0 ‹_›)
          | exact form_d (dat_not0 ‹_›)
          | exact form_x (num_not0 ‹_›)
          | exact form_n (num_not0 (ne_of ‹_›))
          | skip
      all_goals rw [form_end (unhide HA) (num_yes ‹inB f 0 1000000000 = true›) (num_yes ‹inB x 0 1000000000 = true›) (num_yes ‹inB n 0 1000000000 = true›) (dat_yes ‹(dt.size : Int) ≤ 100›)]
      rw [one_len]; simp

set_option maxHeartbeats 4000000 in
theorem spec_k4 (nm : ByteArray) (b off cap : Nat) (ks : List ByteArray) (f x n : Int) (dt : ByteArray) (q : Bool) (w : World) (hb : b < w.heap.size)
    (hc : ∀ i, i < ks.length → w.cell? ⟨b, off + i, none⟩ = some (.string (ks.getD i ByteArray.empty)))
    (hl : ks.length ≤ maxLen) (hs : ∀ s ∈ ks, s.size ≤ maxLen) (hd : dt.size ≤ maxLen) (hK : Hid (kindN nm.toList = 4)) :
    Calls Tryz.prog 19 #[.agg #[.string nm, .slice (some ⟨b, off, none⟩) ks.length cap, .int .i64 f, .int .i64 x, .int .i64 n, .string dt, .bool q]] w fun e w' =>
      e = .returned (.bool (gcB 4 ks f x n dt q)) ∧ Below w.heap.size w w' := by
  unfold maxLen at hl hd
  have hcs := hide hc
  have hss := hide hs
  clear hc hs
  go_enter Tryz.func19, Tryz.ntmps19
  go_wp2_with fail
  refine (Kind.spec_any _ _).mono ?_
  rintro e w1 ⟨rfl, rfl⟩
  rw [unhide hK]
  go_wp2_with fail
  go_loop [13] (fun i => ∃ k : Nat, k ≤ ks.length ∧ i = .int .i64 k ∧ Hid ((ks.take k).all gkb = true)) (fun i => ks.length - (intOf i).toNat)
  case atStart => exact ⟨0, Nat.zero_le _, rfl, hide rfl⟩
  case round =>
    obtain ⟨k, hk, rfl, ha⟩ := hrel
    by_cases hlt : k < ks.length
    · have hck := unhide hcs k hlt
      have hsk : Hid ((ks.getD k ByteArray.empty).size ≤ maxLen) := unhide hss _ (by rw [List.getD_eq_getElem?_getD, List.getElem?_eq_getElem hlt]; simp)
      have hst := hide (all_step ks k hlt (unhide ha))
      have hbad := hide (all_bad ks k hlt)
      have hgk : ∀ s : ByteArray, Hid (gk s.data.toList = gkb s) := fun s => hide rfl
      generalize ks.getD k ByteArray.empty = s at hck hsk hst hbad
      have hgs := hgk s
      clear hgk
      have hlt2 : b < w.heap.size := hb
      cases hg : gkb s
      · rw [hg] at hbad hgs
        have H := hide (gcB_bad 4 ks f x n dt q (unhide hbad rfl))
        clear hg hst hbad
        go_wp2_with fail
        refine (GoodKey.spec_any _ _ (unhide hsk)).mono ?_
        rintro e w1 ⟨rfl, rfl⟩
        rw [unhide hgs]
        go_wp2
        go_ret
        exact ⟨ret_bool (unhide H).symm, bel1 w _⟩
      · rw [hg] at hst hgs
        have H := hide (unhide hst rfl)
        clear hg hst hbad
        go_wp2_with fail
        refine (GoodKey.spec_any _ _ (unhide hsk)).mono ?_
        rintro e w1 ⟨rfl, rfl⟩
        rw [unhide hgs]
        go_wp2
        go_round
        case rel => exact ⟨k + 1, by omega, by go_num, H⟩
        case measure => simp [intOf]; omega
    · have HA := hide (all_whole ks k hk hlt (unhide ha))
      go_wp2_with (first | (go_at_call 41; refine (number_any _ _).mono ?_; rintro e w1 ⟨rfl, rfl⟩) | (go_at_call 36; refine (l1In_any _ _ _ _).mono ?_; rintro e w1 ⟨rfl, rfl⟩))
      all_goals
        go_ret
        refine ⟨ret_bool ?_, bel1 w _⟩
        rw [gcB4]
        first
          | exact form_f (num_no ‹_›)
          | exact form_x (num_no ‹_›)
          | exact form_n (num_no ‹_›)
          | exact form_d (dat_no ‹_›)
          | exact form_f (num_not0 ‹_›)
          | exact form_d (dat_not0 ‹_›)
          | exact form_x (num_not0 ‹_›)
          | exact form_n (num_not0 (ne_of ‹_›))
          | skip
      all_goals rw [form_end (unhide HA) (num_zero ‹f = 0›) (num_zero ‹x = 0›) (num_yes ‹inB n 0 1000000000 = true›) (dat_zero ‹dt.toList = []›)]
      rw [one_len]; simp

set_option maxHeartbeats 4000000 in
theorem spec_k5 (nm : ByteArray) (b off cap : Nat) (ks : List ByteArray) (f x n : Int) (dt : ByteArray) (q : Bool) (w : World) (hb : b < w.heap.size)
    (hc : ∀ i, i < ks.length → w.cell? ⟨b, off + i, none⟩ = some (.string (ks.getD i ByteArray.empty)))
    (hl : ks.length ≤ maxLen) (hs : ∀ s ∈ ks, s.size ≤ maxLen) (hd : dt.size ≤ maxLen) (hK : Hid (kindN nm.toList = 5)) :
    Calls Tryz.prog 19 #[.agg #[.string nm, .slice (some ⟨b, off, none⟩) ks.length cap, .int .i64 f, .int .i64 x, .int .i64 n, .string dt, .bool q]] w fun e w' =>
      e = .returned (.bool (gcB 5 ks f x n dt q)) ∧ Below w.heap.size w w' := by
  unfold maxLen at hl hd
  have hcs := hide hc
  have hss := hide hs
  clear hc hs
  go_enter Tryz.func19, Tryz.ntmps19
  go_wp2_with fail
  refine (Kind.spec_any _ _).mono ?_
  rintro e w1 ⟨rfl, rfl⟩
  rw [unhide hK]
  go_wp2_with fail
  go_loop [13] (fun i => ∃ k : Nat, k ≤ ks.length ∧ i = .int .i64 k ∧ Hid ((ks.take k).all gkb = true)) (fun i => ks.length - (intOf i).toNat)
  case atStart => exact ⟨0, Nat.zero_le _, rfl, hide rfl⟩
  case round =>
    obtain ⟨k, hk, rfl, ha⟩ := hrel
    by_cases hlt : k < ks.length
    · have hck := unhide hcs k hlt
      have hsk : Hid ((ks.getD k ByteArray.empty).size ≤ maxLen) := unhide hss _ (by rw [List.getD_eq_getElem?_getD, List.getElem?_eq_getElem hlt]; simp)
      have hst := hide (all_step ks k hlt (unhide ha))
      have hbad := hide (all_bad ks k hlt)
      have hgk : ∀ s : ByteArray, Hid (gk s.data.toList = gkb s) := fun s => hide rfl
      generalize ks.getD k ByteArray.empty = s at hck hsk hst hbad
      have hgs := hgk s
      clear hgk
      have hlt2 : b < w.heap.size := hb
      cases hg : gkb s
      · rw [hg] at hbad hgs
        have H := hide (gcB_bad 5 ks f x n dt q (unhide hbad rfl))
        clear hg hst hbad
        go_wp2_with fail
        refine (GoodKey.spec_any _ _ (unhide hsk)).mono ?_
        rintro e w1 ⟨rfl, rfl⟩
        rw [unhide hgs]
        go_wp2
        go_ret
        exact ⟨ret_bool (unhide H).symm, bel1 w _⟩
      · rw [hg] at hst hgs
        have H := hide (unhide hst rfl)
        clear hg hst hbad
        go_wp2_with fail
        refine (GoodKey.spec_any _ _ (unhide hsk)).mono ?_
        rintro e w1 ⟨rfl, rfl⟩
        rw [unhide hgs]
        go_wp2
        go_round
        case rel => exact ⟨k + 1, by omega, by go_num, H⟩
        case measure => simp [intOf]; omega
    · have HA := hide (all_whole ks k hk hlt (unhide ha))
      go_wp2_with (first | (go_at_call 41; refine (number_any _ _).mono ?_; rintro e w1 ⟨rfl, rfl⟩) | (go_at_call 36; refine (l1In_any _ _ _ _).mono ?_; rintro e w1 ⟨rfl, rfl⟩))
      all_goals
        go_ret
        refine ⟨ret_bool ?_, bel1 w _⟩
        rw [gcB5]
        first
          | exact form_f (num_no ‹_›)
          | exact form_x (num_no ‹_›)
          | exact form_n (num_no ‹_›)
          | exact form_d (dat_no ‹_›)
          | exact form_f (num_not0 ‹_›)
          | exact form_d (dat_not0 ‹_›)
          | exact form_x (num_not0 ‹_›)
          | exact form_n (num_not0 (ne_of ‹_›))
          | skip
      all_goals rw [form_end (unhide HA) (num_zero ‹f = 0›) (num_yes ‹inB x 0 1000000000 = true›) (num_zero (eq_of ‹(n != 0) = false›)) (dat_zero ‹dt.toList = []›)]
      rw [one_len]; simp

set_option maxHeartbeats 4000000 in
theorem spec_k6 (nm : ByteArray) (b off cap : Nat) (ks : List ByteArray) (f x n : Int) (dt : ByteArray) (q : Bool) (w : World) (hb : b < w.heap.size)
    (hc : ∀ i, i < ks.length → w.cell? ⟨b, off + i, none⟩ = some (.string (ks.getD i ByteArray.empty)))
    (hl : ks.length ≤ maxLen) (hs : ∀ s ∈ ks, s.size ≤ maxLen) (hd : dt.size ≤ maxLen) (hK : Hid (kindN nm.toList = 6)) :
    Calls Tryz.prog 19 #[.agg #[.string nm, .slice (some ⟨b, off, none⟩) ks.length cap, .int .i64 f, .int .i64 x, .int .i64 n, .string dt, .bool q]] w fun e w' =>
      e = .returned (.bool (gcB 6 ks f x n dt q)) ∧ Below w.heap.size w w' := by
  unfold maxLen at hl hd
  have hcs := hide hc
  have hss := hide hs
  clear hc hs
  go_enter Tryz.func19, Tryz.ntmps19
  go_wp2_with fail
  refine (Kind.spec_any _ _).mono ?_
  rintro e w1 ⟨rfl, rfl⟩
  rw [unhide hK]
  go_wp2_with fail
  go_loop [13] (fun i => ∃ k : Nat, k ≤ ks.length ∧ i = .int .i64 k ∧ Hid ((ks.take k).all gkb = true)) (fun i => ks.length - (intOf i).toNat)
  case atStart => exact ⟨0, Nat.zero_le _, rfl, hide rfl⟩
  case round =>
    obtain ⟨k, hk, rfl, ha⟩ := hrel
    by_cases hlt : k < ks.length
    · have hck := unhide hcs k hlt
      have hsk : Hid ((ks.getD k ByteArray.empty).size ≤ maxLen) := unhide hss _ (by rw [List.getD_eq_getElem?_getD, List.getElem?_eq_getElem hlt]; simp)
      have hst := hide (all_step ks k hlt (unhide ha))
      have hbad := hide (all_bad ks k hlt)
      have hgk : ∀ s : ByteArray, Hid (gk s.data.toList = gkb s) := fun s => hide rfl
      generalize ks.getD k ByteArray.empty = s at hck hsk hst hbad
      have hgs := hgk s
      clear hgk
      have hlt2 : b < w.heap.size := hb
      cases hg : gkb s
      · rw [hg] at hbad hgs
        have H := hide (gcB_bad 6 ks f x n dt q (unhide hbad rfl))
        clear hg hst hbad
        go_wp2_with fail
        refine (GoodKey.spec_any _ _ (unhide hsk)).mono ?_
        rintro e w1 ⟨rfl, rfl⟩
        rw [unhide hgs]
        go_wp2
        go_ret
        exact ⟨ret_bool (unhide H).symm, bel1 w _⟩
      · rw [hg] at hst hgs
        have H := hide (unhide hst rfl)
        clear hg hst hbad
        go_wp2_with fail
        refine (GoodKey.spec_any _ _ (unhide hsk)).mono ?_
        rintro e w1 ⟨rfl, rfl⟩
        rw [unhide hgs]
        go_wp2
        go_round
        case rel => exact ⟨k + 1, by omega, by go_num, H⟩
        case measure => simp [intOf]; omega
    · have HA := hide (all_whole ks k hk hlt (unhide ha))
      go_wp2_with (first | (go_at_call 41; refine (number_any _ _).mono ?_; rintro e w1 ⟨rfl, rfl⟩) | (go_at_call 36; refine (l1In_any _ _ _ _).mono ?_; rintro e w1 ⟨rfl, rfl⟩))
      all_goals
        go_ret
        refine ⟨ret_bool ?_, bel1 w _⟩
        rw [gcB6]
        first
          | exact form_f (num_no ‹_›)
          | exact form_x (num_no ‹_›)
          | exact form_n (num_no ‹_›)
          | exact form_d (dat_no ‹_›)
          | exact form_f (num_not0 ‹_›)
          | exact form_d (dat_not0 ‹_›)
          | exact form_x (num_not0 ‹_›)
          | exact form_n (num_not0 (ne_of ‹_›))
          | skip
      all_goals rw [form_end (unhide HA) (num_zero ‹f = 0›) (num_zero ‹x = 0›) (num_zero (eq_of ‹(n != 0) = false›)) (dat_zero ‹dt.toList = []›)]
      rw [one_len]; simp

set_option maxHeartbeats 4000000 in
theorem spec_k7 (nm : ByteArray) (b off cap : Nat) (ks : List ByteArray) (f x n : Int) (dt : ByteArray) (q : Bool) (w : World) (hb : b < w.heap.size)
    (hc : ∀ i, i < ks.length → w.cell? ⟨b, off + i, none⟩ = some (.string (ks.getD i ByteArray.empty)))
    (hl : ks.length ≤ maxLen) (hs : ∀ s ∈ ks, s.size ≤ maxLen) (hd : dt.size ≤ maxLen) (hK : Hid (kindN nm.toList = 7)) :
    Calls Tryz.prog 19 #[.agg #[.string nm, .slice (some ⟨b, off, none⟩) ks.length cap, .int .i64 f, .int .i64 x, .int .i64 n, .string dt, .bool q]] w fun e w' =>
      e = .returned (.bool (gcB 7 ks f x n dt q)) ∧ Below w.heap.size w w' := by
  unfold maxLen at hl hd
  have hcs := hide hc
  have hss := hide hs
  clear hc hs
  go_enter Tryz.func19, Tryz.ntmps19
  go_wp2_with fail
  refine (Kind.spec_any _ _).mono ?_
  rintro e w1 ⟨rfl, rfl⟩
  rw [unhide hK]
  go_wp2_with fail
  go_loop [13] (fun i => ∃ k : Nat, k ≤ ks.length ∧ i = .int .i64 k ∧ Hid ((ks.take k).all gkb = true)) (fun i => ks.length - (intOf i).toNat)
  case atStart => exact ⟨0, Nat.zero_le _, rfl, hide rfl⟩
  case round =>
    obtain ⟨k, hk, rfl, ha⟩ := hrel
    by_cases hlt : k < ks.length
    · have hck := unhide hcs k hlt
      have hsk : Hid ((ks.getD k ByteArray.empty).size ≤ maxLen) := unhide hss _ (by rw [List.getD_eq_getElem?_getD, List.getElem?_eq_getElem hlt]; simp)
      have hst := hide (all_step ks k hlt (unhide ha))
      have hbad := hide (all_bad ks k hlt)
      have hgk : ∀ s : ByteArray, Hid (gk s.data.toList = gkb s) := fun s => hide rfl
      generalize ks.getD k ByteArray.empty = s at hck hsk hst hbad
      have hgs := hgk s
      clear hgk
      have hlt2 : b < w.heap.size := hb
      cases hg : gkb s
      · rw [hg] at hbad hgs
        have H := hide (gcB_bad 7 ks f x n dt q (unhide hbad rfl))
        clear hg hst hbad
        go_wp2_with fail
        refine (GoodKey.spec_any _ _ (unhide hsk)).mono ?_
        rintro e w1 ⟨rfl, rfl⟩
        rw [unhide hgs]
        go_wp2
        go_ret
        exact ⟨ret_bool (unhide H).symm, bel1 w _⟩
      · rw [hg] at hst hgs
        have H := hide (unhide hst rfl)
        clear hg hst hbad
        go_wp2_with fail
        refine (GoodKey.spec_any _ _ (unhide hsk)).mono ?_
        rintro e w1 ⟨rfl, rfl⟩
        rw [unhide hgs]
        go_wp2
        go_round
        case rel => exact ⟨k + 1, by omega, by go_num, H⟩
        case measure => simp [intOf]; omega
    · have HA := hide (all_whole ks k hk hlt (unhide ha))
      go_wp2_with (first | (go_at_call 41; refine (number_any _ _).mono ?_; rintro e w1 ⟨rfl, rfl⟩) | (go_at_call 36; refine (l1In_any _ _ _ _).mono ?_; rintro e w1 ⟨rfl, rfl⟩))
      all_goals
        go_ret
        refine ⟨ret_bool ?_, bel1 w _⟩
        rw [gcB7]
        first
          | exact form_f (num_no ‹_›)
          | exact form_x (num_no ‹_›)
          | exact form_n (num_no ‹_›)
          | exact form_d (dat_no ‹_›)
          | exact form_f (num_not0 ‹_›)
          | exact form_d (dat_not0 ‹_›)
          | exact form_x (num_not0 ‹_›)
          | exact form_n (num_not0 (ne_of ‹_›))
          | skip
      all_goals rw [form_end (unhide HA) (num_zero ‹f = 0›) (num_zero ‹x = 0›) (num_zero (eq_of ‹(n != 0) = false›)) (dat_zero ‹dt.toList = []›)]
      · rw [← zero_len]; simp [‹ks = []›]
      · rw [← zero_len]; simp [‹¬ ks = []›]

theorem spec_any (nm : ByteArray) (b off cap : Nat) (ks : List ByteArray) (f x n : Int) (dt : ByteArray) (q : Bool) (w : World) (hb : b < w.heap.size)
    (hc : ∀ i, i < ks.length → w.cell? ⟨b, off + i, none⟩ = some (.string (ks.getD i ByteArray.empty)))
    (hl : ks.length ≤ maxLen) (hs : ∀ s ∈ ks, s.size ≤ maxLen) (hd : dt.size ≤ maxLen) :
    Calls Tryz.prog 19 #[.agg #[.string nm, .slice (some ⟨b, off, none⟩) ks.length cap, .int .i64 f, .int .i64 x, .int .i64 n, .string dt, .bool q]] w fun e w' =>
      e = .returned (.bool (gcB (kindN nm.toList) ks f x n dt q)) ∧ Below w.heap.size w w' := by
  have hk := kindN_bd nm.toList
  generalize hK : kindN nm.toList = K at hk ⊢
  obtain rfl | rfl | rfl | rfl | rfl | rfl | rfl | rfl : K = 0 ∨ K = 1 ∨ K = 2 ∨ K = 3 ∨ K = 4 ∨ K = 5 ∨ K = 6 ∨ K = 7 := by omega
  · exact spec_k0 nm b off cap ks f x n dt q w hb hc hl hs hd hK
  · exact spec_k1 nm b off cap ks f x n dt q w hb hc hl hs hd hK
  · exact spec_k2 nm b off cap ks f x n dt q w hb hc hl hs hd hK
  · exact spec_k3 nm b off cap ks f x n dt q w hb hc hl hs hd hK
  · exact spec_k4 nm b off cap ks f x n dt q w hb hc hl hs hd hK
  · exact spec_k5 nm b off cap ks f x n dt q w hb hc hl hs hd hK
  · exact spec_k6 nm b off cap ks f x n dt q w hb hc hl hs hd hK
  · exact spec_k7 nm b off cap ks f x n dt q w hb hc hl hs hd hK
end GoodCmd
end Go.Proofs.YthlcmnjaimffdaaGreatDoor
