/-
  Why a cluster is good or not, told by the places as they lie. No Go function is spoken of here.
-/
import Derived.Test.YthgcfklfpllgnaaDoorZ7
import Derived.Test.YthgcfklfpllgnaaDoorZ6
import Derived.Deep.RegionWith
namespace Go.Proofs.YthgcfklfpllgnaaDoor
namespace Clus
open Go.RowKit Base GoodKey Items Store Plc
set_option linter.unusedVariables false

theorem getD_core (L : List Pls.Pl) (i : Nat) : (L.map Pls.core).getD i Pls.zeroC = Pls.core (L.getD i Pls.zeroL) := by
  simp only [List.getD_eq_getElem?_getD, List.getElem?_map]
  cases L[i]? <;> rfl
theorem head_iff (c : CC) : headB c = true ↔ inB c.now 0 1000000000 = true ∧ inB c.nx 1 1000000000 = true ∧ inB c.lim 0 10000 = true ∧ inB c.lost 0 1000000 = true ∧ NodesM.gnB c.ns = true ∧ (c.cs = [] ∨ NodesM.gnB c.cs = true) := by
  simp only [headB, Bool.and_eq_true, Bool.or_eq_true, List.isEmpty_iff, and_assoc]
/- why a cluster is not good, told by the places as they lie -/
section
variable {c : CC} {L : List Pls.Pl} {k : Nat}
theorem pl_iff (hL : c.ps = L.map Pls.core) : plB c k = true ↔ (L.getD k Pls.zeroL).name = (names c).getD k ByteArray.empty ∧ gsB (L.getD k Pls.zeroL).lim (L.getD k Pls.zeroL).nx (L.getD k Pls.zeroL).its = true ∧ (L.getD k Pls.zeroL).lim = c.lim ∧ (L.getD k Pls.zeroL).nx ≤ c.nx := by
  unfold plB
  rw [hL, getD_core]
  constructor
  · intro h
    simp only [Bool.and_eq_true] at h
    exact ⟨of_decide_eq_true h.1.1.1, h.1.1.2, of_decide_eq_true h.1.2, of_decide_eq_true h.2⟩
  · rintro ⟨h1, h2, h3, h4⟩
    simp only [Bool.and_eq_true]
    exact ⟨⟨⟨decide_eq_true h1, h2⟩, decide_eq_true h3⟩, decide_eq_true h4⟩
theorem bad_pl (hL : c.ps = L.map Pls.core) (hk : k < L.length) (h : ¬ ((L.getD k Pls.zeroL).name = (names c).getD k ByteArray.empty ∧ gsB (L.getD k Pls.zeroL).lim (L.getD k Pls.zeroL).nx (L.getD k Pls.zeroL).its = true ∧ (L.getD k Pls.zeroL).lim = c.lim ∧ (L.getD k Pls.zeroL).nx ≤ c.nx)) : gcB c = false :=
  gc_bad (by rw [hL]; simpa using hk) (step_pl (Bool.eq_false_iff.2 (fun e => h ((pl_iff hL).1 e))))
theorem bad_home {q : Nat} (hL : c.ps = L.map Pls.core) (hk : k < L.length) (hq : q < (L.getD k Pls.zeroL).its.length) (h : homeB c.ns c.cs (L.getD k Pls.zeroL).name ((L.getD k Pls.zeroL).its.getD q zero) = false) : gcB c = false := by
  have e : c.ps.getD k Pls.zeroC = Pls.core (L.getD k Pls.zeroL) := by rw [hL, getD_core]
  exact gc_bad (by rw [hL]; simpa using hk) (step_it (q := q) (by rw [e]; exact hq) (it_home (by rw [e]; exact h)))
theorem bad_cross {q j r : Nat} (hL : c.ps = L.map Pls.core) (hk : k < L.length) (hq : q < (L.getD k Pls.zeroL).its.length) (hj : j < k) (hr : r < (L.getD j Pls.zeroL).its.length) (h : clash ((L.getD j Pls.zeroL).its.getD r zero) ((L.getD k Pls.zeroL).its.getD q zero) = true) : gcB c = false := by
  have e : ∀ i, c.ps.getD i Pls.zeroC = Pls.core (L.getD i Pls.zeroL) := fun i => by rw [hL, getD_core]
  have hl : k < c.ps.length := by rw [hL]; simpa using hk
  exact gc_bad hl (step_it (q := q) (by rw [e]; exact hq) (it_cross (j := j) (q := r) hj (by omega) (by rw [e]; exact hr) (by rw [e, e]; exact h)))
theorem good_it {q : Nat} (hL : c.ps = L.map Pls.core) (hk : k < L.length) (h : homeB c.ns c.cs (L.getD k Pls.zeroL).name ((L.getD k Pls.zeroL).its.getD q zero) = true) (hs : ∀ j, j < k → ∀ r, r < (L.getD j Pls.zeroL).its.length → clash ((L.getD j Pls.zeroL).its.getD r zero) ((L.getD k Pls.zeroL).its.getD q zero) = false) : itB c k ((L.getD k Pls.zeroL).its.getD q zero) = true := by
  have e : ∀ i, c.ps.getD i Pls.zeroC = Pls.core (L.getD i Pls.zeroL) := fun i => by rw [hL, getD_core]
  have hl : k < c.ps.length := by rw [hL]; simpa using hk
  exact it_yes (by omega) (by rw [e]; exact h) (fun j hj r hr => by rw [e] at hr ⊢; exact hs j hj r hr)
theorem good_step (hL : c.ps = L.map Pls.core) (h : plB c k = true) (hs : ∀ q, q < (L.getD k Pls.zeroL).its.length → itB c k ((L.getD k Pls.zeroL).its.getD q zero) = true) : stepB c k = true := by
  have e : c.ps.getD k Pls.zeroC = Pls.core (L.getD k Pls.zeroL) := by rw [hL, getD_core]
  exact step_yes h (fun q hq => by rw [e] at hq ⊢; exact hs q hq)
end
end Clus
end Go.Proofs.YthgcfklfpllgnaaDoor
/-
  Contracts of the program's goodNodeName and GoodNodes: the model's plain functions, for every slice of nodes that lies in memory.
-/
namespace Go.Proofs.YthgcfklfpllgnaaDoor
namespace NodesM
open Go.RowKit Base GoodKey Nodes
set_option linter.unusedVariables false

theorem name_len (s : ByteArray) (h : (s.size : Int) < 1 ∨ 8 < (s.size : Int)) : nameB s.data.toList = false := by
  have el : s.data.toList.length = s.size := by simp
  have e : inB s.size 1 8 = false := by simp [inB]; omega
  simp [nameB, el, e]
theorem name_all (s : ByteArray) (k : Nat) (hk : k ≤ s.size) (h : ¬ k < s.size) (ha : (s.data.toList.take k).all okc = true) (h1 : ¬ (s.size : Int) < 1) (h2 : ¬ 8 < (s.size : Int)) : nameB s.data.toList = true := by
  rw [← nall_end s k hk h ha]; simp [inB]; omega

set_option maxRecDepth 10000 in
set_option maxHeartbeats 1000000 in
theorem iname_any (s : ByteArray) (w : World) (hs : s.size ≤ maxLen) :
    Calls Tryd.prog 38 #[.string s] w fun e w' => e = .returned (.bool (nameB s.data.toList)) ∧ w' = w := by
  unfold maxLen at hs
  by_cases hl1 : (s.size : Int) < 1
  · have H := hide (name_len s (.inl hl1))
    go_enter Tryd.func38, Tryd.ntmps38
    go_wp2
    go_ret
    exact ⟨ret_bool (unhide H).symm, rfl⟩
  by_cases hl2 : 8 < (s.size : Int)
  · have H := hide (name_len s (.inr hl2))
    go_enter Tryd.func38, Tryd.ntmps38
    go_wp2
    go_ret
    exact ⟨ret_bool (unhide H).symm, rfl⟩
  go_enter Tryd.func38, Tryd.ntmps38
  go_wp2
  go_loop [16] (fun i => ∃ k : Nat, k ≤ s.size ∧ i = .int .i64 k ∧ Hid ((s.data.toList.take k).all okc = true)) (fun i => s.size - (intOf i).toNat)
  case atStart => exact ⟨0, Nat.zero_le _, rfl, hide rfl⟩
  case round =>
    obtain ⟨k, hk, rfl, ha⟩ := hrel
    by_cases hlt : k < s.size
    · have hcase : (97 ≤ (s[k].toNat : Int) ∧ (s[k].toNat : Int) ≤ 122) ∨ (¬ 97 ≤ (s[k].toNat : Int) ∧ 48 ≤ (s[k].toNat : Int) ∧ (s[k].toNat : Int) ≤ 57) ∨ (97 ≤ (s[k].toNat : Int) ∧ ¬ (s[k].toNat : Int) ≤ 122) ∨
          (¬ 97 ≤ (s[k].toNat : Int) ∧ 48 ≤ (s[k].toNat : Int) ∧ ¬ (s[k].toNat : Int) ≤ 57) ∨ (¬ 97 ≤ (s[k].toNat : Int) ∧ ¬ 48 ≤ (s[k].toNat : Int)) := by omega
      rcases hcase with ⟨h1, h2⟩ | ⟨h1, h2, h3⟩ | ⟨h1, h2⟩ | ⟨h1, h2, h3⟩ | ⟨h1, h2⟩
      · have H := hide (nall_step s k hlt (unhide ha) (okc_yes (by omega)))
        have h3 : 48 ≤ (s[k].toNat : Int) := by omega
        have h4 : ¬ (s[k].toNat : Int) ≤ 57 := by omega
        go_wp2
        go_round
        case rel => exact ⟨k + 1, by omega, by go_num, H⟩
        case measure => simp [intOf]; omega
      · have H := hide (nall_step s k hlt (unhide ha) (okc_yes (by omega)))
        go_wp2
        go_round
        case rel => exact ⟨k + 1, by omega, by go_num, H⟩
        case measure => simp [intOf]; omega
      · have h3 : 48 ≤ (s[k].toNat : Int) := by omega
        have h4 : ¬ (s[k].toNat : Int) ≤ 57 := by omega
        have H := hide (nall_bad s k hlt (okc_no (by omega)))
        go_wp2
        go_ret
        exact ⟨ret_bool (unhide H).symm, rfl⟩
      · have H := hide (nall_bad s k hlt (okc_no (by omega)))
        go_wp2
        go_ret
        exact ⟨ret_bool (unhide H).symm, rfl⟩
      · have H := hide (nall_bad s k hlt (okc_no (by omega)))
        go_wp2
        go_ret
        exact ⟨ret_bool (unhide H).symm, rfl⟩
    · have H := hide (name_all s k hk hlt (unhide ha) (by omega) (by omega))
      go_wp2
      go_ret
      exact ⟨ret_bool (unhide H).symm, rfl⟩

theorem gn_len {l : List D} (h : (l.length : Int) < 1 ∨ 8 < (l.length : Int)) : gnB l = false := by
  have e : inB l.length 1 8 = false := by simp [inB]; omega
  simp [gnB, e]
theorem gn_all {l : List D} (h : goodTo l l.length = true) (h1 : ¬ (l.length : Int) < 1) (h2 : ¬ 8 < (l.length : Int)) : gnB l = true := by
  rw [← gn_end h]; simp [inB]; omega

set_option maxRecDepth 10000 in
set_option maxHeartbeats 2000000 in
theorem inodes_some (b off cap : Nat) (l : List D) (w : World) (hb : b < w.heap.size) (hc : ∀ i, i < l.length → At w b (off + i * 2) (l.getD i zero)) (hl : l.length ≤ maxLen) (hs : ∀ x ∈ l, Fits x) :
    Calls Tryd.prog 28 #[.slice (some ⟨b, off, none⟩) l.length cap] w fun e w' => e = .returned (.bool (gnB l)) ∧ Below w.heap.size w w' := by
  unfold maxLen at hl
  by_cases hl1 : (l.length : Int) < 1
  · have H := hide (gn_len (.inl hl1))
    clear hc hs
    go_enter Tryd.func28, Tryd.ntmps28
    go_wp2
    go_ret
    exact ⟨ret_bool (unhide H).symm, Below.refl _ _⟩
  by_cases hl2 : 8 < (l.length : Int)
  · have H := hide (gn_len (.inr hl2))
    clear hc hs
    go_enter Tryd.func28, Tryd.ntmps28
    go_wp2
    go_ret
    exact ⟨ret_bool (unhide H).symm, Below.refl _ _⟩
  have hcs := hide hc
  have hss := hide hs
  clear hc hs
  go_enter Tryd.func28, Tryd.ntmps28
  go_wp2
  go_loopw [15] (fun i wr => ∃ k : Nat, k ≤ l.length ∧ i = .int .i64 k ∧ Hid (goodTo l k = true) ∧ Hid (Below w.heap.size w wr)) (fun i _ => l.length - (intOf i).toNat)
  case atStart => exact ⟨0, Nat.zero_le _, rfl, hide rfl, hide (Below.refl _ _)⟩
  case round =>
    obtain ⟨k, hk, rfl, hg, hbel⟩ := hrel
    by_cases hlt : k < l.length
    · obtain ⟨c0, c1⟩ := (unhide hcs k hlt).below (unhide hbel) hb
      have hfit := hide (fits_getD (unhide hss) k hlt)
      have hbad := hide (@gn_bad l k hlt)
      have hgs := hide (@goodTo_step l k (unhide hg))
      have hzb := (unhide hbel).size
      have hstep : Hid (stepB l k = (nodeB (l.getD k zero) && (decide (k = 0) || Op.bytesLess (l.getD (k - 1) zero).name.toList (l.getD k zero).name.toList))) := rfl
      have hprev : 0 < k → wr.cell? ⟨b, off + (k - 1) * 2, none⟩ = some (.string (l.getD (k - 1) zero).name) := fun h => ((unhide hcs (k - 1) (by omega)).below (unhide hbel) hb).1
      generalize l.getD k zero = x at c0 c1 hfit hstep
      generalize (l.getD (k - 1) zero).name = pn at hprev hstep
      have hname := fun w => iname_any x.name w (unhide hfit)
      cases e1 : nameB x.name.data.toList
      · rw [e1] at hname
        have H := hide (unhide hbad (by rw [unhide hstep, nodeB, e1]; rfl))
        have HN := hide hname
        clear hname e1 hbad hgs hprev
        go_wp2_with (go_at_call 38; refine (unhide HN _).mono ?_; rintro e w' ⟨rfl, rfl⟩)
        go_ret
        exact ⟨ret_bool (unhide H).symm, (unhide hbel).alloc hzb _⟩
      rw [e1] at hname
      have HN := hide hname
      clear hname
      by_cases e2 : x.weight < 1
      · have H := hide (unhide hbad (by rw [unhide hstep, nodeB, e1, show inB x.weight 1 5 = false by simp [inB]; omega]; rfl))
        clear e1 hbad hgs hprev
        go_wp2_with (go_at_call 38; refine (unhide HN _).mono ?_; rintro e w' ⟨rfl, rfl⟩)
        go_ret
        exact ⟨ret_bool (unhide H).symm, (unhide hbel).alloc hzb _⟩
      by_cases e3 : 5 < x.weight
      · have H := hide (unhide hbad (by rw [unhide hstep, nodeB, e1, show inB x.weight 1 5 = false by simp [inB]; omega]; rfl))
        clear e1 hbad hgs hprev
        go_wp2_with (go_at_call 38; refine (unhide HN _).mono ?_; rintro e w' ⟨rfl, rfl⟩)
        go_ret
        exact ⟨ret_bool (unhide H).symm, (unhide hbel).alloc hzb _⟩
      have HST := hide ((unhide hstep).trans (by rw [nodeB, e1, show inB x.weight 1 5 = true by simp [inB]; omega]; rfl : _ = (decide (k = 0) || Op.bytesLess pn.toList x.name.toList)))
      clear hstep e1
      by_cases hk0 : k = 0
      · subst hk0
        have H := hide (unhide hgs (by rw [unhide HST]; rfl))
        rw [Nat.zero_mul, Nat.add_zero] at c0 c1
        clear hbad hgs hprev
        go_wp2_with (go_at_call 38; refine (unhide HN _).mono ?_; rintro e w' ⟨rfl, rfl⟩)
        go_quiet (fail)
        go_wp2
        go_roundw
        case rel => exact ⟨1, by omega, by go_num, H, hide (bel_draws ((unhide hbel).alloc hzb _) _)⟩
        case measure => simp [intOf]; omega
      · obtain ⟨j, rfl⟩ : ∃ j, k = j + 1 := ⟨k - 1, by omega⟩
        have p0 := hprev (by omega)
        rw [Nat.add_sub_cancel] at p0
        have hkp : decide (0 < ((j + 1 : Nat) : Int)) = true := by simp
        have hwj : IntKind.i64.wrap (j : Int) = (j : Int) := by rw [IntKind.wrap_i64]; omega
        have hjl : (j : Int) < (l.length : Int) := by omega
        have hbw : b < wr.heap.size := Nat.lt_of_lt_of_le hb hzb
        have hj0 : (0 : Int) ≤ (j : Int) := by omega
        clear hprev hk0
        cases e4 : Op.bytesLess pn.toList x.name.toList
        · have H := hide (unhide hbad (by rw [unhide HST, e4]; simp))
          clear hbad hgs
          go_wp2_with (go_at_call 38; refine (unhide HN _).mono ?_; rintro e w' ⟨rfl, rfl⟩)
          go_quiet (fail)
          go_wp2
          go_ret
          exact ⟨ret_bool (unhide H).symm, bel_draws ((unhide hbel).alloc hzb _) _⟩
        · have H := hide (unhide hgs (by rw [unhide HST, e4]; simp))
          clear hbad hgs
          go_wp2_with (go_at_call 38; refine (unhide HN _).mono ?_; rintro e w' ⟨rfl, rfl⟩)
          go_quiet (fail)
          go_wp2
          go_roundw
          case rel => exact ⟨j + 1 + 1, by omega, by go_num, H, hide (bel_draws ((unhide hbel).alloc hzb _) _)⟩
          case measure => simp [intOf]; omega
    · obtain rfl : k = l.length := by omega
      have H := hide (gn_all (unhide hg) (by omega) (by omega))
      go_wp2
      go_ret
      exact ⟨ret_bool (unhide H).symm, unhide hbel⟩
end NodesM
end Go.Proofs.YthgcfklfpllgnaaDoor
/-
  No nodes at all: both GoodNodes say no.
-/
namespace Go.Proofs.YthgcfklfpllgnaaDoor
namespace Ring
open Go.RowKit Base
set_option linter.unusedVariables false

set_option maxRecDepth 10000 in
set_option maxHeartbeats 400000 in
theorem inodes_nil (b : Option Addr) (cb : Nat) (w : World) : Calls Tryd.prog 28 #[.slice b 0 cb] w fun e w' => e = .returned (.bool false) ∧ Below w.heap.size w w' := by
  go_enter Tryd.func28, Tryd.ntmps28
  go_wp2
  go_ret
  exact ⟨rfl, Below.refl _ _⟩
set_option maxRecDepth 10000 in
set_option maxHeartbeats 400000 in
theorem snodes_nil (b : Option Addr) (cb : Nat) (w : World) : Calls Tryd.prog 14 #[.slice b 0 cb] w fun e w' => e = .returned (.bool false) ∧ Below w.heap.size w w' := by
  go_enter Tryd.func14, Tryd.ntmps14
  go_wp2_with fail
  go_loopw [7] (fun iv wr => iv = .int .i64 0 ∧ Hid (Below w.heap.size w wr)) (fun _ _ => 0)
  case atStart => exact ⟨rfl, hide (Below.refl _ _)⟩
  case round =>
    obtain ⟨rfl, hb⟩ := hrel
    go_wp2
    go_ret
    exact ⟨rfl, unhide hb⟩
end Ring
end Go.Proofs.YthgcfklfpllgnaaDoor
