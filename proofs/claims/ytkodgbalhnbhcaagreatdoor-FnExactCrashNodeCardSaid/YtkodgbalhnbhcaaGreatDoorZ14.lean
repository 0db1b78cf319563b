/-
  Contracts of the model's l3Name and GoodNodes: plain functions of names and weights, for every slice of nodes that lies in memory.
-/
import Derived.Test.YtkodgbalhnbhcaaGreatDoorZ11
import Derived.Test.YtkodgbalhnbhcaaGreatDoorRows
import Derived.Deep.RegionWith
import Derived.Test.YtkodgbalhnbhcaaGreatDoorZ5
import Derived.BigQuiet
import Derived.Deep.QuietTactic
import Derived.WalkLawsBesides
import Derived.Test.YtkodgbalhnbhcaaGreatDoorZ13
import Derived.Test.YtkodgbalhnbhcaaGreatDoorZ3
import Derived.Test.YtkodgbalhnbhcaaGreatDoorZ12
import Derived.Test.YtkodgbalhnbhcaaGreatDoorZ9
namespace Go.Proofs.YtkodgbalhnbhcaaGreatDoor
namespace NodesM
open Go.RowKit Base GoodKey Nodes
set_option linter.unusedVariables false

def okc (c : UInt8) : Bool := (decide (97 ≤ c.toNat) && decide (c.toNat ≤ 122)) || (decide (48 ≤ c.toNat) && decide (c.toNat ≤ 57))
def nameB (l : List UInt8) : Bool := inB l.length 1 8 && l.all okc
theorem okc_yes {c : UInt8} (h : (97 ≤ (c.toNat : Int) ∧ (c.toNat : Int) ≤ 122) ∨ (48 ≤ (c.toNat : Int) ∧ (c.toNat : Int) ≤ 57)) : okc c = true := by
  simp only [okc, Bool.or_eq_true, Bool.and_eq_true, decide_eq_true_eq]; omega
theorem okc_no {c : UInt8} (h : ¬ ((97 ≤ (c.toNat : Int) ∧ (c.toNat : Int) ≤ 122) ∨ (48 ≤ (c.toNat : Int) ∧ (c.toNat : Int) ≤ 57))) : okc c = false := by
  rw [Bool.eq_false_iff]
  intro h2
  simp only [okc, Bool.or_eq_true, Bool.and_eq_true, decide_eq_true_eq] at h2; omega
theorem nall_step (s : ByteArray) (k : Nat) (h : k < s.size) (ha : (s.data.toList.take k).all okc = true) (hc : okc s[k] = true) : (s.data.toList.take (k + 1)).all okc = true := by
  rw [take_snoc s k h, List.all_append, ha]; simp [hc]
theorem nall_bad (s : ByteArray) (k : Nat) (h : k < s.size) (hc : okc s[k] = false) : nameB s.data.toList = false := by
  have hm : s[k] ∈ s.data.toList := by
    have e : s[k] = s.data.toList[k]'(by simpa using h) := rfl
    rw [e]; exact List.getElem_mem _
  have ha : s.data.toList.all okc = false := by rw [List.all_eq_false]; exact ⟨_, hm, by simp [hc]⟩
  simp [nameB, ha]
theorem nall_end (s : ByteArray) (k : Nat) (hk : k ≤ s.size) (h : ¬ k < s.size) (ha : (s.data.toList.take k).all okc = true) : inB s.size 1 8 = nameB s.data.toList := by
  have e : s.data.toList.take k = s.data.toList := List.take_of_length_le (by simp; omega)
  rw [e] at ha
  have el : s.data.toList.length = s.size := by simp
  simp [nameB, ha, el]

set_option maxHeartbeats 1000000 in
theorem name_any (s : ByteArray) (w : World) (hs : s.size ≤ maxLen) :
    Calls Tryz.prog 91 #[.string s] w fun e w' => e = .returned (.bool (nameB s.data.toList)) ∧ w' = w := by
  unfold maxLen at hs
  go_enter Tryz.func91, Tryz.ntmps91
  go_wp2
  go_loop [3] (fun i => ∃ k : Nat, k ≤ s.size ∧ i = .int .i64 k ∧ Hid ((s.data.toList.take k).all okc = true)) (fun i => s.size - (intOf i).toNat)
  case atStart => exact ⟨0, Nat.zero_le _, rfl, hide rfl⟩
  case round =>
    obtain ⟨k, hk, rfl, ha⟩ := hrel
    by_cases hlt : k < s.size
    · have hcase : (97 ≤ (s[k].toNat : Int) ∧ (s[k].toNat : Int) ≤ 122) ∨ (¬ 97 ≤ (s[k].toNat : Int) ∧ 48 ≤ (s[k].toNat : Int) ∧ (s[k].toNat : Int) ≤ 57) ∨ (97 ≤ (s[k].toNat : Int) ∧ ¬ (s[k].toNat : Int) ≤ 122) ∨
          (¬ 97 ≤ (s[k].toNat : Int) ∧ 48 ≤ (s[k].toNat : Int) ∧ ¬ (s[k].toNat : Int) ≤ 57) ∨ (¬ 97 ≤ (s[k].toNat : Int) ∧ ¬ 48 ≤ (s[k].toNat : Int)) := by omega
      rcases hcase with ⟨h1, h2⟩ | ⟨h1, h2, h3⟩ | ⟨h1, h2⟩ | ⟨h1, h2, h3⟩ | ⟨h1, h2⟩
      · have H := hide (nall_step s k hlt (unhide ha) (okc_yes (by omega)))
        go_wp2
        go_round
        case rel => exact ⟨k + 1, by omega, by go_num, H⟩
        case measure => simp [intOf]; omega
      · have H := hide (nall_step s k hlt (unhide ha) (okc_yes (by omega)))
        go_wp2
        go_round
        case rel => exact ⟨k + 1, by omega, by go_num, H⟩
        case measure => simp [intOf]; omega
      · have h3 : 48 ≤ (s[k].toNat : Int) := by omega
        have h4 : ¬ (s[k].toNat : Int) ≤ 57 := by omega
        have H := hide (nall_bad s k hlt (okc_no (by omega)))
        go_wp2
        go_ret
        exact ⟨ret_bool (unhide H).symm, rfl⟩
      · have H := hide (nall_bad s k hlt (okc_no (by omega)))
        go_wp2
        go_ret
        exact ⟨ret_bool (unhide H).symm, rfl⟩
      · have H := hide (nall_bad s k hlt (okc_no (by omega)))
        go_wp2
        go_ret
        exact ⟨ret_bool (unhide H).symm, rfl⟩
    · have H := hide (nall_end s k hk hlt (unhide ha))
      go_wp2_with (go_at_call 55; refine (l1In_any _ _ _ _).mono ?_; rintro e w' ⟨rfl, rfl⟩)
      go_ret
      exact ⟨ret_bool (unhide H), rfl⟩

def nodeB (x : D) : Bool := nameB x.name.data.toList && inB x.weight 1 5
def stepB (l : List D) (i : Nat) : Bool := nodeB (l.getD i zero) && (decide (i = 0) || Op.bytesLess (l.getD (i - 1) zero).name.toList (l.getD i zero).name.toList)
def goodTo (l : List D) (k : Nat) : Bool := (List.range k).all (stepB l)
def gnB (l : List D) : Bool := goodTo l l.length && inB l.length 1 8
theorem goodTo_step {l : List D} {k : Nat} (h : goodTo l k = true) (hs : stepB l k = true) : goodTo l (k + 1) = true := by
  unfold goodTo at *
  rw [List.range_succ, List.all_append, h]
  simp [hs]
theorem gn_bad {l : List D} {k : Nat} (hk : k < l.length) (hs : stepB l k = false) : gnB l = false := by
  have : goodTo l l.length = false := by
    unfold goodTo
    rw [List.all_eq_false]
    exact ⟨k, by simpa using hk, by simp [hs]⟩
  simp [gnB, this]
theorem gn_end {l : List D} (h : goodTo l l.length = true) : inB l.length 1 8 = gnB l := by simp [gnB, h]

set_option maxHeartbeats 2000000 in
theorem nodes_some (b off cap : Nat) (l : List D) (w : World) (hb : b < w.heap.size) (hc : ∀ i, i < l.length → At w b (off + i * 2) (l.getD i zero)) (hl : l.length ≤ maxLen) (hs : ∀ x ∈ l, Fits x) :
    Calls Tryz.prog 46 #[.slice (some ⟨b, off, none⟩) l.length cap] w fun e w' => e = .returned (.bool (gnB l)) ∧ Below w.heap.size w w' := by
  unfold maxLen at hl
  have hcs := hide hc
  have hss := hide hs
  clear hc hs
  go_enter Tryz.func46, Tryz.ntmps46
  go_wp2
  go_loopw [7] (fun i wr => ∃ k : Nat, k ≤ l.length ∧ i = .int .i64 k ∧ Hid (goodTo l k = true) ∧ Hid (Below w.heap.size w wr)) (fun i _ => l.length - (intOf i).toNat)
  case atStart => exact ⟨0, Nat.zero_le _, rfl, hide rfl, hide (Below.refl _ _)⟩
  case round =>
    obtain ⟨k, hk, rfl, hg, hbel⟩ := hrel
    by_cases hlt : k < l.length
    · obtain ⟨c0, c1⟩ := (unhide hcs k hlt).below (unhide hbel) hb
      have hfit := hide (fits_getD (unhide hss) k hlt)
      have hbad := hide (@gn_bad l k hlt)
      have hgs := hide (@goodTo_step l k (unhide hg))
      have hzb := (unhide hbel).size
      have hstep : Hid (stepB l k = (nodeB (l.getD k zero) && (decide (k = 0) || Op.bytesLess (l.getD (k - 1) zero).name.toList (l.getD k zero).name.toList))) := rfl
      have hprev : 0 < k → wr.cell? ⟨b, off + (k - 1) * 2, none⟩ = some (.string (l.getD (k - 1) zero).name) := fun h => ((unhide hcs (k - 1) (by omega)).below (unhide hbel) hb).1
      generalize l.getD k zero = x at c0 c1 hfit hstep
      generalize (l.getD (k - 1) zero).name = pn at hprev hstep
      have hname := fun w => name_any x.name w (unhide hfit)
      cases e1 : nameB x.name.data.toList
      · rw [e1] at hname
        have H := hide (unhide hbad (by rw [unhide hstep, nodeB, e1]; rfl))
        have HN := hide hname
        clear hname e1 hbad hgs hprev
        go_wp2
        go_quiet ((go_at_call 91; exact Calls.quiet_of_same (unhide HN _)))
        go_wp2
        go_ret
        exact ⟨ret_bool (unhide H).symm, bel_draws ((unhide hbel).alloc hzb _) _⟩
      rw [e1] at hname
      have HN := hide hname
      clear hname
      cases e2 : inB x.weight 1 5
      · have H := hide (unhide hbad (by rw [unhide hstep, nodeB, e1, e2]; rfl))
        clear e1 hbad hgs hprev
        go_wp2
        go_quiet ((first | (go_at_call 91; exact Calls.quiet_of_same (unhide HN _)) | (go_at_call 55; exact Calls.quiet_of_same (l1In_any _ _ _ _))))
        go_wp2
        go_ret
        exact ⟨ret_bool (unhide H).symm, bel_draws ((unhide hbel).alloc hzb _) _⟩
      have HST := hide ((unhide hstep).trans (by rw [nodeB, e1, e2]; rfl : _ = (decide (k = 0) || Op.bytesLess pn.toList x.name.toList)))
      clear hstep e1
      by_cases hk0 : k = 0
      · subst hk0
        have H := hide (unhide hgs (by rw [unhide HST]; rfl))
        rw [Nat.zero_mul, Nat.add_zero] at c0 c1
        clear hbad hgs hprev
        go_wp2
        go_quiet ((first | (go_at_call 91; exact Calls.quiet_of_same (unhide HN _)) | (go_at_call 55; exact Calls.quiet_of_same (l1In_any _ _ _ _))))
        go_wp2
        go_roundw
        case rel => exact ⟨1, by omega, by go_num, H, hide (bel_draws ((unhide hbel).alloc hzb _) _)⟩
        case measure => simp [intOf]; omega
      · obtain ⟨j, rfl⟩ : ∃ j, k = j + 1 := ⟨k - 1, by omega⟩
        have p0 := hprev (by omega)
        rw [Nat.add_sub_cancel] at p0
        have hkp : decide (0 < ((j + 1 : Nat) : Int)) = true := by simp
        have hwj : IntKind.i64.wrap (j : Int) = (j : Int) := by rw [IntKind.wrap_i64]; omega
        have hjl : (j : Int) < (l.length : Int) := by omega
        have hbw : b < wr.heap.size := Nat.lt_of_lt_of_le hb hzb
        have hj0 : (0 : Int) ≤ (j : Int) := by omega
        clear hprev hk0
        cases e3 : Op.bytesLess pn.toList x.name.toList
        · have H := hide (unhide hbad (by rw [unhide HST, e3]; simp))
          clear hbad hgs
          go_wp2
          go_quiet ((first | (go_at_call 91; exact Calls.quiet_of_same (unhide HN _)) | (go_at_call 55; exact Calls.quiet_of_same (l1In_any _ _ _ _))))
          go_wp2
          go_ret
          exact ⟨ret_bool (unhide H).symm, bel_draws ((unhide hbel).alloc hzb _) _⟩
        · have H := hide (unhide hgs (by rw [unhide HST, e3]; simp))
          clear hbad hgs
          go_wp2
          go_quiet ((first | (go_at_call 91; exact Calls.quiet_of_same (unhide HN _)) | (go_at_call 55; exact Calls.quiet_of_same (l1In_any _ _ _ _))))
          go_wp2
          go_roundw
          case rel => exact ⟨j + 1 + 1, by omega, by go_num, H, hide (bel_draws ((unhide hbel).alloc hzb _) _)⟩
          case measure => simp [intOf]; omega
    · obtain rfl : k = l.length := by omega
      have H := hide (gn_end (unhide hg))
      go_wp2_with (go_at_call 55; refine (l1In_any _ _ _ _).mono ?_; rintro e w' ⟨rfl, rfl⟩)
      go_ret
      exact ⟨ret_bool (unhide H), unhide hbel⟩
end NodesM
end Go.Proofs.YtkodgbalhnbhcaaGreatDoor
/-
  The points of a node and of a list of nodes, as plain data. No Go function is spoken of here.
-/
namespace Go.Proofs.YtkodgbalhnbhcaaGreatDoor
namespace Ring
open Go.RowKit Base Points NumText
set_option linter.unusedVariables false

/-- The point i of a name. -/
def ptN (name : ByteArray) (i : Nat) : D := ⟨Hash.hashN ((name ++ ⟨#[45]⟩) ++ txt i).data.toList, name⟩
/-- The points of a node. -/
def ptsN (name : ByteArray) (n : Nat) : List D := (List.range n).map (ptN name)
theorem ptsN_length (name : ByteArray) (n : Nat) : (ptsN name n).length = n := by simp [ptsN]
theorem ptsN_get (name : ByteArray) (n k : Nat) (h : k < n) : (ptsN name n).getD k zero = ptN name k := by
  simp [ptsN, List.getD_eq_getElem?_getD, h]
theorem ptsN_succ (name : ByteArray) (n : Nat) : ptsN name (n + 1) = ptsN name n ++ [ptN name n] := by simp [ptsN, List.range_succ]
def ptsOf (x : Nodes.D) : List D := ptsN x.name (8 * x.weight).toNat
/-- The points of all nodes, in their order. -/
def points (l : List Nodes.D) : List D := l.flatMap ptsOf
theorem points_take_succ (l : List Nodes.D) (k : Nat) (h : k < l.length) : points (l.take (k + 1)) = points (l.take k) ++ ptsOf (l.getD k Nodes.zero) := by
  have e : l.getD k Nodes.zero = l[k] := by simp [h]
  rw [e, List.take_succ_eq_append_getElem h]
  unfold points
  rw [List.flatMap_append]
  simp only [List.flatMap_cons, List.flatMap_nil, List.append_nil]
theorem txt_size (n : Nat) (h : n < 18446744073709551616) : (txt n).size ≤ 20 := by
  have h1 := Lib.nDigits_le20 n h
  have e : (txt n).size = Lib.nDigits n := by
    show (Lib.decDigits n).toArray.size = _
    rw [Lib.decDigits_eq]; simp
  omega

theorem mixN_bd (n : Nat) (h : Int) (h0 : 0 ≤ h) (h1 : h < 4294967296) : 0 ≤ Hash.mixN n h ∧ Hash.mixN n h < 4294967296 := by
  induction n with
  | zero => exact ⟨h0, h1⟩
  | succ n ih => exact Hash.mixE_bd _
theorem hashN_bd (l : List UInt8) : 0 ≤ Hash.hashN l ∧ Hash.hashN l < 4294967296 := by
  unfold Hash.hashN Hash.mixN
  exact Hash.mixE_bd _

/-- Good nodes: how many, how great. -/
theorem good_len {l : List Nodes.D} (h : NodesM.gnB l = true) : 1 ≤ l.length ∧ l.length ≤ 8 := by
  unfold NodesM.gnB GoodKey.inB at h
  simp only [Bool.and_eq_true, decide_eq_true_eq] at h
  omega
theorem good_at {l : List Nodes.D} (h : NodesM.gnB l = true) {k : Nat} (hk : k < l.length) : NodesM.nodeB (l.getD k Nodes.zero) = true := by
  unfold NodesM.gnB NodesM.goodTo at h
  simp only [Bool.and_eq_true, List.all_eq_true, List.mem_range] at h
  have := h.1 k hk
  unfold NodesM.stepB at this
  simp only [Bool.and_eq_true] at this
  exact this.1
theorem node_bd {x : Nodes.D} (h : NodesM.nodeB x = true) : x.name.size ≤ 8 ∧ 1 ≤ x.name.size ∧ 1 ≤ x.weight ∧ x.weight ≤ 5 := by
  unfold NodesM.nodeB NodesM.nameB GoodKey.inB at h
  simp only [Bool.and_eq_true, decide_eq_true_eq] at h
  have el : x.name.data.toList.length = x.name.size := by simp
  rw [el] at h
  omega
theorem ptsOf_length (x : Nodes.D) : (ptsOf x).length = (8 * x.weight).toNat := ptsN_length _ _
theorem points_le {l : List Nodes.D} (h : NodesM.gnB l = true) (k : Nat) (hk : k ≤ l.length) : (points (l.take k)).length ≤ k * 40 := by
  induction k with
  | zero => simp [points]
  | succ k ih =>
    rw [points_take_succ l k (by omega), List.length_append, ptsOf_length]
    have := ih (by omega)
    have := node_bd (good_at h (show k < l.length by omega))
    omega
theorem points_len {l : List Nodes.D} (h : NodesM.gnB l = true) : (points l).length ≤ 320 := by
  have h1 := points_le h l.length (Nat.le_refl _)
  have h2 := good_len h
  rw [List.take_length] at h1
  omega
theorem points_pos {l : List Nodes.D} (h : NodesM.gnB l = true) : 1 ≤ (points l).length := by
  have h2 := good_len h
  obtain ⟨x, r, rfl⟩ : ∃ x r, l = x :: r := by cases l with | nil => simp at h2 | cons x r => exact ⟨x, r, rfl⟩
  have := node_bd (good_at h (show 0 < (x :: r).length by simp))
  have e : (points (x :: r)).length = (ptsOf x).length + (points r).length := by simp [points]
  rw [e, ptsOf_length]
  simp at this
  omega
end Ring
end Go.Proofs.YtkodgbalhnbhcaaGreatDoor
/-
  What a good cluster is, as plain functions: by looking at each item and all places ahead of it, and by sets of keys and of tokens over all places: both are the same. No Go function is spoken of here.
-/
namespace Go.Proofs.YtkodgbalhnbhcaaGreatDoor
namespace Clus
open Go.RowKit Base GoodKey Items Store Plc
set_option linter.unusedVariables false

structure CC where
  now : Int
  nx : Int
  lim : Int
  lost : Int
  ns : List Nodes.D
  cs : List Nodes.D
  ps : List Pls.Core
def own (l : List Nodes.D) (k : ByteArray) : ByteArray := Ring.ownerN (Ring.ring (Ring.points l)) (Hash.hashN k.data.toList)
def homeB (ns cs : List Nodes.D) (nm : ByteArray) (x : Itm) : Bool := decide (own ns x.key = nm) || (!cs.isEmpty && decide (own cs x.key = nm))
def names (c : CC) : List ByteArray := insAll (c.ns.map (·.name) ++ c.cs.map (·.name))
def headB (c : CC) : Bool := inB c.now 0 1000000000 && inB c.nx 1 1000000000 && inB c.lim 0 10000 && inB c.lost 0 1000000 && NodesM.gnB c.ns && (c.cs.isEmpty || NodesM.gnB c.cs)
def plB (c : CC) (i : Nat) : Bool := decide ((c.ps.getD i Pls.zeroC).name = (names c).getD i ByteArray.empty) && gsB (c.ps.getD i Pls.zeroC).lim (c.ps.getD i Pls.zeroC).nx (c.ps.getD i Pls.zeroC).its && decide ((c.ps.getD i Pls.zeroC).lim = c.lim) && decide ((c.ps.getD i Pls.zeroC).nx ≤ c.nx)
def crossB (c : CC) (i : Nat) (x : Itm) : Bool := (c.ps.take i).all (fun o => o.its.all (fun y => !clash y x))
def itB (c : CC) (i : Nat) (x : Itm) : Bool := homeB c.ns c.cs (c.ps.getD i Pls.zeroC).name x && crossB c i x
def stepB (c : CC) (i : Nat) : Bool := plB c i && (c.ps.getD i Pls.zeroC).its.all (itB c i)
def gcB (c : CC) : Bool := headB c && decide ((names c).length = c.ps.length) && (List.range c.ps.length).all (stepB c)
theorem gc_head {c : CC} (h : headB c = false) : gcB c = false := by simp [gcB, h]
theorem gc_len {c : CC} (h : (names c).length ≠ c.ps.length) : gcB c = false := by simp [gcB, h]
theorem gc_bad {c : CC} {i : Nat} (hi : i < c.ps.length) (h : stepB c i = false) : gcB c = false := by
  have : (List.range c.ps.length).all (stepB c) = false := by rw [List.all_eq_false]; exact ⟨i, by simpa using hi, by simp [h]⟩
  simp [gcB, this]
theorem gc_end {c : CC} (h : headB c = true) (hl : (names c).length = c.ps.length) (hs : ∀ i, i < c.ps.length → stepB c i = true) : gcB c = true := by
  have : (List.range c.ps.length).all (stepB c) = true := by rw [List.all_eq_true]; intro i hi; exact hs i (by simpa using hi)
  simp [gcB, h, hl, this]
theorem step_pl {c : CC} {i : Nat} (h : plB c i = false) : stepB c i = false := by simp [stepB, h]
theorem step_it {c : CC} {i q : Nat} (hq : q < (c.ps.getD i Pls.zeroC).its.length) (h : itB c i ((c.ps.getD i Pls.zeroC).its.getD q zero) = false) : stepB c i = false := by
  have : (c.ps.getD i Pls.zeroC).its.all (itB c i) = false := by
    rw [List.all_eq_false]
    refine ⟨_, List.getElem_mem hq, ?_⟩
    rw [List.getD_eq_getElem?_getD, List.getElem?_eq_getElem hq] at h
    simpa using h
  unfold stepB; rw [this, Bool.and_false]
theorem step_yes {c : CC} {i : Nat} (h : plB c i = true) (hs : ∀ q, q < (c.ps.getD i Pls.zeroC).its.length → itB c i ((c.ps.getD i Pls.zeroC).its.getD q zero) = true) : stepB c i = true := by
  have : (c.ps.getD i Pls.zeroC).its.all (itB c i) = true := by
    rw [List.all_eq_true]
    intro x hx
    obtain ⟨q, hq, rfl⟩ := List.getElem_of_mem hx
    have := hs q hq
    rw [List.getD_eq_getElem?_getD, List.getElem?_eq_getElem hq] at this
    exact this
  unfold stepB; rw [h, this]; rfl
theorem it_home {c : CC} {i : Nat} {x : Itm} (h : homeB c.ns c.cs (c.ps.getD i Pls.zeroC).name x = false) : itB c i x = false := by simp only [itB, h, Bool.false_and]
theorem it_cross {c : CC} {i j q : Nat} {x : Itm} (hji : j < i) (hi : i ≤ c.ps.length) (hq : q < (c.ps.getD j Pls.zeroC).its.length) (h : clash ((c.ps.getD j Pls.zeroC).its.getD q zero) x = true) : itB c i x = false := by
  have : crossB c i x = false := by
    unfold crossB
    rw [List.all_eq_false]
    refine ⟨c.ps[j]'(by omega), ?_, ?_⟩
    · rw [List.mem_take_iff_getElem]; exact ⟨j, by omega, rfl⟩
    · have e : c.ps.getD j Pls.zeroC = c.ps[j]'(by omega) := by rw [List.getD_eq_getElem?_getD, List.getElem?_eq_getElem (by omega)]; rfl
      rw [e] at hq h
      rw [Bool.not_eq_true, List.all_eq_false]
      refine ⟨_, List.getElem_mem hq, ?_⟩
      rw [List.getD_eq_getElem?_getD, List.getElem?_eq_getElem hq] at h
      simpa using h
  unfold itB; rw [this, Bool.and_false]
theorem it_yes {c : CC} {i : Nat} {x : Itm} (hi : i ≤ c.ps.length) (h : homeB c.ns c.cs (c.ps.getD i Pls.zeroC).name x = true) (hs : ∀ j, j < i → ∀ q, q < (c.ps.getD j Pls.zeroC).its.length → clash ((c.ps.getD j Pls.zeroC).its.getD q zero) x = false) : itB c i x = true := by
  have : crossB c i x = true := by
    unfold crossB
    rw [List.all_eq_true]
    intro o ho
    obtain ⟨j, hj, rfl⟩ := List.mem_take_iff_getElem.1 ho
    have e : c.ps.getD j Pls.zeroC = c.ps[j]'(by omega) := by rw [List.getD_eq_getElem?_getD, List.getElem?_eq_getElem (by omega)]; rfl
    have h2 := hs j (by omega)
    rw [e] at h2
    rw [List.all_eq_true]
    intro y hy
    obtain ⟨q, hq, rfl⟩ := List.getElem_of_mem hy
    have h3 := h2 q hq
    rw [List.getD_eq_getElem?_getD, List.getElem?_eq_getElem hq] at h3
    simpa using h3
  simp only [itB, h, this, Bool.and_self]

/- by sets -/
def allI (ps : List Pls.Core) : List Itm := ps.flatMap (·.its)
def placesB (c : CC) : Bool := decide ((names c).length = c.ps.length) && (List.range c.ps.length).all (plB c)
def keepB (c : CC) : Bool := c.ps.all (fun p => p.its.all (homeB c.ns c.cs p.name)) && decide (Maps.size (Maps.setOf (.agg [] : DataW Unit) ((allI c.ps).map kL)) = (allI c.ps).length) && decide (Maps.size (Maps.setOf (.agg [] : DataW Unit) ((allI c.ps).map tL)) = (allI c.ps).length)
theorem nodup_flat (ps : List Pls.Core) (f : Itm → Lit) : ((allI ps).map f).Nodup ↔ (∀ p ∈ ps, (p.its.map f).Nodup) ∧ ps.Pairwise (fun a b => ∀ x ∈ a.its, ∀ y ∈ b.its, f x ≠ f y) := by
  unfold allI List.Nodup
  rw [List.map_flatMap, List.pairwise_flatMap]
  simp only [List.mem_map, forall_exists_index, and_imp, forall_apply_eq_imp_iff₂]
theorem gs_nodup {lim nx : Int} {its : List Itm} (h : gsB lim nx its = true) : (its.map kL).Nodup ∧ (its.map tL).Nodup := by
  simp only [gsB, Bool.and_eq_true] at h
  have := (goodTo_iff nx its its.length (Nat.le_refl _)).1 h.1.2
  rw [List.take_length] at this
  exact this.2
theorem cross_iff (c : CC) : (∀ i, i < c.ps.length → ∀ x ∈ (c.ps.getD i Pls.zeroC).its, crossB c i x = true) ↔ c.ps.Pairwise (fun a b => ∀ y ∈ a.its, ∀ x ∈ b.its, kL y ≠ kL x ∧ tL y ≠ tL x) := by
  rw [List.pairwise_iff_getElem]
  have eg : ∀ i (hi : i < c.ps.length), c.ps.getD i Pls.zeroC = c.ps[i] := fun i hi => by rw [List.getD_eq_getElem?_getD, List.getElem?_eq_getElem hi]; rfl
  have hcl : ∀ y x : Itm, (!clash y x) = true ↔ kL y ≠ kL x ∧ tL y ≠ tL x := fun y x => by
    rw [Bool.not_eq_true', Bool.eq_false_iff, ne_eq, clash_iff, not_or]
  constructor
  · intro h i j hi hj hij y hy x hx
    have h1 := h j hj x (by rw [eg j hj]; exact hx)
    unfold crossB at h1
    rw [List.all_eq_true] at h1
    have h2 := h1 c.ps[i] (List.mem_take_iff_getElem.2 ⟨i, by omega, rfl⟩)
    rw [List.all_eq_true] at h2
    exact (hcl y x).1 (h2 y hy)
  · intro h i hi x hx
    rw [eg i hi] at hx
    unfold crossB
    rw [List.all_eq_true]
    intro o ho
    obtain ⟨j, hj, rfl⟩ := List.mem_take_iff_getElem.1 ho
    rw [List.all_eq_true]
    intro y hy
    exact (hcl y x).2 (h j i (by omega) hi (by omega) y hy x hx)
theorem gc_eq (c : CC) : gcB c = (headB c && placesB c && keepB c) := by
  unfold gcB placesB
  cases headB c
  · simp
  by_cases hl : (names c).length = c.ps.length
  case neg => simp [hl]
  simp only [hl, decide_true, Bool.true_and]
  have eg : ∀ i (hi : i < c.ps.length), c.ps.getD i Pls.zeroC = c.ps[i] := fun i hi => by rw [List.getD_eq_getElem?_getD, List.getElem?_eq_getElem hi]; rfl
  cases hp : (List.range c.ps.length).all (plB c)
  · rw [List.all_eq_false] at hp
    obtain ⟨i, hi, h⟩ := hp
    rw [Bool.false_and, List.all_eq_false]
    exact ⟨i, hi, by rw [step_pl (Bool.eq_false_iff.2 h)]; simp⟩
  · rw [List.all_eq_true] at hp
    have hp' : ∀ i, i < c.ps.length → plB c i = true := fun i hi => hp i (by simpa using hi)
    have hgs : ∀ p ∈ c.ps, (p.its.map kL).Nodup ∧ (p.its.map tL).Nodup := fun p hm => by
      obtain ⟨i, hi, rfl⟩ := List.getElem_of_mem hm
      have := hp' i hi
      simp only [plB, Bool.and_eq_true, eg i hi] at this
      exact gs_nodup this.1.1.2
    rw [Bool.true_and, Bool.eq_iff_iff]
    have k1 := (size_set (.agg [] : DataW Unit) ((allI c.ps).map kL) (keysOf_key kL_key _)).2
    have k2 := (size_set (.agg [] : DataW Unit) ((allI c.ps).map tL) (keysOf_key tL_key _)).2
    rw [List.length_map] at k1 k2
    unfold keepB
    rw [Bool.and_eq_true, Bool.and_eq_true, decide_eq_true_eq, decide_eq_true_eq, k1, k2, nodup_flat, nodup_flat, List.all_eq_true, List.all_eq_true]
    constructor
    · intro h
      have h' : ∀ i (hi : i < c.ps.length), ∀ x ∈ c.ps[i].its, homeB c.ns c.cs c.ps[i].name x = true ∧ crossB c i x = true := fun i hi x hx => by
        have h1 := h i (by simpa using hi)
        simp only [stepB, Bool.and_eq_true, List.all_eq_true, eg i hi] at h1
        have h2 := h1.2 x hx
        simp only [itB, Bool.and_eq_true, eg i hi] at h2
        exact h2
      have hx := (cross_iff c).1 (fun i hi x hx => (h' i hi x (by rw [eg i hi] at hx; exact hx)).2)
      refine ⟨⟨fun p hm => ?_, fun p hm => (hgs p hm).1, hx.imp (fun h x hx y hy => (h x hx y hy).1)⟩, fun p hm => (hgs p hm).2, hx.imp (fun h x hx y hy => (h x hx y hy).2)⟩
      obtain ⟨i, hi, rfl⟩ := List.getElem_of_mem hm
      rw [List.all_eq_true]
      exact fun x hx => (h' i hi x hx).1
    · rintro ⟨⟨h1, _, h2⟩, _, h3⟩ i hi
      have hi' : i < c.ps.length := by simpa using hi
      have hx := (cross_iff c).2 (List.pairwise_and_iff.2 ⟨h2, h3⟩ |>.imp (fun h y hy x hx => ⟨h.1 y hy x hx, h.2 y hy x hx⟩))
      unfold stepB
      rw [hp' i hi', Bool.true_and, List.all_eq_true]
      intro x hm
      have h4 := h1 c.ps[i] (List.getElem_mem hi')
      rw [List.all_eq_true] at h4
      unfold itB
      rw [hx i hi' x hm, Bool.and_true, eg i hi']
      exact h4 x (by rw [eg i hi'] at hm; exact hm)
end Clus
end Go.Proofs.YtkodgbalhnbhcaaGreatDoor
