/-
  The contract of the model's l3Hash: a plain function of the bytes, for every string.
-/
import Derived.Test.YthgcfklfpllgnaaDoorZ1
import Derived.Test.YthgcfklfpllgnaaDoorRows
import Derived.Test.YthgcfklfpllgnaaDoorZ2
import Derived.Deep.RegionWith
import Derived.Test.YthgcfklfpllgnaaDoorZ4
import Derived.BigQuiet
import Derived.Deep.QuietTactic
import Derived.WalkLawsBesides
import Derived.Test.YthgcfklfpllgnaaDoorZ5
namespace Go.Proofs.YthgcfklfpllgnaaDoor
namespace Hash
open Go.RowKit Base
set_option linter.unusedVariables false

def mixB (h : Int) (c : UInt8) : Int := bits BinOp.xor IntKind.u32 h ((c.toNat : Int) % 4294967296) * 16777619 % 4294967296
def mixE (h : Int) : Int := bits BinOp.xor IntKind.u32 h (h / 32768) * 2654435761 % 4294967296
def mixN : Nat → Int → Int
  | 0, h => h
  | n + 1, h => mixE (mixN n h)
def fold (l : List UInt8) : Int := l.foldl mixB 2166136261
def hashN (l : List UInt8) : Int := mixN 3 (fold l)
theorem take_snoc (s : ByteArray) (k : Nat) (h : k < s.size) : s.data.toList.take (k + 1) = s.data.toList.take k ++ [s[k]] := by
  rw [List.take_succ_eq_append_getElem (by simpa using h)]; rfl
theorem fold_step (s : ByteArray) (k : Nat) (h : k < s.size) : fold (s.data.toList.take (k + 1)) = mixB (fold (s.data.toList.take k)) s[k] := by
  rw [take_snoc s k h]; simp [fold]
theorem mixB_bd (h : Int) (c : UInt8) : 0 ≤ mixB h c ∧ mixB h c < 4294967296 := by unfold mixB; omega
theorem mixE_bd (h : Int) : 0 ≤ mixE h ∧ mixE h < 4294967296 := by unfold mixE; omega

end Hash
end Go.Proofs.YthgcfklfpllgnaaDoor
/-
  Contracts of the model's l3Name and GoodNodes: plain functions of names and weights, for every slice of nodes that lies in memory.
-/
namespace Go.Proofs.YthgcfklfpllgnaaDoor
namespace NodesM
open Go.RowKit Base GoodKey Nodes
set_option linter.unusedVariables false

def okc (c : UInt8) : Bool := (decide (97 ≤ c.toNat) && decide (c.toNat ≤ 122)) || (decide (48 ≤ c.toNat) && decide (c.toNat ≤ 57))
def nameB (l : List UInt8) : Bool := inB l.length 1 8 && l.all okc
theorem okc_yes {c : UInt8} (h : (97 ≤ (c.toNat : Int) ∧ (c.toNat : Int) ≤ 122) ∨ (48 ≤ (c.toNat : Int) ∧ (c.toNat : Int) ≤ 57)) : okc c = true := by
  simp only [okc, Bool.or_eq_true, Bool.and_eq_true, decide_eq_true_eq]; omega
theorem okc_no {c : UInt8} (h : ¬ ((97 ≤ (c.toNat : Int) ∧ (c.toNat : Int) ≤ 122) ∨ (48 ≤ (c.toNat : Int) ∧ (c.toNat : Int) ≤ 57))) : okc c = false := by
  rw [Bool.eq_false_iff]
  intro h2
  simp only [okc, Bool.or_eq_true, Bool.and_eq_true, decide_eq_true_eq] at h2; omega
theorem nall_step (s : ByteArray) (k : Nat) (h : k < s.size) (ha : (s.data.toList.take k).all okc = true) (hc : okc s[k] = true) : (s.data.toList.take (k + 1)).all okc = true := by
  rw [take_snoc s k h, List.all_append, ha]; simp [hc]
theorem nall_bad (s : ByteArray) (k : Nat) (h : k < s.size) (hc : okc s[k] = false) : nameB s.data.toList = false := by
  have hm : s[k] ∈ s.data.toList := by
    have e : s[k] = s.data.toList[k]'(by simpa using h) := rfl
    rw [e]; exact List.getElem_mem _
  have ha : s.data.toList.all okc = false := by rw [List.all_eq_false]; exact ⟨_, hm, by simp [hc]⟩
  simp [nameB, ha]
theorem nall_end (s : ByteArray) (k : Nat) (hk : k ≤ s.size) (h : ¬ k < s.size) (ha : (s.data.toList.take k).all okc = true) : inB s.size 1 8 = nameB s.data.toList := by
  have e : s.data.toList.take k = s.data.toList := List.take_of_length_le (by simp; omega)
  rw [e] at ha
  have el : s.data.toList.length = s.size := by simp
  simp [nameB, ha, el]

set_option maxHeartbeats 1000000 in
theorem name_any (s : ByteArray) (w : World) (hs : s.size ≤ maxLen) :
    Calls Tryd.prog 26 #[.string s] w fun e w' => e = .returned (.bool (nameB s.data.toList)) ∧ w' = w := by
  unfold maxLen at hs
  go_enter Tryd.func26, Tryd.ntmps26
  go_wp2
  go_loop [3] (fun i => ∃ k : Nat, k ≤ s.size ∧ i = .int .i64 k ∧ Hid ((s.data.toList.take k).all okc = true)) (fun i => s.size - (intOf i).toNat)
  case atStart => exact ⟨0, Nat.zero_le _, rfl, hide rfl⟩
  case round =>
    obtain ⟨k, hk, rfl, ha⟩ := hrel
    by_cases hlt : k < s.size
    · have hcase : (97 ≤ (s[k].toNat : Int) ∧ (s[k].toNat : Int) ≤ 122) ∨ (¬ 97 ≤ (s[k].toNat : Int) ∧ 48 ≤ (s[k].toNat : Int) ∧ (s[k].toNat : Int) ≤ 57) ∨ (97 ≤ (s[k].toNat : Int) ∧ ¬ (s[k].toNat : Int) ≤ 122) ∨
          (¬ 97 ≤ (s[k].toNat : Int) ∧ 48 ≤ (s[k].toNat : Int) ∧ ¬ (s[k].toNat : Int) ≤ 57) ∨ (¬ 97 ≤ (s[k].toNat : Int) ∧ ¬ 48 ≤ (s[k].toNat : Int)) := by omega
      rcases hcase with ⟨h1, h2⟩ | ⟨h1, h2, h3⟩ | ⟨h1, h2⟩ | ⟨h1, h2, h3⟩ | ⟨h1, h2⟩
      · have H := hide (nall_step s k hlt (unhide ha) (okc_yes (by omega)))
        go_wp2
        go_round
        case rel => exact ⟨k + 1, by omega, by go_num, H⟩
        case measure => simp [intOf]; omega
      · have H := hide (nall_step s k hlt (unhide ha) (okc_yes (by omega)))
        go_wp2
        go_round
        case rel => exact ⟨k + 1, by omega, by go_num, H⟩
        case measure => simp [intOf]; omega
      · have h3 : 48 ≤ (s[k].toNat : Int) := by omega
        have h4 : ¬ (s[k].toNat : Int) ≤ 57 := by omega
        have H := hide (nall_bad s k hlt (okc_no (by omega)))
        go_wp2
        go_ret
        exact ⟨ret_bool (unhide H).symm, rfl⟩
      · have H := hide (nall_bad s k hlt (okc_no (by omega)))
        go_wp2
        go_ret
        exact ⟨ret_bool (unhide H).symm, rfl⟩
      · have H := hide (nall_bad s k hlt (okc_no (by omega)))
        go_wp2
        go_ret
        exact ⟨ret_bool (unhide H).symm, rfl⟩
    · have H := hide (nall_end s k hk hlt (unhide ha))
      go_wp2_with (go_at_call 27; refine (l1In_any _ _ _ _).mono ?_; rintro e w' ⟨rfl, rfl⟩)
      go_ret
      exact ⟨ret_bool (unhide H), rfl⟩

def nodeB (x : D) : Bool := nameB x.name.data.toList && inB x.weight 1 5
def stepB (l : List D) (i : Nat) : Bool := nodeB (l.getD i zero) && (decide (i = 0) || Op.bytesLess (l.getD (i - 1) zero).name.toList (l.getD i zero).name.toList)
def goodTo (l : List D) (k : Nat) : Bool := (List.range k).all (stepB l)
def gnB (l : List D) : Bool := goodTo l l.length && inB l.length 1 8
theorem goodTo_step {l : List D} {k : Nat} (h : goodTo l k = true) (hs : stepB l k = true) : goodTo l (k + 1) = true := by
  unfold goodTo at *
  rw [List.range_succ, List.all_append, h]
  simp [hs]
theorem gn_bad {l : List D} {k : Nat} (hk : k < l.length) (hs : stepB l k = false) : gnB l = false := by
  have : goodTo l l.length = false := by
    unfold goodTo
    rw [List.all_eq_false]
    exact ⟨k, by simpa using hk, by simp [hs]⟩
  simp [gnB, this]
theorem gn_end {l : List D} (h : goodTo l l.length = true) : inB l.length 1 8 = gnB l := by simp [gnB, h]

set_option maxHeartbeats 2000000 in
theorem nodes_some (b off cap : Nat) (l : List D) (w : World) (hb : b < w.heap.size) (hc : ∀ i, i < l.length → At w b (off + i * 2) (l.getD i zero)) (hl : l.length ≤ maxLen) (hs : ∀ x ∈ l, Fits x) :
    Calls Tryd.prog 14 #[.slice (some ⟨b, off, none⟩) l.length cap] w fun e w' => e = .returned (.bool (gnB l)) ∧ Below w.heap.size w w' := by
  unfold maxLen at hl
  have hcs := hide hc
  have hss := hide hs
  clear hc hs
  go_enter Tryd.func14, Tryd.ntmps14
  go_wp2
  go_loopw [7] (fun i wr => ∃ k : Nat, k ≤ l.length ∧ i = .int .i64 k ∧ Hid (goodTo l k = true) ∧ Hid (Below w.heap.size w wr)) (fun i _ => l.length - (intOf i).toNat)
  case atStart => exact ⟨0, Nat.zero_le _, rfl, hide rfl, hide (Below.refl _ _)⟩
  case round =>
    obtain ⟨k, hk, rfl, hg, hbel⟩ := hrel
    by_cases hlt : k < l.length
    · obtain ⟨c0, c1⟩ := (unhide hcs k hlt).below (unhide hbel) hb
      have hfit := hide (fits_getD (unhide hss) k hlt)
      have hbad := hide (@gn_bad l k hlt)
      have hgs := hide (@goodTo_step l k (unhide hg))
      have hzb := (unhide hbel).size
      have hstep : Hid (stepB l k = (nodeB (l.getD k zero) && (decide (k = 0) || Op.bytesLess (l.getD (k - 1) zero).name.toList (l.getD k zero).name.toList))) := rfl
      have hprev : 0 < k → wr.cell? ⟨b, off + (k - 1) * 2, none⟩ = some (.string (l.getD (k - 1) zero).name) := fun h => ((unhide hcs (k - 1) (by omega)).below (unhide hbel) hb).1
      generalize l.getD k zero = x at c0 c1 hfit hstep
      generalize (l.getD (k - 1) zero).name = pn at hprev hstep
      have hname := fun w => name_any x.name w (unhide hfit)
      cases e1 : nameB x.name.data.toList
      · rw [e1] at hname
        have H := hide (unhide hbad (by rw [unhide hstep, nodeB, e1]; rfl))
        have HN := hide hname
        clear hname e1 hbad hgs hprev
        go_wp2
        go_quiet ((go_at_call 26; exact Calls.quiet_of_same (unhide HN _)))
        go_wp2
        go_ret
        exact ⟨ret_bool (unhide H).symm, bel_draws ((unhide hbel).alloc hzb _) _⟩
      rw [e1] at hname
      have HN := hide hname
      clear hname
      cases e2 : inB x.weight 1 5
      · have H := hide (unhide hbad (by rw [unhide hstep, nodeB, e1, e2]; rfl))
        clear e1 hbad hgs hprev
        go_wp2
        go_quiet ((first | (go_at_call 26; exact Calls.quiet_of_same (unhide HN _)) | (go_at_call 27; exact Calls.quiet_of_same (l1In_any _ _ _ _))))
        go_wp2
        go_ret
        exact ⟨ret_bool (unhide H).symm, bel_draws ((unhide hbel).alloc hzb _) _⟩
      have HST := hide ((unhide hstep).trans (by rw [nodeB, e1, e2]; rfl : _ = (decide (k = 0) || Op.bytesLess pn.toList x.name.toList)))
      clear hstep e1
      by_cases hk0 : k = 0
      · subst hk0
        have H := hide (unhide hgs (by rw [unhide HST]; rfl))
        rw [Nat.zero_mul, Nat.add_zero] at c0 c1
        clear hbad hgs hprev
        go_wp2
        go_quiet ((first | (go_at_call 26; exact Calls.quiet_of_same (unhide HN _)) | (go_at_call 27; exact Calls.quiet_of_same (l1In_any _ _ _ _))))
        go_wp2
        go_roundw
        case rel => exact ⟨1, by omega, by go_num, H, hide (bel_draws ((unhide hbel).alloc hzb _) _)⟩
        case measure => simp [intOf]; omega
      · obtain ⟨j, rfl⟩ : ∃ j, k = j + 1 := ⟨k - 1, by omega⟩
        have p0 := hprev (by omega)
        rw [Nat.add_sub_cancel] at p0
        have hkp : decide (0 < ((j + 1 : Nat) : Int)) = true := by simp
        have hwj : IntKind.i64.wrap (j : Int) = (j : Int) := by rw [IntKind.wrap_i64]; omega
        have hjl : (j : Int) < (l.length : Int) := by omega
        have hbw : b < wr.heap.size := Nat.lt_of_lt_of_le hb hzb
        have hj0 : (0 : Int) ≤ (j : Int) := by omega
        clear hprev hk0
        cases e3 : Op.bytesLess pn.toList x.name.toList
        · have H := hide (unhide hbad (by rw [unhide HST, e3]; simp))
          clear hbad hgs
          go_wp2
          go_quiet ((first | (go_at_call 26; exact Calls.quiet_of_same (unhide HN _)) | (go_at_call 27; exact Calls.quiet_of_same (l1In_any _ _ _ _))))
          go_wp2
          go_ret
          exact ⟨ret_bool (unhide H).symm, bel_draws ((unhide hbel).alloc hzb _) _⟩
        · have H := hide (unhide hgs (by rw [unhide HST, e3]; simp))
          clear hbad hgs
          go_wp2
          go_quiet ((first | (go_at_call 26; exact Calls.quiet_of_same (unhide HN _)) | (go_at_call 27; exact Calls.quiet_of_same (l1In_any _ _ _ _))))
          go_wp2
          go_roundw
          case rel => exact ⟨j + 1 + 1, by omega, by go_num, H, hide (bel_draws ((unhide hbel).alloc hzb _) _)⟩
          case measure => simp [intOf]; omega
    · obtain rfl : k = l.length := by omega
      have H := hide (gn_end (unhide hg))
      go_wp2_with (go_at_call 27; refine (l1In_any _ _ _ _).mono ?_; rintro e w' ⟨rfl, rfl⟩)
      go_ret
      exact ⟨ret_bool (unhide H), unhide hbel⟩
end NodesM
end Go.Proofs.YthgcfklfpllgnaaDoor
/-
  The points of a node and of a list of nodes, as plain data. No Go function is spoken of here.
-/
namespace Go.Proofs.YthgcfklfpllgnaaDoor
namespace Ring
open Go.RowKit Base Points NumText
set_option linter.unusedVariables false

/-- The point i of a name. -/
def ptN (name : ByteArray) (i : Nat) : D := ⟨Hash.hashN ((name ++ ⟨#[45]⟩) ++ txt i).data.toList, name⟩
/-- The points of a node. -/
def ptsN (name : ByteArray) (n : Nat) : List D := (List.range n).map (ptN name)
theorem ptsN_length (name : ByteArray) (n : Nat) : (ptsN name n).length = n := by simp [ptsN]
theorem ptsN_get (name : ByteArray) (n k : Nat) (h : k < n) : (ptsN name n).getD k zero = ptN name k := by
  simp [ptsN, List.getD_eq_getElem?_getD, h]
theorem ptsN_succ (name : ByteArray) (n : Nat) : ptsN name (n + 1) = ptsN name n ++ [ptN name n] := by simp [ptsN, List.range_succ]
def ptsOf (x : Nodes.D) : List D := ptsN x.name (8 * x.weight).toNat
/-- The points of all nodes, in their order. -/
def points (l : List Nodes.D) : List D := l.flatMap ptsOf
theorem points_take_succ (l : List Nodes.D) (k : Nat) (h : k < l.length) : points (l.take (k + 1)) = points (l.take k) ++ ptsOf (l.getD k Nodes.zero) := by
  have e : l.getD k Nodes.zero = l[k] := by simp [h]
  rw [e, List.take_succ_eq_append_getElem h]
  unfold points
  rw [List.flatMap_append]
  simp only [List.flatMap_cons, List.flatMap_nil, List.append_nil]
theorem txt_size (n : Nat) (h : n < 18446744073709551616) : (txt n).size ≤ 20 := by
  have h1 := Lib.nDigits_le20 n h
  have e : (txt n).size = Lib.nDigits n := by
    show (Lib.decDigits n).toArray.size = _
    rw [Lib.decDigits_eq]; simp
  omega

theorem mixN_bd (n : Nat) (h : Int) (h0 : 0 ≤ h) (h1 : h < 4294967296) : 0 ≤ Hash.mixN n h ∧ Hash.mixN n h < 4294967296 := by
  induction n with
  | zero => exact ⟨h0, h1⟩
  | succ n ih => exact Hash.mixE_bd _
theorem hashN_bd (l : List UInt8) : 0 ≤ Hash.hashN l ∧ Hash.hashN l < 4294967296 := by
  unfold Hash.hashN Hash.mixN
  exact Hash.mixE_bd _

/-- Good nodes: how many, how great. -/
theorem good_len {l : List Nodes.D} (h : NodesM.gnB l = true) : 1 ≤ l.length ∧ l.length ≤ 8 := by
  unfold NodesM.gnB GoodKey.inB at h
  simp only [Bool.and_eq_true, decide_eq_true_eq] at h
  omega
theorem good_at {l : List Nodes.D} (h : NodesM.gnB l = true) {k : Nat} (hk : k < l.length) : NodesM.nodeB (l.getD k Nodes.zero) = true := by
  unfold NodesM.gnB NodesM.goodTo at h
  simp only [Bool.and_eq_true, List.all_eq_true, List.mem_range] at h
  have := h.1 k hk
  unfold NodesM.stepB at this
  simp only [Bool.and_eq_true] at this
  exact this.1
theorem node_bd {x : Nodes.D} (h : NodesM.nodeB x = true) : x.name.size ≤ 8 ∧ 1 ≤ x.name.size ∧ 1 ≤ x.weight ∧ x.weight ≤ 5 := by
  unfold NodesM.nodeB NodesM.nameB GoodKey.inB at h
  simp only [Bool.and_eq_true, decide_eq_true_eq] at h
  have el : x.name.data.toList.length = x.name.size := by simp
  rw [el] at h
  omega
theorem ptsOf_length (x : Nodes.D) : (ptsOf x).length = (8 * x.weight).toNat := ptsN_length _ _
theorem points_le {l : List Nodes.D} (h : NodesM.gnB l = true) (k : Nat) (hk : k ≤ l.length) : (points (l.take k)).length ≤ k * 40 := by
  induction k with
  | zero => simp [points]
  | succ k ih =>
    rw [points_take_succ l k (by omega), List.length_append, ptsOf_length]
    have := ih (by omega)
    have := node_bd (good_at h (show k < l.length by omega))
    omega
theorem points_len {l : List Nodes.D} (h : NodesM.gnB l = true) : (points l).length ≤ 320 := by
  have h1 := points_le h l.length (Nat.le_refl _)
  have h2 := good_len h
  rw [List.take_length] at h1
  omega
theorem points_pos {l : List Nodes.D} (h : NodesM.gnB l = true) : 1 ≤ (points l).length := by
  have h2 := good_len h
  obtain ⟨x, r, rfl⟩ : ∃ x r, l = x :: r := by cases l with | nil => simp at h2 | cons x r => exact ⟨x, r, rfl⟩
  have := node_bd (good_at h (show 0 < (x :: r).length by simp))
  have e : (points (x :: r)).length = (ptsOf x).length + (points r).length := by simp [points]
  rw [e, ptsOf_length]
  simp at this
  omega
end Ring
end Go.Proofs.YthgcfklfpllgnaaDoor
