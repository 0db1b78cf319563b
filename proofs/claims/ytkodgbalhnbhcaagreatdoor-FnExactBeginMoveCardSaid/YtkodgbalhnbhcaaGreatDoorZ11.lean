/-
  The points of a node and of a list of nodes, as plain data. No Go function is spoken of here.
-/
import Derived.Test.YtkodgbalhnbhcaaGreatDoorZ10
import Derived.Test.YtkodgbalhnbhcaaGreatDoorZ2
import Derived.Test.YtkodgbalhnbhcaaGreatDoorZ8
import Derived.Test.YtkodgbalhnbhcaaGreatDoorZ9
import Derived.Test.YtkodgbalhnbhcaaGreatDoorZ7
import Derived.Test.YtkodgbalhnbhcaaGreatDoorRows
import Derived.WalkLawsBesides
import Derived.Laws.StructEq
namespace Go.Proofs.YtkodgbalhnbhcaaGreatDoor
namespace Ring
open Go.RowKit Base Points NumText
set_option linter.unusedVariables false

/-- The point i of a name. -/
def ptN (name : ByteArray) (i : Nat) : D := ⟨Hash.hashN ((name ++ ⟨#[45]⟩) ++ txt i).data.toList, name⟩
/-- The points of a node. -/
def ptsN (name : ByteArray) (n : Nat) : List D := (List.range n).map (ptN name)
theorem ptsN_length (name : ByteArray) (n : Nat) : (ptsN name n).length = n := by simp [ptsN]
theorem ptsN_get (name : ByteArray) (n k : Nat) (h : k < n) : (ptsN name n).getD k zero = ptN name k := by
  simp [ptsN, List.getD_eq_getElem?_getD, h]
theorem ptsN_succ (name : ByteArray) (n : Nat) : ptsN name (n + 1) = ptsN name n ++ [ptN name n] := by simp [ptsN, List.range_succ]
def ptsOf (x : Nodes.D) : List D := ptsN x.name (8 * x.weight).toNat
/-- The points of all nodes, in their order. -/
def points (l : List Nodes.D) : List D := l.flatMap ptsOf
theorem points_take_succ (l : List Nodes.D) (k : Nat) (h : k < l.length) : points (l.take (k + 1)) = points (l.take k) ++ ptsOf (l.getD k Nodes.zero) := by
  have e : l.getD k Nodes.zero = l[k] := by simp [h]
  rw [e, List.take_succ_eq_append_getElem h]
  unfold points
  rw [List.flatMap_append]
  simp only [List.flatMap_cons, List.flatMap_nil, List.append_nil]
theorem txt_size (n : Nat) (h : n < 18446744073709551616) : (txt n).size ≤ 20 := by
  have h1 := Lib.nDigits_le20 n h
  have e : (txt n).size = Lib.nDigits n := by
    show (Lib.decDigits n).toArray.size = _
    rw [Lib.decDigits_eq]; simp
  omega

theorem mixN_bd (n : Nat) (h : Int) (h0 : 0 ≤ h) (h1 : h < 4294967296) : 0 ≤ Hash.mixN n h ∧ Hash.mixN n h < 4294967296 := by
  induction n with
  | zero => exact ⟨h0, h1⟩
  | succ n ih => exact Hash.mixE_bd _
theorem hashN_bd (l : List UInt8) : 0 ≤ Hash.hashN l ∧ Hash.hashN l < 4294967296 := by
  unfold Hash.hashN Hash.mixN
  exact Hash.mixE_bd _

/-- Good nodes: how many, how great. -/
theorem good_len {l : List Nodes.D} (h : NodesM.gnB l = true) : 1 ≤ l.length ∧ l.length ≤ 8 := by
  unfold NodesM.gnB GoodKey.inB at h
  simp only [Bool.and_eq_true, decide_eq_true_eq] at h
  omega
theorem good_at {l : List Nodes.D} (h : NodesM.gnB l = true) {k : Nat} (hk : k < l.length) : NodesM.nodeB (l.getD k Nodes.zero) = true := by
  unfold NodesM.gnB NodesM.goodTo at h
  simp only [Bool.and_eq_true, List.all_eq_true, List.mem_range] at h
  have := h.1 k hk
  unfold NodesM.stepB at this
  simp only [Bool.and_eq_true] at this
  exact this.1
theorem node_bd {x : Nodes.D} (h : NodesM.nodeB x = true) : x.name.size ≤ 8 ∧ 1 ≤ x.name.size ∧ 1 ≤ x.weight ∧ x.weight ≤ 5 := by
  unfold NodesM.nodeB NodesM.nameB GoodKey.inB at h
  simp only [Bool.and_eq_true, decide_eq_true_eq] at h
  have el : x.name.data.toList.length = x.name.size := by simp
  rw [el] at h
  omega
theorem ptsOf_length (x : Nodes.D) : (ptsOf x).length = (8 * x.weight).toNat := ptsN_length _ _
theorem points_le {l : List Nodes.D} (h : NodesM.gnB l = true) (k : Nat) (hk : k ≤ l.length) : (points (l.take k)).length ≤ k * 40 := by
  induction k with
  | zero => simp [points]
  | succ k ih =>
    rw [points_take_succ l k (by omega), List.length_append, ptsOf_length]
    have := ih (by omega)
    have := node_bd (good_at h (show k < l.length by omega))
    omega
theorem points_len {l : List Nodes.D} (h : NodesM.gnB l = true) : (points l).length ≤ 320 := by
  have h1 := points_le h l.length (Nat.le_refl _)
  have h2 := good_len h
  rw [List.take_length] at h1
  omega
theorem points_pos {l : List Nodes.D} (h : NodesM.gnB l = true) : 1 ≤ (points l).length := by
  have h2 := good_len h
  obtain ⟨x, r, rfl⟩ : ∃ x r, l = x :: r := by cases l with | nil => simp at h2 | cons x r => exact ⟨x, r, rfl⟩
  have := node_bd (good_at h (show 0 < (x :: r).length by simp))
  have e : (points (x :: r)).length = (ptsOf x).length + (points r).length := by simp [points]
  rw [e, ptsOf_length]
  simp at this
  omega
end Ring
end Go.Proofs.YtkodgbalhnbhcaaGreatDoor
/-
  What a good cluster is, as plain functions: by looking at each item and all places ahead of it, and by sets of keys and of tokens over all places: both are the same. No Go function is spoken of here.
-/
namespace Go.Proofs.YtkodgbalhnbhcaaGreatDoor
namespace Clus
open Go.RowKit Base GoodKey Items Store Plc
set_option linter.unusedVariables false

structure CC where
  now : Int
  nx : Int
  lim : Int
  lost : Int
  ns : List Nodes.D
  cs : List Nodes.D
  ps : List Pls.Core
def own (l : List Nodes.D) (k : ByteArray) : ByteArray := Ring.ownerN (Ring.ring (Ring.points l)) (Hash.hashN k.data.toList)
def homeB (ns cs : List Nodes.D) (nm : ByteArray) (x : Itm) : Bool := decide (own ns x.key = nm) || (!cs.isEmpty && decide (own cs x.key = nm))
def names (c : CC) : List ByteArray := insAll (c.ns.map (·.name) ++ c.cs.map (·.name))
def headB (c : CC) : Bool := inB c.now 0 1000000000 && inB c.nx 1 1000000000 && inB c.lim 0 10000 && inB c.lost 0 1000000 && NodesM.gnB c.ns && (c.cs.isEmpty || NodesM.gnB c.cs)
def plB (c : CC) (i : Nat) : Bool := decide ((c.ps.getD i Pls.zeroC).name = (names c).getD i ByteArray.empty) && gsB (c.ps.getD i Pls.zeroC).lim (c.ps.getD i Pls.zeroC).nx (c.ps.getD i Pls.zeroC).its && decide ((c.ps.getD i Pls.zeroC).lim = c.lim) && decide ((c.ps.getD i Pls.zeroC).nx ≤ c.nx)
def crossB (c : CC) (i : Nat) (x : Itm) : Bool := (c.ps.take i).all (fun o => o.its.all (fun y => !clash y x))
def itB (c : CC) (i : Nat) (x : Itm) : Bool := homeB c.ns c.cs (c.ps.getD i Pls.zeroC).name x && crossB c i x
def stepB (c : CC) (i : Nat) : Bool := plB c i && (c.ps.getD i Pls.zeroC).its.all (itB c i)
def gcB (c : CC) : Bool := headB c && decide ((names c).length = c.ps.length) && (List.range c.ps.length).all (stepB c)
theorem gc_head {c : CC} (h : headB c = false) : gcB c = false := by simp [gcB, h]
theorem gc_len {c : CC} (h : (names c).length ≠ c.ps.length) : gcB c = false := by simp [gcB, h]
theorem gc_bad {c : CC} {i : Nat} (hi : i < c.ps.length) (h : stepB c i = false) : gcB c = false := by
  have : (List.range c.ps.length).all (stepB c) = false := by rw [List.all_eq_false]; exact ⟨i, by simpa using hi, by simp [h]⟩
  simp [gcB, this]
theorem gc_end {c : CC} (h : headB c = true) (hl : (names c).length = c.ps.length) (hs : ∀ i, i < c.ps.length → stepB c i = true) : gcB c = true := by
  have : (List.range c.ps.length).all (stepB c) = true := by rw [List.all_eq_true]; intro i hi; exact hs i (by simpa using hi)
  simp [gcB, h, hl, this]
theorem step_pl {c : CC} {i : Nat} (h : plB c i = false) : stepB c i = false := by simp [stepB, h]
theorem step_it {c : CC} {i q : Nat} (hq : q < (c.ps.getD i Pls.zeroC).its.length) (h : itB c i ((c.ps.getD i Pls.zeroC).its.getD q zero) = false) : stepB c i = false := by
  have : (c.ps.getD i Pls.zeroC).its.all (itB c i) = false := by
    rw [List.all_eq_false]
    refine ⟨_, List.getElem_mem hq, ?_⟩
    rw [List.getD_eq_getElem?_getD, List.getElem?_eq_getElem hq] at h
    simpa using h
  unfold stepB; rw [this, Bool.and_false]
theorem step_yes {c : CC} {i : Nat} (h : plB c i = true) (hs : ∀ q, q < (c.ps.getD i Pls.zeroC).its.length → itB c i ((c.ps.getD i Pls.zeroC).its.getD q zero) = true) : stepB c i = true := by
  have : (c.ps.getD i Pls.zeroC).its.all (itB c i) = true := by
    rw [List.all_eq_true]
    intro x hx
    obtain ⟨q, hq, rfl⟩ := List.getElem_of_mem hx
    have := hs q hq
    rw [List.getD_eq_getElem?_getD, List.getElem?_eq_getElem hq] at this
    exact this
  unfold stepB; rw [h, this]; rfl
theorem it_home {c : CC} {i : Nat} {x : Itm} (h : homeB c.ns c.cs (c.ps.getD i Pls.zeroC).name x = false) : itB c i x = false := by simp only [itB, h, Bool.false_and]
theorem it_cross {c : CC} {i j q : Nat} {x : Itm} (hji : j < i) (hi : i ≤ c.ps.length) (hq : q < (c.ps.getD j Pls.zeroC).its.length) (h : clash ((c.ps.getD j Pls.zeroC).its.getD q zero) x = true) : itB c i x = false := by
  have : crossB c i x = false := by
    unfold crossB
    rw [List.all_eq_false]
    refine ⟨c.ps[j]'(by omega), ?_, ?_⟩
    · rw [List.mem_take_iff_getElem]; exact ⟨j, by omega, rfl⟩
    · have e : c.ps.getD j Pls.zeroC = c.ps[j]'(by omega) := by rw [List.getD_eq_getElem?_getD, List.getElem?_eq_getElem (by omega)]; rfl
      rw [e] at hq h
      rw [Bool.not_eq_true, List.all_eq_false]
      refine ⟨_, List.getElem_mem hq, ?_⟩
      rw [List.getD_eq_getElem?_getD, List.getElem?_eq_getElem hq] at h
      simpa using h
  unfold itB; rw [this, Bool.and_false]
theorem it_yes {c : CC} {i : Nat} {x : Itm} (hi : i ≤ c.ps.length) (h : homeB c.ns c.cs (c.ps.getD i Pls.zeroC).name x = true) (hs : ∀ j, j < i → ∀ q, q < (c.ps.getD j Pls.zeroC).its.length → clash ((c.ps.getD j Pls.zeroC).its.getD q zero) x = false) : itB c i x = true := by
  have : crossB c i x = true := by
    unfold crossB
    rw [List.all_eq_true]
    intro o ho
    obtain ⟨j, hj, rfl⟩ := List.mem_take_iff_getElem.1 ho
    have e : c.ps.getD j Pls.zeroC = c.ps[j]'(by omega) := by rw [List.getD_eq_getElem?_getD, List.getElem?_eq_getElem (by omega)]; rfl
    have h2 := hs j (by omega)
    rw [e] at h2
    rw [List.all_eq_true]
    intro y hy
    obtain ⟨q, hq, rfl⟩ := List.getElem_of_mem hy
    have h3 := h2 q hq
    rw [List.getD_eq_getElem?_getD, List.getElem?_eq_getElem hq] at h3
    simpa using h3
  simp only [itB, h, this, Bool.and_self]

/- by sets -/
def allI (ps : List Pls.Core) : List Itm := ps.flatMap (·.its)
def placesB (c : CC) : Bool := decide ((names c).length = c.ps.length) && (List.range c.ps.length).all (plB c)
def keepB (c : CC) : Bool := c.ps.all (fun p => p.its.all (homeB c.ns c.cs p.name)) && decide (Maps.size (Maps.setOf (.agg [] : DataW Unit) ((allI c.ps).map kL)) = (allI c.ps).length) && decide (Maps.size (Maps.setOf (.agg [] : DataW Unit) ((allI c.ps).map tL)) = (allI c.ps).length)
theorem nodup_flat (ps : List Pls.Core) (f : Itm → Lit) : ((allI ps).map f).Nodup ↔ (∀ p ∈ ps, (p.its.map f).Nodup) ∧ ps.Pairwise (fun a b => ∀ x ∈ a.its, ∀ y ∈ b.its, f x ≠ f y) := by
  unfold allI List.Nodup
  rw [List.map_flatMap, List.pairwise_flatMap]
  simp only [List.mem_map, forall_exists_index, and_imp, forall_apply_eq_imp_iff₂]
theorem gs_nodup {lim nx : Int} {its : List Itm} (h : gsB lim nx its = true) : (its.map kL).Nodup ∧ (its.map tL).Nodup := by
  simp only [gsB, Bool.and_eq_true] at h
  have := (goodTo_iff nx its its.length (Nat.le_refl _)).1 h.1.2
  rw [List.take_length] at this
  exact this.2
theorem cross_iff (c : CC) : (∀ i, i < c.ps.length → ∀ x ∈ (c.ps.getD i Pls.zeroC).its, crossB c i x = true) ↔ c.ps.Pairwise (fun a b => ∀ y ∈ a.its, ∀ x ∈ b.its, kL y ≠ kL x ∧ tL y ≠ tL x) := by
  rw [List.pairwise_iff_getElem]
  have eg : ∀ i (hi : i < c.ps.length), c.ps.getD i Pls.zeroC = c.ps[i] := fun i hi => by rw [List.getD_eq_getElem?_getD, List.getElem?_eq_getElem hi]; rfl
  have hcl : ∀ y x : Itm, (!clash y x) = true ↔ kL y ≠ kL x ∧ tL y ≠ tL x := fun y x => by
    rw [Bool.not_eq_true', Bool.eq_false_iff, ne_eq, clash_iff, not_or]
  constructor
  · intro h i j hi hj hij y hy x hx
    have h1 := h j hj x (by rw [eg j hj]; exact hx)
    unfold crossB at h1
    rw [List.all_eq_true] at h1
    have h2 := h1 c.ps[i] (List.mem_take_iff_getElem.2 ⟨i, by omega, rfl⟩)
    rw [List.all_eq_true] at h2
    exact (hcl y x).1 (h2 y hy)
  · intro h i hi x hx
    rw [eg i hi] at hx
    unfold crossB
    rw [List.all_eq_true]
    intro o ho
    obtain ⟨j, hj, rfl⟩ := List.mem_take_iff_getElem.1 ho
    rw [List.all_eq_true]
    intro y hy
    exact (hcl y x).2 (h j i (by omega) hi (by omega) y hy x hx)
theorem gc_eq (c : CC) : gcB c = (headB c && placesB c && keepB c) := by
  unfold gcB placesB
  cases headB c
  · simp
  by_cases hl : (names c).length = c.ps.length
  case neg => simp [hl]
  simp only [hl, decide_true, Bool.true_and]
  have eg : ∀ i (hi : i < c.ps.length), c.ps.getD i Pls.zeroC = c.ps[i] := fun i hi => by rw [List.getD_eq_getElem?_getD, List.getElem?_eq_getElem hi]; rfl
  cases hp : (List.range c.ps.length).all (plB c)
  · rw [List.all_eq_false] at hp
    obtain ⟨i, hi, h⟩ := hp
    rw [Bool.false_and, List.all_eq_false]
    exact ⟨i, hi, by rw [step_pl (Bool.eq_false_iff.2 h)]; simp⟩
  · rw [List.all_eq_true] at hp
    have hp' : ∀ i, i < c.ps.length → plB c i = true := fun i hi => hp i (by simpa using hi)
    have hgs : ∀ p ∈ c.ps, (p.its.map kL).Nodup ∧ (p.its.map tL).Nodup := fun p hm => by
      obtain ⟨i, hi, rfl⟩ := List.getElem_of_mem hm
      have := hp' i hi
      simp only [plB, Bool.and_eq_true, eg i hi] at this
      exact gs_nodup this.1.1.2
    rw [Bool.true_and, Bool.eq_iff_iff]
    have k1 := (size_set (.agg [] : DataW Unit) ((allI c.ps).map kL) (keysOf_key kL_key _)).2
    have k2 := (size_set (.agg [] : DataW Unit) ((allI c.ps).map tL) (keysOf_key tL_key _)).2
    rw [List.length_map] at k1 k2
    unfold keepB
    rw [Bool.and_eq_true, Bool.and_eq_true, decide_eq_true_eq, decide_eq_true_eq, k1, k2, nodup_flat, nodup_flat, List.all_eq_true, List.all_eq_true]
    constructor
    · intro h
      have h' : ∀ i (hi : i < c.ps.length), ∀ x ∈ c.ps[i].its, homeB c.ns c.cs c.ps[i].name x = true ∧ crossB c i x = true := fun i hi x hx => by
        have h1 := h i (by simpa using hi)
        simp only [stepB, Bool.and_eq_true, List.all_eq_true, eg i hi] at h1
        have h2 := h1.2 x hx
        simp only [itB, Bool.and_eq_true, eg i hi] at h2
        exact h2
      have hx := (cross_iff c).1 (fun i hi x hx => (h' i hi x (by rw [eg i hi] at hx; exact hx)).2)
      refine ⟨⟨fun p hm => ?_, fun p hm => (hgs p hm).1, hx.imp (fun h x hx y hy => (h x hx y hy).1)⟩, fun p hm => (hgs p hm).2, hx.imp (fun h x hx y hy => (h x hx y hy).2)⟩
      obtain ⟨i, hi, rfl⟩ := List.getElem_of_mem hm
      rw [List.all_eq_true]
      exact fun x hx => (h' i hi x hx).1
    · rintro ⟨⟨h1, _, h2⟩, _, h3⟩ i hi
      have hi' : i < c.ps.length := by simpa using hi
      have hx := (cross_iff c).2 (List.pairwise_and_iff.2 ⟨h2, h3⟩ |>.imp (fun h y hy x hx => ⟨h.1 y hy x hx, h.2 y hy x hx⟩))
      unfold stepB
      rw [hp' i hi', Bool.true_and, List.all_eq_true]
      intro x hm
      have h4 := h1 c.ps[i] (List.getElem_mem hi')
      rw [List.all_eq_true] at h4
      unfold itB
      rw [hx i hi' x hm, Bool.and_true, eg i hi']
      exact h4 x (by rw [eg i hi'] at hm; exact hm)
end Clus
end Go.Proofs.YtkodgbalhnbhcaaGreatDoor
/-
  Contracts of cmp.Compare at texts and at numbers of 32 bits, and of the program's comparePoints: the order of the points.
-/
namespace Go.Proofs.YtkodgbalhnbhcaaGreatDoor
namespace Ring
open Go.RowKit Base Points
set_option linter.unusedVariables false

set_option maxRecDepth 10000 in
set_option maxHeartbeats 400000 in
theorem nanS (x : ByteArray) (w : World) : Calls Tryz.prog 147 #[.string x] w fun e w' => e = .returned (.bool false) ∧ w' = w := by
  go_enter Tryz.func147, Tryz.ntmps147
  go_wp2
  go_ret
  exact ⟨by simp, rfl⟩
set_option maxRecDepth 10000 in
set_option maxHeartbeats 400000 in
theorem nanU (x : Int) (w : World) : Calls Tryz.prog 162 #[.int .u32 x] w fun e w' => e = .returned (.bool false) ∧ w' = w := by
  go_enter Tryz.func162, Tryz.ntmps162
  go_wp2
  go_ret
  exact ⟨by simp, rfl⟩

def cmpI (a b : Int) : Int := if a < b then -1 else if b < a then 1 else 0
def cmpS (a b : ByteArray) : Int := if Op.bytesLess a.toList b.toList then -1 else if Op.bytesLess b.toList a.toList then 1 else 0
theorem lt_tri {x y : List UInt8} (h1 : Op.bytesLess x y = false) (h2 : (x == y) = false) : Op.bytesLess y x = true := by
  rw [bytesLess_lt] at *
  simp only [decide_eq_false_iff_not, beq_eq_false_iff_ne, decide_eq_true_eq] at *
  by_cases h : y < x
  · exact h
  · exact absurd (List.le_antisymm (List.not_lt.1 h) (List.not_lt.1 h1)) h2
theorem lt_self (x : List UInt8) : Op.bytesLess x x = false := by rw [bytesLess_lt]; simp [List.lt_irrefl]

set_option maxRecDepth 10000 in
set_option maxHeartbeats 400000 in
theorem compareU (a b : Int) (w : World) : Calls Tryz.prog 141 #[.int .u32 a, .int .u32 b] w fun e w' => e = .returned (.int .i64 (cmpI a b)) ∧ w' = w := by
  by_cases h1 : a < b
  · go_enter Tryz.func141, Tryz.ntmps141
    go_wp2_with (go_at_call 162; refine (nanU _ _).mono ?_; rintro e w' ⟨rfl, rfl⟩)
    go_ret
    exact ⟨ret_int (by unfold cmpI; rw [if_pos h1]), rfl⟩
  by_cases h2 : b < a
  · go_enter Tryz.func141, Tryz.ntmps141
    go_wp2_with (go_at_call 162; refine (nanU _ _).mono ?_; rintro e w' ⟨rfl, rfl⟩)
    go_ret
    exact ⟨ret_int (by unfold cmpI; rw [if_neg (by omega), if_pos h2]), rfl⟩
  go_enter Tryz.func141, Tryz.ntmps141
  go_wp2_with (go_at_call 162; refine (nanU _ _).mono ?_; rintro e w' ⟨rfl, rfl⟩)
  go_ret
  exact ⟨ret_int (by unfold cmpI; rw [if_neg (by omega), if_neg (by omega)]), rfl⟩
set_option maxRecDepth 10000 in
set_option maxHeartbeats 400000 in
theorem compareS (a b : ByteArray) (w : World) : Calls Tryz.prog 114 #[.string a, .string b] w fun e w' => e = .returned (.int .i64 (cmpS a b)) ∧ w' = w := by
  cases h1 : Op.bytesLess a.toList b.toList
  · cases h2 : (a.toList == b.toList)
    · have H := hide (lt_tri h1 h2)
      have H1 := hide h1
      go_enter Tryz.func114, Tryz.ntmps114
      go_wp2_with (go_at_call 147; refine (nanS _ _).mono ?_; rintro e w' ⟨rfl, rfl⟩)
      go_ret
      exact ⟨ret_int (by unfold cmpS; rw [unhide H, unhide H1]; rfl), rfl⟩
    · have H : Hid (cmpS a b = 0) := by
        show cmpS a b = 0
        unfold cmpS
        rw [eq_of_beq h2, lt_self]; rfl
      go_enter Tryz.func114, Tryz.ntmps114
      go_wp2_with (go_at_call 147; refine (nanS _ _).mono ?_; rintro e w' ⟨rfl, rfl⟩)
      go_ret
      exact ⟨ret_int (unhide H).symm, rfl⟩
  · have H1 := hide h1
    go_enter Tryz.func114, Tryz.ntmps114
    go_wp2_with (go_at_call 147; refine (nanS _ _).mono ?_; rintro e w' ⟨rfl, rfl⟩)
    go_ret
    exact ⟨ret_int (by unfold cmpS; rw [unhide H1]; rfl), rfl⟩

theorem eqPt (p q : Int) (m n : ByteArray) (w : World) : (Op.equalIn 10000 129 (.agg #[.int .u32 p, .string m]) (.agg #[.int .u32 q, .string n])).run Tryz.prog w = .ok (p == q && m.toList == n.toList) w := by
  have u1 := Tryz.underlying126
  have u2 := Tryz.underlying9
  have hS : Tryz.prog.underlying 129 = some (.struct (Tryz.prog.fieldsOf 129)) := by kernel_rfl
  have hp : Tryz.prog.stoodInHeld 129 = false := by kernel_rfl
  rw [show (10000 : Nat) = 9999 + 1 from rfl, run_equalIn_agg w 9999 129 _ _ hS hp]
  simp only [Program.fieldsOf, Tryz.underlying129]
  go_simp
  by_cases h1 : p = q <;> by_cases h2 : m.toList = n.toList <;> simp [h1, h2]

/-- What comparePoints answers. -/
def cmpN (a b : D) : Int := if less a b then -1 else if less b a then 1 else 0
theorem cmpN_le (a b : D) : decide (cmpN a b ≤ 0) = le a b := by
  unfold cmpN le
  cases h1 : less a b
  · cases h2 : less b a <;> simp
  · rw [less_asymm h1]; simp
theorem cmpN_bd (a b : D) : -1 ≤ cmpN a b ∧ cmpN a b ≤ 1 := by
  unfold cmpN
  split
  · omega
  · split <;> omega
theorem cmpN_self (a : D) : cmpN a a = 0 := by unfold cmpN; rw [less_irrefl]; rfl
theorem cmpN_name {p : Int} {m n : ByteArray} : cmpN ⟨p, m⟩ ⟨p, n⟩ = cmpS m n := by
  simp [cmpN, cmpS, less, Lib.toList_data]
theorem cmpN_pos {p q : Int} {m n : ByteArray} (h : p ≠ q) : cmpN ⟨p, m⟩ ⟨q, n⟩ = cmpI p q := by
  have h1 : ¬ q = p := fun e => h e.symm
  simp [cmpN, cmpI, less, h, h1]

set_option maxRecDepth 10000 in
set_option maxHeartbeats 1000000 in
theorem compare_any (x y : D) (w : World) : Calls Tryz.prog 127 #[.agg #[.int .u32 x.pos, .string x.name], .agg #[.int .u32 y.pos, .string y.name]] w fun e w' => e = .returned (.int .i64 (cmpN x y)) ∧ Below w.heap.size w w' := by
  obtain ⟨p, m⟩ := x
  obtain ⟨q, n⟩ := y
  have he := fun w => eqPt p q m n w
  by_cases hp : p = q
  · subst hp
    cases hn : (m.toList == n.toList)
    · have H := hide (@cmpN_name p m n)
      have hpp : (p == p) = true := by simp
      go_enter Tryz.func127, Tryz.ntmps127
      go_wp2_with (go_at_call 114; refine (compareS _ _ _).mono ?_; rintro e w' ⟨rfl, rfl⟩)
      go_ret
      exact ⟨ret_int (unhide H).symm, bel2 w _ _⟩
    · have hmn : m = n := by
        apply Go.WideShapes.bytes_inj
        rw [← Lib.toList_data, ← Lib.toList_data]; exact eq_of_beq hn
      subst hmn
      have H := hide (cmpN_self ⟨p, m⟩)
      have hpp : (p == p) = true := by simp
      go_enter Tryz.func127, Tryz.ntmps127
      go_wp2
      go_ret
      exact ⟨ret_int (unhide H).symm, bel2 w _ _⟩
  · have H := hide (@cmpN_pos p q m n hp)
    have hpq : (p == q) = false := by simp [hp]
    clear hp
    go_enter Tryz.func127, Tryz.ntmps127
    go_wp2_with (go_at_call 141; refine (compareU _ _ _).mono ?_; rintro e w' ⟨rfl, rfl⟩)
    go_ret
    exact ⟨ret_int (unhide H).symm, bel2 w _ _⟩
end Ring
end Go.Proofs.YtkodgbalhnbhcaaGreatDoor
/-
  The program's find: where a name stands, or belongs, among places that rise by name.
-/
namespace Go.Proofs.YtkodgbalhnbhcaaGreatDoor
namespace Fleet
open Go.RowKit Base Plc
set_option linter.unusedVariables false

theorem rise_at {nm : List ByteArray} (h : Rising (nm.map toL)) {p q : Nat} (hpq : p < q) (hq : q < nm.length) : toL (nm.getD p ByteArray.empty) < toL (nm.getD q ByteArray.empty) := by
  have := List.pairwise_iff_getElem.1 h p q (by simp; omega) (by simpa using hq) hpq
  simpa [List.getD_eq_getElem?_getD, show p < nm.length by omega, hq] using this
/-- Up to i the names lie below x, from j on they don't. -/
def Hv (nm : List ByteArray) (x : ByteArray) (i j : Nat) : Prop := i ≤ j ∧ j ≤ nm.length ∧ (∀ q, q < i → toL (nm.getD q ByteArray.empty) < toL x) ∧ (∀ q, j ≤ q → q < nm.length → ¬ toL (nm.getD q ByteArray.empty) < toL x)
theorem hv_start (nm : List ByteArray) (x : ByteArray) : Hv nm x 0 nm.length := ⟨Nat.zero_le _, Nat.le_refl _, fun q hq => by omega, fun q h1 h2 => by omega⟩
theorem hv_low {nm : List ByteArray} {x : ByteArray} {i j m : Nat} (hr : Rising (nm.map toL)) (h : Hv nm x i j) (h1 : i ≤ m) (h2 : m < j) (hm : toL (nm.getD m ByteArray.empty) < toL x) : Hv nm x (m + 1) j := by
  obtain ⟨a, b, c, d⟩ := h
  refine ⟨by omega, b, fun q hq => ?_, d⟩
  by_cases e : q = m
  · rw [e]; exact hm
  · exact List.lt_trans (rise_at hr (show q < m by omega) (by omega)) hm
theorem hv_high {nm : List ByteArray} {x : ByteArray} {i j m : Nat} (hr : Rising (nm.map toL)) (h : Hv nm x i j) (h1 : i ≤ m) (h2 : m < j) (hm : ¬ toL (nm.getD m ByteArray.empty) < toL x) : Hv nm x i m := by
  obtain ⟨a, b, c, d⟩ := h
  refine ⟨h1, by omega, c, fun q hq1 hq2 hl => ?_⟩
  by_cases e : q = m
  · rw [e] at hl; exact hm hl
  · exact hm (List.lt_trans (rise_at hr (show m < q by omega) hq2) hl)
theorem hv_end {nm : List ByteArray} {x : ByteArray} {i : Nat} (h : Hv nm x i i) : i = kOf x nm := by
  obtain ⟨_, b, c, d⟩ := h
  have hle := kOf_le x nm
  rcases Nat.lt_trichotomy i (kOf x nm) with hl | hl | hl
  · exact absurd ((less_iff _ _).1 (kOf_lt hl)) (d i (Nat.le_refl _) (by omega))
  · exact hl
  · have h1 := kOf_at (x := x) (L := nm) (by omega)
    have h2 := (less_iff _ _).2 (c _ hl)
    rw [h1] at h2
    cases h2
def fnd (nm : List ByteArray) (x : ByteArray) : Bool := decide (kOf x nm < nm.length) && decide (nm.getD (kOf x nm) ByteArray.empty = x)
theorem cmp_lt (a b : ByteArray) : decide (Ring.cmpS a b < 0) = decide (toL a < toL b) := by
  unfold Ring.cmpS
  by_cases h : toL a < toL b
  · rw [if_pos ((less_iff a b).2 h)]; simp [h]
  · rw [if_neg (fun e => h ((less_iff a b).1 e))]
    split <;> simp [h]
theorem cmp_eq (a b : ByteArray) : decide (Ring.cmpS a b = 0) = decide (a = b) := by
  unfold Ring.cmpS
  by_cases h : toL a < toL b
  · rw [if_pos ((less_iff a b).2 h)]
    have : a ≠ b := fun e => by rw [e] at h; exact List.lt_irrefl _ h
    simp [this]
  · rw [if_neg (fun e => h ((less_iff a b).1 e))]
    by_cases h2 : toL b < toL a
    · rw [if_pos ((less_iff b a).2 h2)]
      have : a ≠ b := fun e => by rw [e] at h2; exact List.lt_irrefl _ h2
      simp [this]
    · rw [if_neg (fun e => h2 ((less_iff b a).1 e))]
      have : a = b := toL_inj (List.le_antisymm (List.not_lt.1 h2) (List.not_lt.1 h))
      simp [this]
theorem ret_sb {i k : Nat} {b b' : Bool} (h1 : i = k) (h2 : b' = b) : Ending.returned (.tuple #[.int .i64 (i : Int), .bool b]) = .returned (.tuple #[.int .i64 (k : Int), .bool b']) := by rw [h1, h2]
/-- Places in a row of pointers, each with its name. -/
def PrAt (w : World) (g : Nat) (nm : List ByteArray) (pbs : Nat → Nat) : Prop := ∀ i, i < nm.length → w.cell? ⟨g, i, none⟩ = some (.pointer (some ⟨pbs i, 0, none⟩)) ∧ w.cell? ⟨pbs i, 1, none⟩ = some (.string (nm.getD i ByteArray.empty))
theorem PrAt.below {w w' : World} {g : Nat} {nm : List ByteArray} {pbs : Nat → Nat} (h : PrAt w g nm pbs) (hb : Below w.heap.size w w') : PrAt w' g nm pbs :=
  fun i hi => ⟨(hb.cell (block_lt_of_cell (h i hi).1)).trans (h i hi).1, (hb.cell (block_lt_of_cell (h i hi).2)).trans (h i hi).2⟩

set_option maxRecDepth 10000 in
set_option maxHeartbeats 1000000 in
theorem cmp_any (pb : Nat) (nm key : ByteArray) (w : World) (h : w.cell? ⟨pb, 1, none⟩ = some (.string nm)) :
    Calls Tryz.prog 113 #[.pointer (some ⟨pb, 0, none⟩), .string key] w fun e w' => e = .returned (.int .i64 (Ring.cmpS nm key)) ∧ Below w.heap.size w w' := by
  have HC := hide (fun w' => Ring.compareS nm key w')
  go_enter Tryz.func113, Tryz.ntmps113
  go_wp2_with fail
  refine (unhide HC _).mono ?_
  rintro e w1 ⟨rfl, h1⟩
  rw [h1]; clear h1 w1
  go_wp2
  go_ret
  exact ⟨rfl, Below.refl _ _⟩

set_option maxRecDepth 10000 in
set_option maxHeartbeats 2000000 in
theorem search_some (g cap : Nat) (nm : List ByteArray) (pbs : Nat → Nat) (key : ByteArray) (w : World) (hr : PrAt w g nm pbs) (h1 : nm.length ≤ 1000) (hs : Rising (nm.map toL)) :
    Calls Tryz.prog 112 #[.slice (some ⟨g, 0, none⟩) nm.length cap, .string key, .func (.func 113) #[] #[]] w fun e w' =>
      e = .returned (.tuple #[.int .i64 (kOf key nm : Int), .bool (fnd nm key)]) ∧ Below w.heap.size w w' := by
  have HR := hide hr
  have HS := hide hs
  have HEND := hide (fun i => @hv_end nm key i)
  have HF : Hid (fnd nm key = (decide (kOf key nm < nm.length) && decide (nm.getD (kOf key nm) ByteArray.empty = key))) := rfl
  have HSTA := hide (hv_start nm key)
  clear hr hs
  generalize hn : nm.length = n at h1 HF HSTA ⊢
  have HN := hide hn
  clear hn
  go_enter Tryz.func112, Tryz.ntmps112
  go_wp2
  go_loopw [9, 10] (fun iv jv wr => ∃ (i j : Nat), iv = .int .i64 (i : Int) ∧ jv = .int .i64 (j : Int) ∧ i ≤ j ∧ j ≤ n ∧ Hid (Hv nm key i j) ∧ Hid (Below w.heap.size w wr)) (fun iv jv _ => (intOf jv).toNat - (intOf iv).toNat)
  case atStart => exact ⟨0, n, rfl, rfl, Nat.zero_le _, Nat.le_refl _, HSTA, hide (Below.refl _ _)⟩
  case round =>
    obtain ⟨i, j, rfl, rfl, hij, hjn, hH, hbel⟩ := hrel
    by_cases hlt : i < j
    · obtain ⟨c0, c1⟩ := ((unhide HR).below (unhide hbel)) ((i + j) / 2) (by have := unhide HN; omega)
      have hlo := hide (hv_low (unhide HS) (unhide hH) (show i ≤ (i + j) / 2 by omega) (by omega))
      have hhi := hide (hv_high (unhide HS) (unhide hH) (show i ≤ (i + j) / 2 by omega) (by omega))
      have hm1 : i ≤ (i + j) / 2 := by omega
      have hm2 : (i + j) / 2 < j := by omega
      generalize nm.getD ((i + j) / 2) ByteArray.empty = x at c0 c1 hlo hhi
      generalize pbs ((i + j) / 2) = pb at c0 c1
      have HCL := hide (cmp_any pb x key wr c1)
      have hlt0 := cmp_lt x key
      generalize Ring.cmpS x key = r at HCL hlt0
      by_cases hx : toL x < toL key
      · have hr0 : r < 0 := by have := hlt0.trans (decide_eq_true hx); simpa using this
        have HH := hide (unhide hlo hx)
        clear hlt0 hlo hhi hx c1
        go_wp2_with (go_at_call 113; refine (unhide HCL).mono ?_; rintro e w1 ⟨rfl, hb1⟩; have HB1 := hide hb1)
        go_roundw
        case rel => exact ⟨(i + j) / 2 + 1, j, by go_num, rfl, by omega, hjn, HH, hide ((unhide hbel).trans ((unhide HB1).mono (unhide hbel).size))⟩
        case measure => simp [intOf]; omega
      · have hr0 : ¬ r < 0 := by have := hlt0.trans (decide_eq_false hx); simpa using this
        have HH := hide (unhide hhi hx)
        clear hlt0 hlo hhi hx c1
        go_wp2_with (go_at_call 113; refine (unhide HCL).mono ?_; rintro e w1 ⟨rfl, hb1⟩; have HB1 := hide hb1)
        go_roundw
        case rel => exact ⟨i, (i + j) / 2, rfl, by go_num, by omega, by omega, HH, hide ((unhide hbel).trans ((unhide HB1).mono (unhide hbel).size))⟩
        case measure => simp [intOf]; omega
    · obtain rfl : i = j := by omega
      have HK := hide (unhide HEND i (unhide hH))
      rw [← unhide HK] at HF
      by_cases hin : i < n
      · obtain ⟨c0, c1⟩ := ((unhide HR).below (unhide hbel)) i (by have := unhide HN; omega)
        generalize nm.getD i ByteArray.empty = x at c0 c1 HF
        generalize pbs i = pb at c0 c1
        have HCL := hide (cmp_any pb x key wr c1)
        have heq0 := cmp_eq x key
        have HF2 : Hid (fnd nm key = decide (Ring.cmpS x key = 0)) := hide (by rw [unhide HF, heq0, decide_eq_true hin]; rfl)
        generalize Ring.cmpS x key = r at HCL HF2
        clear heq0 c1 HF
        by_cases hr0 : r = 0
        · have H3 : Hid (fnd nm key = true) := hide (by rw [unhide HF2, decide_eq_true hr0])
          subst hr0
          clear HF2
          go_wp2_with (go_at_call 113; refine (unhide HCL).mono ?_; rintro e w1 ⟨rfl, hb1⟩; have HB1 := hide hb1)
          go_ret2
          exact ⟨ret_sb (unhide HK) (unhide H3), (unhide hbel).trans ((unhide HB1).mono (unhide hbel).size)⟩
        · have H3 : Hid (fnd nm key = false) := hide (by rw [unhide HF2, decide_eq_false hr0])
          have hr1 : (r == 0) = false := by simpa using hr0
          have hr2 : decide (r = 0) = false := by simpa using hr0
          clear HF2
          go_wp2_with (go_at_call 113; refine (unhide HCL).mono ?_; rintro e w1 ⟨rfl, hb1⟩; have HB1 := hide hb1)
          go_ret2
          exact ⟨ret_sb (unhide HK) (unhide H3), (unhide hbel).trans ((unhide HB1).mono (unhide hbel).size)⟩
      · have H3 : Hid (fnd nm key = false) := hide (by rw [unhide HF, decide_eq_false hin]; rfl)
        clear HF
        go_wp2
        go_ret2
        exact ⟨ret_sb (unhide HK) (unhide H3), unhide hbel⟩
set_option maxRecDepth 10000 in
set_option maxHeartbeats 1000000 in
theorem search_nil (a : Option Addr) (cap : Nat) (key : ByteArray) (w : World) :
    Calls Tryz.prog 112 #[.slice a 0 cap, .string key, .func (.func 113) #[] #[]] w fun e w' =>
      e = .returned (.tuple #[.int .i64 0, .bool false]) ∧ Below w.heap.size w w' := by
  go_enter Tryz.func112, Tryz.ntmps112
  go_wp2
  go_loopw [9, 10] (fun iv jv wr => iv = .int .i64 0 ∧ jv = .int .i64 0 ∧ Hid (Below w.heap.size w wr)) (fun _ _ _ => 0)
  case atStart => exact ⟨rfl, rfl, hide (Below.refl _ _)⟩
  case round =>
    obtain ⟨rfl, rfl, hbel⟩ := hrel
    go_wp2
    go_ret2
    exact ⟨rfl, unhide hbel⟩
end Fleet
end Go.Proofs.YtkodgbalhnbhcaaGreatDoor
