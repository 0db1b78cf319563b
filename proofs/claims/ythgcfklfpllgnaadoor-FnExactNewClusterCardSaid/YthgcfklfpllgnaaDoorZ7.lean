/-
  What a good cluster is, as plain functions: by looking at each item and all places ahead of it, and by sets of keys and of tokens over all places: both are the same. No Go function is spoken of here.
-/
import Derived.Test.YthgcfklfpllgnaaDoorZ1
import Derived.Test.YthgcfklfpllgnaaDoorZ3
import Derived.Test.YthgcfklfpllgnaaDoorZ5
import Derived.Test.YthgcfklfpllgnaaDoorZ6
import Derived.Test.YthgcfklfpllgnaaDoorRows
import Derived.Deep.RegionWith
import Derived.BigQuiet
import Derived.Deep.QuietTactic
namespace Go.Proofs.YthgcfklfpllgnaaDoor
namespace Clus
open Go.RowKit Base GoodKey Items Store Plc
set_option linter.unusedVariables false

structure CC where
  now : Int
  nx : Int
  lim : Int
  lost : Int
  ns : List Nodes.D
  cs : List Nodes.D
  ps : List Pls.Core
def own (l : List Nodes.D) (k : ByteArray) : ByteArray := Ring.ownerN (Ring.ring (Ring.points l)) (Hash.hashN k.data.toList)
def homeB (ns cs : List Nodes.D) (nm : ByteArray) (x : Itm) : Bool := decide (own ns x.key = nm) || (!cs.isEmpty && decide (own cs x.key = nm))
def names (c : CC) : List ByteArray := insAll (c.ns.map (·.name) ++ c.cs.map (·.name))
def headB (c : CC) : Bool := inB c.now 0 1000000000 && inB c.nx 1 1000000000 && inB c.lim 0 10000 && inB c.lost 0 1000000 && NodesM.gnB c.ns && (c.cs.isEmpty || NodesM.gnB c.cs)
def plB (c : CC) (i : Nat) : Bool := decide ((c.ps.getD i Pls.zeroC).name = (names c).getD i ByteArray.empty) && gsB (c.ps.getD i Pls.zeroC).lim (c.ps.getD i Pls.zeroC).nx (c.ps.getD i Pls.zeroC).its && decide ((c.ps.getD i Pls.zeroC).lim = c.lim) && decide ((c.ps.getD i Pls.zeroC).nx ≤ c.nx)
def crossB (c : CC) (i : Nat) (x : Itm) : Bool := (c.ps.take i).all (fun o => o.its.all (fun y => !clash y x))
def itB (c : CC) (i : Nat) (x : Itm) : Bool := homeB c.ns c.cs (c.ps.getD i Pls.zeroC).name x && crossB c i x
def stepB (c : CC) (i : Nat) : Bool := plB c i && (c.ps.getD i Pls.zeroC).its.all (itB c i)
def gcB (c : CC) : Bool := headB c && decide ((names c).length = c.ps.length) && (List.range c.ps.length).all (stepB c)
theorem gc_head {c : CC} (h : headB c = false) : gcB c = false := by simp [gcB, h]
theorem gc_len {c : CC} (h : (names c).length ≠ c.ps.length) : gcB c = false := by simp [gcB, h]
theorem gc_bad {c : CC} {i : Nat} (hi : i < c.ps.length) (h : stepB c i = false) : gcB c = false := by
  have : (List.range c.ps.length).all (stepB c) = false := by rw [List.all_eq_false]; exact ⟨i, by simpa using hi, by simp [h]⟩
  simp [gcB, this]
theorem gc_end {c : CC} (h : headB c = true) (hl : (names c).length = c.ps.length) (hs : ∀ i, i < c.ps.length → stepB c i = true) : gcB c = true := by
  have : (List.range c.ps.length).all (stepB c) = true := by rw [List.all_eq_true]; intro i hi; exact hs i (by simpa using hi)
  simp [gcB, h, hl, this]
theorem step_pl {c : CC} {i : Nat} (h : plB c i = false) : stepB c i = false := by simp [stepB, h]
theorem step_it {c : CC} {i q : Nat} (hq : q < (c.ps.getD i Pls.zeroC).its.length) (h : itB c i ((c.ps.getD i Pls.zeroC).its.getD q zero) = false) : stepB c i = false := by
  have : (c.ps.getD i Pls.zeroC).its.all (itB c i) = false := by
    rw [List.all_eq_false]
    refine ⟨_, List.getElem_mem hq, ?_⟩
    rw [List.getD_eq_getElem?_getD, List.getElem?_eq_getElem hq] at h
    simpa using h
  unfold stepB; rw [this, Bool.and_false]
theorem step_yes {c : CC} {i : Nat} (h : plB c i = true) (hs : ∀ q, q < (c.ps.getD i Pls.zeroC).its.length → itB c i ((c.ps.getD i Pls.zeroC).its.getD q zero) = true) : stepB c i = true := by
  have : (c.ps.getD i Pls.zeroC).its.all (itB c i) = true := by
    rw [List.all_eq_true]
    intro x hx
    obtain ⟨q, hq, rfl⟩ := List.getElem_of_mem hx
    have := hs q hq
    rw [List.getD_eq_getElem?_getD, List.getElem?_eq_getElem hq] at this
    exact this
  unfold stepB; rw [h, this]; rfl
theorem it_home {c : CC} {i : Nat} {x : Itm} (h : homeB c.ns c.cs (c.ps.getD i Pls.zeroC).name x = false) : itB c i x = false := by simp only [itB, h, Bool.false_and]
theorem it_cross {c : CC} {i j q : Nat} {x : Itm} (hji : j < i) (hi : i ≤ c.ps.length) (hq : q < (c.ps.getD j Pls.zeroC).its.length) (h : clash ((c.ps.getD j Pls.zeroC).its.getD q zero) x = true) : itB c i x = false := by
  have : crossB c i x = false := by
    unfold crossB
    rw [List.all_eq_false]
    refine ⟨c.ps[j]'(by omega), ?_, ?_⟩
    · rw [List.mem_take_iff_getElem]; exact ⟨j, by omega, rfl⟩
    · have e : c.ps.getD j Pls.zeroC = c.ps[j]'(by omega) := by rw [List.getD_eq_getElem?_getD, List.getElem?_eq_getElem (by omega)]; rfl
      rw [e] at hq h
      rw [Bool.not_eq_true, List.all_eq_false]
      refine ⟨_, List.getElem_mem hq, ?_⟩
      rw [List.getD_eq_getElem?_getD, List.getElem?_eq_getElem hq] at h
      simpa using h
  unfold itB; rw [this, Bool.and_false]
theorem it_yes {c : CC} {i : Nat} {x : Itm} (hi : i ≤ c.ps.length) (h : homeB c.ns c.cs (c.ps.getD i Pls.zeroC).name x = true) (hs : ∀ j, j < i → ∀ q, q < (c.ps.getD j Pls.zeroC).its.length → clash ((c.ps.getD j Pls.zeroC).its.getD q zero) x = false) : itB c i x = true := by
  have : crossB c i x = true := by
    unfold crossB
    rw [List.all_eq_true]
    intro o ho
    obtain ⟨j, hj, rfl⟩ := List.mem_take_iff_getElem.1 ho
    have e : c.ps.getD j Pls.zeroC = c.ps[j]'(by omega) := by rw [List.getD_eq_getElem?_getD, List.getElem?_eq_getElem (by omega)]; rfl
    have h2 := hs j (by omega)
    rw [e] at h2
    rw [List.all_eq_true]
    intro y hy
    obtain ⟨q, hq, rfl⟩ := List.getElem_of_mem hy
    have h3 := h2 q hq
    rw [List.getD_eq_getElem?_getD, List.getElem?_eq_getElem hq] at h3
    simpa using h3
  simp only [itB, h, this, Bool.and_self]

/- by sets -/
def allI (ps : List Pls.Core) : List Itm := ps.flatMap (·.its)
def placesB (c : CC) : Bool := decide ((names c).length = c.ps.length) && (List.range c.ps.length).all (plB c)
def keepB (c : CC) : Bool := c.ps.all (fun p => p.its.all (homeB c.ns c.cs p.name)) && decide (Maps.size (Maps.setOf (.agg [] : DataW Unit) ((allI c.ps).map kL)) = (allI c.ps).length) && decide (Maps.size (Maps.setOf (.agg [] : DataW Unit) ((allI c.ps).map tL)) = (allI c.ps).length)
theorem nodup_flat (ps : List Pls.Core) (f : Itm → Lit) : ((allI ps).map f).Nodup ↔ (∀ p ∈ ps, (p.its.map f).Nodup) ∧ ps.Pairwise (fun a b => ∀ x ∈ a.its, ∀ y ∈ b.its, f x ≠ f y) := by
  unfold allI List.Nodup
  rw [List.map_flatMap, List.pairwise_flatMap]
  simp only [List.mem_map, forall_exists_index, and_imp, forall_apply_eq_imp_iff₂]
theorem gs_nodup {lim nx : Int} {its : List Itm} (h : gsB lim nx its = true) : (its.map kL).Nodup ∧ (its.map tL).Nodup := by
  simp only [gsB, Bool.and_eq_true] at h
  have := (goodTo_iff nx its its.length (Nat.le_refl _)).1 h.1.2
  rw [List.take_length] at this
  exact this.2
theorem cross_iff (c : CC) : (∀ i, i < c.ps.length → ∀ x ∈ (c.ps.getD i Pls.zeroC).its, crossB c i x = true) ↔ c.ps.Pairwise (fun a b => ∀ y ∈ a.its, ∀ x ∈ b.its, kL y ≠ kL x ∧ tL y ≠ tL x) := by
  rw [List.pairwise_iff_getElem]
  have eg : ∀ i (hi : i < c.ps.length), c.ps.getD i Pls.zeroC = c.ps[i] := fun i hi => by rw [List.getD_eq_getElem?_getD, List.getElem?_eq_getElem hi]; rfl
  have hcl : ∀ y x : Itm, (!clash y x) = true ↔ kL y ≠ kL x ∧ tL y ≠ tL x := fun y x => by
    rw [Bool.not_eq_true', Bool.eq_false_iff, ne_eq, clash_iff, not_or]
  constructor
  · intro h i j hi hj hij y hy x hx
    have h1 := h j hj x (by rw [eg j hj]; exact hx)
    unfold crossB at h1
    rw [List.all_eq_true] at h1
    have h2 := h1 c.ps[i] (List.mem_take_iff_getElem.2 ⟨i, by omega, rfl⟩)
    rw [List.all_eq_true] at h2
    exact (hcl y x).1 (h2 y hy)
  · intro h i hi x hx
    rw [eg i hi] at hx
    unfold crossB
    rw [List.all_eq_true]
    intro o ho
    obtain ⟨j, hj, rfl⟩ := List.mem_take_iff_getElem.1 ho
    rw [List.all_eq_true]
    intro y hy
    exact (hcl y x).2 (h j i (by omega) hi (by omega) y hy x hx)
theorem gc_eq (c : CC) : gcB c = (headB c && placesB c && keepB c) := by
  unfold gcB placesB
  cases headB c
  · simp
  by_cases hl : (names c).length = c.ps.length
  case neg => simp [hl]
  simp only [hl, decide_true, Bool.true_and]
  have eg : ∀ i (hi : i < c.ps.length), c.ps.getD i Pls.zeroC = c.ps[i] := fun i hi => by rw [List.getD_eq_getElem?_getD, List.getElem?_eq_getElem hi]; rfl
  cases hp : (List.range c.ps.length).all (plB c)
  · rw [List.all_eq_false] at hp
    obtain ⟨i, hi, h⟩ := hp
    rw [Bool.false_and, List.all_eq_false]
    exact ⟨i, hi, by rw [step_pl (Bool.eq_false_iff.2 h)]; simp⟩
  · rw [List.all_eq_true] at hp
    have hp' : ∀ i, i < c.ps.length → plB c i = true := fun i hi => hp i (by simpa using hi)
    have hgs : ∀ p ∈ c.ps, (p.its.map kL).Nodup ∧ (p.its.map tL).Nodup := fun p hm => by
      obtain ⟨i, hi, rfl⟩ := List.getElem_of_mem hm
      have := hp' i hi
      simp only [plB, Bool.and_eq_true, eg i hi] at this
      exact gs_nodup this.1.1.2
    rw [Bool.true_and, Bool.eq_iff_iff]
    have k1 := (size_set (.agg [] : DataW Unit) ((allI c.ps).map kL) (keysOf_key kL_key _)).2
    have k2 := (size_set (.agg [] : DataW Unit) ((allI c.ps).map tL) (keysOf_key tL_key _)).2
    rw [List.length_map] at k1 k2
    unfold keepB
    rw [Bool.and_eq_true, Bool.and_eq_true, decide_eq_true_eq, decide_eq_true_eq, k1, k2, nodup_flat, nodup_flat, List.all_eq_true, List.all_eq_true]
    constructor
    · intro h
      have h' : ∀ i (hi : i < c.ps.length), ∀ x ∈ c.ps[i].its, homeB c.ns c.cs c.ps[i].name x = true ∧ crossB c i x = true := fun i hi x hx => by
        have h1 := h i (by simpa using hi)
        simp only [stepB, Bool.and_eq_true, List.all_eq_true, eg i hi] at h1
        have h2 := h1.2 x hx
        simp only [itB, Bool.and_eq_true, eg i hi] at h2
        exact h2
      have hx := (cross_iff c).1 (fun i hi x hx => (h' i hi x (by rw [eg i hi] at hx; exact hx)).2)
      refine ⟨⟨fun p hm => ?_, fun p hm => (hgs p hm).1, hx.imp (fun h x hx y hy => (h x hx y hy).1)⟩, fun p hm => (hgs p hm).2, hx.imp (fun h x hx y hy => (h x hx y hy).2)⟩
      obtain ⟨i, hi, rfl⟩ := List.getElem_of_mem hm
      rw [List.all_eq_true]
      exact fun x hx => (h' i hi x hx).1
    · rintro ⟨⟨h1, _, h2⟩, _, h3⟩ i hi
      have hi' : i < c.ps.length := by simpa using hi
      have hx := (cross_iff c).2 (List.pairwise_and_iff.2 ⟨h2, h3⟩ |>.imp (fun h y hy x hx => ⟨h.1 y hy x hx, h.2 y hy x hx⟩))
      unfold stepB
      rw [hp' i hi', Bool.true_and, List.all_eq_true]
      intro x hm
      have h4 := h1 c.ps[i] (List.getElem_mem hi')
      rw [List.all_eq_true] at h4
      unfold itB
      rw [hx i hi' x hm, Bool.and_true, eg i hi']
      exact h4 x (by rw [eg i hi'] at hm; exact hm)
end Clus
end Go.Proofs.YthgcfklfpllgnaaDoor
/-
  The law's eqItem and eqItemS.
-/
namespace Go.Proofs.YthgcfklfpllgnaaDoor
namespace Items
open Go.RowKit Base
set_option linter.unusedVariables false
set_option maxHeartbeats 400000 in
theorem eqItem_same (x : Itm) (w : World) :
    Calls Tryd.prog 65 #[.agg #[.string x.key, .int .i64 x.flags, .string x.data, .int .i64 x.upto, .int .i64 x.token], .agg #[.string x.key, .int .i64 x.flags, .string x.data, .int .i64 x.upto, .int .i64 x.token]] w fun e w' =>
      e = .returned (.bool true) ∧ Below w.heap.size w w' := by
  obtain ⟨ky, fl, dt, up, tk⟩ := x
  go_enter Tryd.func65, Tryd.ntmps65
  go_wp2
  go_ret
  exact ⟨rfl, bel2 w _ _⟩

set_option maxHeartbeats 1000000 in
theorem eqItemS_some (b off cap b' off' cap' : Nat) (its : List Itm) (w : World) (hb : b < w.heap.size) (hc : ∀ i, i < its.length → At w b (off + i * 5) (its.getD i zero))
    (hb' : b' < w.heap.size) (hc' : ∀ i, i < its.length → At w b' (off' + i * 5) (its.getD i zero)) (hl : its.length ≤ maxLen) :
    Calls Tryd.prog 57 #[.slice (some ⟨b, off, none⟩) its.length cap, .slice (some ⟨b', off', none⟩) its.length cap'] w fun e w' => e = .returned (.bool true) ∧ Below w.heap.size w w' := by
  unfold maxLen at hl
  have hcs := hide hc
  have hcs' := hide hc'
  clear hc hc'
  go_enter Tryd.func57, Tryd.ntmps57
  go_wp2
  go_loopw [5] (fun i wr => ∃ k : Nat, k ≤ its.length ∧ i = .int .i64 k ∧ Hid (Below w.heap.size w wr)) (fun i _ => its.length - (intOf i).toNat)
  case atStart => exact ⟨0, Nat.zero_le _, rfl, hide (Below.refl _ _)⟩
  case round =>
    obtain ⟨k, hk, rfl, hbel⟩ := hrel
    by_cases hlt : k < its.length
    · obtain ⟨c0, c1, c2, c3, c4⟩ := (unhide hcs k hlt).below (unhide hbel) hb
      obtain ⟨d0, d1, d2, d3, d4⟩ := (unhide hcs' k hlt).below (unhide hbel) hb'
      generalize its.getD k zero = x at c0 c1 c2 c3 c4 d0 d1 d2 d3 d4
      go_wp2
      go_region_with (go_at_call 65; refine (eqItem_same x _).mono ?_; rintro e w1 ⟨rfl, hb1⟩; have hb1 := hide hb1)
      all_goals
        go_wp2
        go_roundw
        case rel => exact ⟨k + 1, by omega, by go_num, hide ((unhide hbel).drew.trans ((unhide hb1).mono (unhide hbel).size))⟩
        case measure => simp [intOf]; omega
    · go_wp2
      go_ret
      exact ⟨rfl, unhide hbel⟩

set_option maxHeartbeats 400000 in
theorem eqItemS_same (a a' : Option Addr) (cap cap' : Nat) (its : List Itm) (w : World) (hc : ItemsAt w a its) (hc' : ItemsAt w a' its) (hl : its.length ≤ maxLen) :
    Calls Tryd.prog 57 #[.slice a its.length cap, .slice a' its.length cap'] w fun e w' => e = .returned (.bool true) ∧ Below w.heap.size w w' := by
  by_cases hne : its = []
  · subst hne
    go_enter Tryd.func57, Tryd.ntmps57
    go_wp2
    go_loop [5] (fun i => i = .int .i64 0) (fun _ => 0)
    case atStart => exact rfl
    case round =>
      obtain rfl := hrel
      go_wp2
      go_ret
      exact ⟨rfl, Below.refl _ _⟩
  · obtain ⟨b, off, rfl, hb, hcc⟩ := hc hne
    obtain ⟨b', off', rfl, hb', hcc'⟩ := hc' hne
    exact eqItemS_some b off cap b' off' cap' its w hb hcc hb' hcc' hl
end Items
end Go.Proofs.YthgcfklfpllgnaaDoor
/-
  Contracts of the law files' helpers over items: szItem, szItemS, toItem, toItemS, eqItem, eqItemS.
-/
namespace Go.Proofs.YthgcfklfpllgnaaDoor
namespace Items
open Go.RowKit Base
set_option linter.unusedVariables false
theorem info_item : (Tryd.prog.info? 92).map (fun i => (i.zero, i.size, i.bytes)) = some (some (.agg #[.string ByteArray.empty, .int .i64 0, .string ByteArray.empty, .int .i64 0, .int .i64 0]), 5, 56) := by kernel_rfl

end Items
end Go.Proofs.YthgcfklfpllgnaaDoor
