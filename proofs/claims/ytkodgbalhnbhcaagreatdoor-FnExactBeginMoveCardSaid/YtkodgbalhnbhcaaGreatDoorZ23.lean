/-
  Whether two lists of nodes are one: the model's l7SameNodes, the program's slices.Equal.
-/
import Derived.Test.YtkodgbalhnbhcaaGreatDoorZ10
import Derived.BigRegion
import Derived.Test.YtkodgbalhnbhcaaGreatDoorZ22
import Derived.Test.YtkodgbalhnbhcaaGreatDoorZ21
import Derived.Test.YtkodgbalhnbhcaaGreatDoorZ18
namespace Go.Proofs.YtkodgbalhnbhcaaGreatDoor
namespace Same
open Go.RowKit Base
set_option linter.unusedVariables false

def eqN (x y : Nodes.D) : Bool := x.name.toList == y.name.toList && x.weight == y.weight
def key (x : Nodes.D) : List UInt8 × Int := (x.name.toList, x.weight)
def sameB (l m : List Nodes.D) : Bool := decide (l.map key = m.map key)
theorem eqN_key (x y : Nodes.D) : eqN x y = true ↔ key x = key y := by
  unfold eqN key
  simp
theorem same_len {l m : List Nodes.D} (h : l.length ≠ m.length) : sameB l m = false := by
  unfold sameB
  rw [decide_eq_false_iff_not]
  intro e
  have := congrArg List.length e
  simp at this
  exact h this
theorem same_diff {l m : List Nodes.D} {k : Nat} (h1 : k < l.length) (h2 : k < m.length) (h : eqN (l.getD k Nodes.zero) (m.getD k Nodes.zero) = false) : sameB l m = false := by
  unfold sameB
  rw [decide_eq_false_iff_not]
  intro e
  have := congrArg (fun t => t[k]?) e
  simp only [List.getElem?_map, List.getElem?_eq_getElem h1, List.getElem?_eq_getElem h2, Option.map_some, Option.some.injEq] at this
  have h3 := (eqN_key _ _).2 this
  rw [List.getD_eq_getElem?_getD, List.getD_eq_getElem?_getD, List.getElem?_eq_getElem h1, List.getElem?_eq_getElem h2] at h
  simp only [Option.getD_some] at h
  rw [h3] at h
  cases h
theorem same_all {l m : List Nodes.D} (hl : l.length = m.length) (h : ∀ j, j < l.length → eqN (l.getD j Nodes.zero) (m.getD j Nodes.zero) = true) : sameB l m = true := by
  unfold sameB
  rw [decide_eq_true_eq]
  apply List.ext_getElem
  · simpa using hl
  · intro i h1 h2
    have a1 : i < l.length := by simpa using h1
    have a2 : i < m.length := by omega
    have h3 := h i a1
    rw [List.getD_eq_getElem?_getD, List.getD_eq_getElem?_getD, List.getElem?_eq_getElem a1, List.getElem?_eq_getElem a2] at h3
    simp only [List.getElem_map]
    exact (eqN_key _ _).1 h3
theorem eqNd (x y : Nodes.D) (w : World) : (Op.equalIn 10000 76 (.agg #[.string x.name, .int .i64 x.weight]) (.agg #[.string y.name, .int .i64 y.weight])).run Tryz.prog w = .ok (eqN x y) w := by
  have u1 := Tryz.underlying3
  have u2 := Tryz.underlying9
  have hS : Tryz.prog.underlying 76 = some (.struct (Tryz.prog.fieldsOf 76)) := by kernel_rfl
  have hp : Tryz.prog.stoodInHeld 76 = false := by kernel_rfl
  rw [show (10000 : Nat) = 9999 + 1 from rfl, run_equalIn_agg w 9999 76 _ _ hS hp]
  simp only [Program.fieldsOf, Tryz.underlying76]
  go_simp
  unfold eqN
  by_cases h1 : x.name.toList = y.name.toList <;> by_cases h2 : x.weight = y.weight <;> simp [h1, h2]

set_option maxRecDepth 10000 in
set_option maxHeartbeats 1000000 in
theorem same_spec (a1 a2 : Option Addr) (c1 c2 : Nat) (l m : List Nodes.D) (w : World) (h1 : Nodes.LAt w a1 l) (h2 : Nodes.LAt w a2 m) (hl : l.length ≤ 1000) (hm : m.length ≤ 1000) :
    Calls Tryz.prog 47 #[.slice a1 l.length c1, .slice a2 m.length c2] w fun e w' => e = .returned (.bool (sameB l m)) ∧ Below w.heap.size w w' := by
  by_cases hne : l.length = m.length
  case neg =>
    have H : Hid (sameB l m = false) := same_len hne
    have hd1 : ((l.length : Int) != (m.length : Int)) = true := by simp; omega
    have hd2 : decide ((l.length : Int) ≠ (m.length : Int)) = true := by simp; omega
    generalize sameB l m = R at H ⊢
    generalize l.length = n1 at *
    generalize m.length = n2 at *
    clear h1 h2
    go_enter Tryz.func47, Tryz.ntmps47
    go_wp2
    go_ret
    exact ⟨ret_bool (unhide H).symm, Below.refl _ _⟩
  have HCE : Hid (∀ k, k < l.length → ∃ b1 o1 b2 o2, a1 = some ⟨b1, o1, none⟩ ∧ a2 = some ⟨b2, o2, none⟩ ∧ b1 < w.heap.size ∧ b2 < w.heap.size ∧ Nodes.At w b1 (o1 + k * 2) (l.getD k Nodes.zero) ∧ Nodes.At w b2 (o2 + k * 2) (m.getD k Nodes.zero)) := fun k hk => by
    obtain ⟨b1, o1, e1, f1, g1⟩ := h1 (fun e => by rw [e] at hk; simp at hk)
    obtain ⟨b2, o2, e2, f2, g2⟩ := h2 (fun e => by rw [e] at hne; rw [hne] at hk; simp at hk)
    exact ⟨b1, o1, b2, o2, e1, e2, f1, f2, g1 k hk, g2 k (by omega)⟩
  have HALL := hide (@same_all l m hne)
  have HDF := hide (fun k (hk : k < l.length) => @same_diff l m k hk (by omega))
  have hd1 : ((l.length : Int) != (m.length : Int)) = false := by simp; omega
  have hd2 : decide ((l.length : Int) ≠ (m.length : Int)) = false := by simp; omega
  rw [← hne] at hm hd1 hd2 ⊢
  obtain ⟨R, hR⟩ : ∃ R, R = sameB l m := ⟨_, rfl⟩
  rw [← hR] at HALL HDF ⊢
  generalize hn : l.length = n at *
  clear h1 h2 hn hne hR
  go_enter Tryz.func47, Tryz.ntmps47
  go_wp2_with fail
  go_loopw [13] (fun iv wr => ∃ k : Nat, k ≤ n ∧ iv = .int .i64 (k : Int) ∧ Hid (∀ j, j < k → eqN (l.getD j Nodes.zero) (m.getD j Nodes.zero) = true) ∧ Hid (Below w.heap.size w wr)) (fun iv _ => n - (intOf iv).toNat)
  case atStart => exact ⟨0, Nat.zero_le _, rfl, hide (fun j hj => by omega), hide (Below.refl _ _)⟩
  case round =>
    obtain ⟨k, hk, rfl, heq, hbel⟩ := hrel
    by_cases hlt : k < n
    case neg =>
      obtain rfl : k = n := by omega
      have H := hide (unhide HALL (unhide heq))
      go_wp2
      go_ret
      exact ⟨ret_bool (unhide H).symm, unhide hbel⟩
    obtain ⟨b1, o1, b2, o2, rfl, rfl, f1, f2, g1, g2⟩ := unhide HCE k hlt
    obtain ⟨p0, p1⟩ := g1.below (unhide hbel) f1
    obtain ⟨q0, q1⟩ := g2.below (unhide hbel) f2
    have HD := hide (fun h => unhide HDF k hlt h)
    have HN : Hid (eqN (l.getD k Nodes.zero) (m.getD k Nodes.zero) = true → ∀ j, j < k + 1 → eqN (l.getD j Nodes.zero) (m.getD j Nodes.zero) = true) := fun h j hj => if e : j = k then (by rw [e]; exact h) else unhide heq j (by omega)
    clear g1 g2 HCE HALL HDF
    generalize l.getD k Nodes.zero = x at p0 p1 HD HN
    generalize m.getD k Nodes.zero = y at q0 q1 HD HN
    have hq := fun u => eqNd x y u
    generalize eqN x y = sb at HD HN hq
    go_wp2_with fail
    go_region
    cases sb
    · have H := hide (unhide HD rfl)
      go_wp2
      go_ret
      exact ⟨ret_bool (unhide H).symm, (unhide hbel).drew⟩
    · have H := hide (unhide HN rfl)
      go_wp2
      go_roundw
      case rel => exact ⟨k + 1, by omega, by go_num, H, hide (unhide hbel).drew⟩
      case measure => simp [intOf]; omega

set_option maxRecDepth 10000 in
set_option maxHeartbeats 1000000 in
theorem same_impl (a1 a2 : Option Addr) (c1 c2 : Nat) (l m : List Nodes.D) (w : World) (h1 : Nodes.LAt w a1 l) (h2 : Nodes.LAt w a2 m) (hl : l.length ≤ 1000) (hm : m.length ≤ 1000) :
    Calls Tryz.prog 92 #[.slice a1 l.length c1, .slice a2 m.length c2] w fun e w' => e = .returned (.bool (sameB l m)) ∧ Below w.heap.size w w' := by
  by_cases hne : l.length = m.length
  case neg =>
    have H : Hid (sameB l m = false) := same_len hne
    have hd1 : ((l.length : Int) != (m.length : Int)) = true := by simp; omega
    have hd2 : decide ((l.length : Int) ≠ (m.length : Int)) = true := by simp; omega
    generalize sameB l m = R at H ⊢
    generalize l.length = n1 at *
    generalize m.length = n2 at *
    clear h1 h2
    go_enter Tryz.func92, Tryz.ntmps92
    go_wp2
    go_ret
    exact ⟨ret_bool (unhide H).symm, Below.refl _ _⟩
  have HCE : Hid (∀ k, k < l.length → ∃ b1 o1 b2 o2, a1 = some ⟨b1, o1, none⟩ ∧ a2 = some ⟨b2, o2, none⟩ ∧ b1 < w.heap.size ∧ b2 < w.heap.size ∧ Nodes.At w b1 (o1 + k * 2) (l.getD k Nodes.zero) ∧ Nodes.At w b2 (o2 + k * 2) (m.getD k Nodes.zero)) := fun k hk => by
    obtain ⟨b1, o1, e1, f1, g1⟩ := h1 (fun e => by rw [e] at hk; simp at hk)
    obtain ⟨b2, o2, e2, f2, g2⟩ := h2 (fun e => by rw [e] at hne; rw [hne] at hk; simp at hk)
    exact ⟨b1, o1, b2, o2, e1, e2, f1, f2, g1 k hk, g2 k (by omega)⟩
  have HALL := hide (@same_all l m hne)
  have HDF := hide (fun k (hk : k < l.length) => @same_diff l m k hk (by omega))
  have hd1 : ((l.length : Int) != (m.length : Int)) = false := by simp; omega
  have hd2 : decide ((l.length : Int) ≠ (m.length : Int)) = false := by simp; omega
  rw [← hne] at hm hd1 hd2 ⊢
  obtain ⟨R, hR⟩ : ∃ R, R = sameB l m := ⟨_, rfl⟩
  rw [← hR] at HALL HDF ⊢
  generalize hn : l.length = n at *
  clear h1 h2 hn hne hR
  go_enter Tryz.func92, Tryz.ntmps92
  go_wp2_with fail
  go_loopw [13] (fun iv wr => ∃ k : Nat, k ≤ n ∧ iv = .int .i64 (k : Int) ∧ Hid (∀ j, j < k → eqN (l.getD j Nodes.zero) (m.getD j Nodes.zero) = true) ∧ Hid (Below w.heap.size w wr)) (fun iv _ => n - (intOf iv).toNat)
  case atStart => exact ⟨0, Nat.zero_le _, rfl, hide (fun j hj => by omega), hide (Below.refl _ _)⟩
  case round =>
    obtain ⟨k, hk, rfl, heq, hbel⟩ := hrel
    by_cases hlt : k < n
    case neg =>
      obtain rfl : k = n := by omega
      have H := hide (unhide HALL (unhide heq))
      go_wp2
      go_ret
      exact ⟨ret_bool (unhide H).symm, unhide hbel⟩
    obtain ⟨b1, o1, b2, o2, rfl, rfl, f1, f2, g1, g2⟩ := unhide HCE k hlt
    obtain ⟨p0, p1⟩ := g1.below (unhide hbel) f1
    obtain ⟨q0, q1⟩ := g2.below (unhide hbel) f2
    have HD := hide (fun h => unhide HDF k hlt h)
    have HN : Hid (eqN (l.getD k Nodes.zero) (m.getD k Nodes.zero) = true → ∀ j, j < k + 1 → eqN (l.getD j Nodes.zero) (m.getD j Nodes.zero) = true) := fun h j hj => if e : j = k then (by rw [e]; exact h) else unhide heq j (by omega)
    clear g1 g2 HCE HALL HDF
    generalize l.getD k Nodes.zero = x at p0 p1 HD HN
    generalize m.getD k Nodes.zero = y at q0 q1 HD HN
    have hq := fun u => eqNd x y u
    generalize eqN x y = sb at HD HN hq
    go_wp2_with fail
    go_region
    cases sb
    · have H := hide (unhide HD rfl)
      go_wp2
      go_ret
      exact ⟨ret_bool (unhide H).symm, (unhide hbel).drew⟩
    · have H := hide (unhide HN rfl)
      go_wp2
      go_roundw
      case rel => exact ⟨k + 1, by omega, by go_num, H, hide (unhide hbel).drew⟩
      case measure => simp [intOf]; omega
end Same
end Go.Proofs.YtkodgbalhnbhcaaGreatDoor
/-
  The beginning of a move, plainly: places for all nodes, those that were there as they were. No Go function is spoken of here.
-/
namespace Go.Proofs.YtkodgbalhnbhcaaGreatDoor
namespace Beg
open Go.RowKit Base OwnR Plc Clus Fleet
set_option linter.unusedVariables false

/-- The place of a name: one of the first k that were there, or a new one. -/
def lookK (ps : List Pls.Core) (lim : Int) (k : Nat) (nm : ByteArray) : Pls.Core := match atC (ps.take k) nm with | some j => ps.getD j Pls.zeroC | none => ⟨nm, lim, 1, []⟩
def look (ps : List Pls.Core) (lim : Int) (nm : ByteArray) : Pls.Core := lookK ps lim ps.length nm
theorem look_zero (ps : List Pls.Core) (lim : Int) (nm : ByteArray) : lookK ps lim 0 nm = ⟨nm, lim, 1, []⟩ := by
  unfold lookK atC
  simp
theorem take_atC {ps : List Pls.Core} {k : Nat} (hk : k < ps.length) (nm : ByteArray) : atC (ps.take (k + 1)) nm = match atC (ps.take k) nm with | some j => some j | none => if (ps.getD k Pls.zeroC).name = nm then some k else none := by
  have e : ps.getD k Pls.zeroC = ps[k] := by simp [hk]
  unfold atC
  rw [List.take_succ_eq_append_getElem hk, List.findIdx?_append, e]
  cases h : (ps.take k).findIdx? (fun x => x.name.toList == nm.toList) with
  | some j => simp
  | none =>
    simp only [Option.none_or]
    by_cases hn : ps[k].name = nm
    · rw [if_pos hn, List.findIdx?_cons]
      simp [hn]
      omega
    · rw [if_neg hn, List.findIdx?_cons]
      have : (ps[k].name.toList == nm.toList) = false := str_ne hn
      simp [this]
theorem atC_lt {ps : List Pls.Core} {nm : ByteArray} {j k : Nat} (h : atC (ps.take k) nm = some j) : j < k ∧ j < ps.length ∧ (ps.getD j Pls.zeroC).name = nm := by
  obtain ⟨h1, h2⟩ := at_some h
  rw [List.length_take] at h1
  refine ⟨by omega, by omega, ?_⟩
  rw [← h2]
  have h3 : j < ps.length := by omega
  have h4 : j < k := by omega
  simp [List.getD_eq_getElem?_getD, List.getElem?_map, List.getElem?_take_of_lt h4, List.getElem?_eq_getElem h3]
theorem look_name (ps : List Pls.Core) (lim : Int) (k : Nat) (nm : ByteArray) : (lookK ps lim k nm).name = nm := by
  unfold lookK
  cases h : atC (ps.take k) nm with
  | some j => exact (atC_lt h).2.2
  | none => rfl
theorem ris_ne {nm : List ByteArray} (h : Rising (nm.map toL)) {i j : Nat} (hi : i < nm.length) (hj : j < nm.length) (e : nm.getD i ByteArray.empty = nm.getD j ByteArray.empty) : i = j := by
  have h1 := kOf_is h hi (x := nm.getD j ByteArray.empty) e
  have h2 := kOf_is h hj (x := nm.getD j ByteArray.empty) rfl
  exact h1.symm.trans h2
/-- One place more that was there is put where it belongs. -/
theorem look_step {ps : List Pls.Core} {lim : Int} {k j : Nat} {W : List ByteArray} (hr : Rising ((ps.map (·.name)).map toL)) (hW : Rising (W.map toL)) (hk : k < ps.length) (hj : j < W.length) (hn : W.getD j ByteArray.empty = (ps.getD k Pls.zeroC).name) : (W.map (lookK ps lim k)).set j (ps.getD k Pls.zeroC) = W.map (lookK ps lim (k + 1)) := by
  have hnm : ∀ i, i < ps.length → (ps.map (·.name)).getD i ByteArray.empty = (ps.getD i Pls.zeroC).name := fun i hi => by simp [List.getD_eq_getElem?_getD, List.getElem?_map, List.getElem?_eq_getElem hi]
  apply List.ext_getElem
  · simp
  · intro i h1 h2
    have hi : i < W.length := by simpa using h2
    have ei : W.getD i ByteArray.empty = W[i] := by simp [hi]
    rw [List.getElem_map]
    by_cases e : i = j
    · subst e
      rw [List.getElem_set_self]
      unfold lookK
      rw [take_atC hk]
      have hno : atC (ps.take k) W[i] = none := by
        cases h : atC (ps.take k) W[i] with
        | none => rfl
        | some q =>
          obtain ⟨q1, q2, q3⟩ := atC_lt h
          have := ris_ne hr (i := q) (j := k) (by simpa using q2) (by simpa using hk) (by rw [hnm q q2, hnm k hk, q3, ← ei, hn])
          omega
      rw [hno]
      dsimp only
      rw [if_pos (by rw [← hn, ei])]
    · rw [List.getElem_set_ne (fun h => e h.symm), List.getElem_map]
      unfold lookK
      rw [take_atC hk]
      have hne : (ps.getD k Pls.zeroC).name ≠ W[i] := fun h => e (ris_ne hW hi hj (by rw [ei, ← h, hn]))
      cases h : atC (ps.take k) W[i] with
      | some q => rfl
      | none => dsimp only; rw [if_neg hne]
/-- The cluster behind a move's beginning. -/
def bmC (C : CC) (nodes : List Nodes.D) : CC := ⟨C.now, C.nx, C.lim, C.lost, C.ns, nodes, (insAll (C.ns.map (·.name) ++ nodes.map (·.name))).map (look C.ps C.lim)⟩
/-- What BeginMove tells. -/
def bmR (C : CC) (nodes : List Nodes.D) : CC × Bool := if (gcB C && decide (C.cs.length = 0) && NodesM.gnB nodes && !Same.sameB C.ns nodes) = true then (bmC C nodes, true) else (noCC, false)
theorem bm_bad {C : CC} {nodes : List Nodes.D} (h : gcB C = false) : bmR C nodes = (noCC, false) := by unfold bmR; simp [h]
theorem bm_moving {C : CC} {nodes : List Nodes.D} (h : C.cs.length ≠ 0) : bmR C nodes = (noCC, false) := by unfold bmR; simp [h]
theorem bm_nodes {C : CC} {nodes : List Nodes.D} (h : NodesM.gnB nodes = false) : bmR C nodes = (noCC, false) := by unfold bmR; simp [h]
theorem bm_same {C : CC} {nodes : List Nodes.D} (h : Same.sameB C.ns nodes = true) : bmR C nodes = (noCC, false) := by unfold bmR; simp [h]
theorem bm_yes {C : CC} {nodes : List Nodes.D} (h1 : gcB C = true) (h2 : C.cs.length = 0) (h3 : NodesM.gnB nodes = true) (h4 : Same.sameB C.ns nodes = false) : bmR C nodes = (bmC C nodes, true) := by unfold bmR; simp [h1, h2, h3, h4]
end Beg
end Go.Proofs.YtkodgbalhnbhcaaGreatDoor
/-
  Boxes of stores and items beside a cluster's rows; a store put into a place. No Go function is spoken of here.
-/
namespace Go.Proofs.YtkodgbalhnbhcaaGreatDoor
namespace Clus
open Go.RowKit Base OwnR Plc Store
set_option linter.unusedVariables false

/-- A store in a box. -/
def SB (w : World) (S : Nat) (lim nx : Int) (v : Value) : Prop := w.heap[S]? = some (.cells #[.int .i64 lim, .int .i64 nx, v] 57 (0, 0))
theorem SB.lt {w : World} {S : Nat} {lim nx : Int} {v : Value} (h : SB w S lim nx v) : S < w.heap.size := (Array.getElem?_eq_some_iff.1 h).1
theorem SB.cells {w : World} {S : Nat} {lim nx : Int} {v : Value} (h : SB w S lim nx v) : w.cell? ⟨S, 0, none⟩ = some (.int .i64 lim) ∧ w.cell? ⟨S, 1, none⟩ = some (.int .i64 nx) ∧ w.cell? ⟨S, 2, none⟩ = some v ∧ (∀ o, w.frozen? ⟨S, o, none⟩ = false) ∧ S < w.heap.size := by
  refine ⟨?_, ?_, ?_, fun o => Lib.frozen_of_heap h o, h.lt⟩ <;> (rw [Lib.cell_of_heap h]; rfl)
theorem SB.blk {w w' : World} {S : Nat} {lim nx : Int} {v : Value} (h : SB w S lim nx v) (e : w'.heap[S]? = w.heap[S]?) : SB w' S lim nx v := e.trans h
theorem SB.below {w w' : World} {S B : Nat} {lim nx : Int} {v : Value} (h : SB w S lim nx v) (hb : Below B w w') (hS : S < B) : SB w' S lim nx v := h.blk (hb.block S hS)
theorem SB.other {w : World} {S : Nat} {lim nx : Int} {v : Value} (h : SB w S lim nx v) {p : Addr} (hp : p.block ≠ S) (u : Value) : SB (w.setCell p u) S lim nx v := h.blk (Below.heap_setCell w p u S (fun e => hp e.symm))
theorem SB.new (u : World) (lim nx : Int) (v : Value) : SB (u.alloc (.cells #[.int .i64 lim, .int .i64 nx, v] 57)) u.heap.size lim nx v := heap_alloc_new u _
theorem SB.set1 {w : World} {S : Nat} {lim nx : Int} {v : Value} (h : SB w S lim nx v) (u : Int) : SB (w.setCell ⟨S, 1, none⟩ (.int .i64 u)) S lim u v := by
  unfold SB at *; simp [World.setCell, Array.getElem?_modify, h]
theorem SB.set2 {w : World} {S : Nat} {lim nx : Int} {v : Value} (h : SB w S lim nx v) (u : Value) : SB (w.setCell ⟨S, 2, none⟩ u) S lim nx u := by
  unfold SB at *; simp [World.setCell, Array.getElem?_modify, h]
/-- An item in a box. -/
def IB (w : World) (I : Nat) (x : Items.Itm) : Prop := w.heap[I]? = some (.cells #[.string x.key, .int .i64 x.flags, .string x.data, .int .i64 x.upto, .int .i64 x.token] 85 (0, 0))
theorem IB.lt {w : World} {I : Nat} {x : Items.Itm} (h : IB w I x) : I < w.heap.size := (Array.getElem?_eq_some_iff.1 h).1
theorem IB.cells {w : World} {I : Nat} {x : Items.Itm} (h : IB w I x) : w.cell? ⟨I, 0, none⟩ = some (.string x.key) ∧ w.cell? ⟨I, 1, none⟩ = some (.int .i64 x.flags) ∧ w.cell? ⟨I, 2, none⟩ = some (.string x.data) ∧ w.cell? ⟨I, 3, none⟩ = some (.int .i64 x.upto) ∧ w.cell? ⟨I, 4, none⟩ = some (.int .i64 x.token) := by
  refine ⟨?_, ?_, ?_, ?_, ?_⟩ <;> (rw [Lib.cell_of_heap h]; rfl)
theorem IB.blk {w w' : World} {I : Nat} {x : Items.Itm} (h : IB w I x) (e : w'.heap[I]? = w.heap[I]?) : IB w' I x := e.trans h
theorem IB.below {w w' : World} {I B : Nat} {x : Items.Itm} (h : IB w I x) (hb : Below B w w') (hI : I < B) : IB w' I x := h.blk (hb.block I hI)
theorem IB.other {w : World} {I : Nat} {x : Items.Itm} (h : IB w I x) {p : Addr} (hp : p.block ≠ I) (u : Value) : IB (w.setCell p u) I x := h.blk (Below.heap_setCell w p u I (fun e => hp e.symm))
theorem IB.new (u : World) (x : Items.Itm) : IB (u.alloc (.cells #[.string x.key, .int .i64 x.flags, .string x.data, .int .i64 x.upto, .int .i64 x.token] 85)) u.heap.size x := heap_alloc_new u _
theorem kind_far {w : World} {Y : Nat} {base : Nat} {e t : TypeId} {size : Nat} {v : Value} {n : Nat} {xs : List Value} {cs : Array Value} (h : w.ownsRow base e size v n xs) (hc : w.heap[Y]? = some (.cells cs t (0, 0))) (he : e ≠ t) : v.ownBlock ≠ some Y := by
  intro hv
  rcases h.2 with ⟨rfl, _⟩ | ⟨q, cap, cur, rfl, _, hh, _⟩
  · simp [Value.ownBlock] at hv
  · have e1 : q = Y := by simpa [Value.ownBlock] using hv
    rw [e1, hc] at hh
    simp only [Option.some.injEq, Obj.cells.injEq] at hh
    exact he hh.2.1.symm
theorem CO.sbox {w : World} {B Y : Nat} {c : Cl} {lim nx : Int} {v : Value} (h : CO w B c) (hc : SB w Y lim nx v) (o : Nat) (u : Value) : CO (w.setCell ⟨Y, o, none⟩ u) B c :=
  ⟨ownsRow_setCell_other h.n (a := ⟨Y, o, none⟩) (kind_far h.n hc (by decide)) u, ownsRow_setCell_other h.m (a := ⟨Y, o, none⟩) (kind_far h.m hc (by decide)) u,
    ⟨h.p.len, ownsRow_setCell_other h.p.row (a := ⟨Y, o, none⟩) (kind_far h.p.row hc (by decide)) u, fun x hx => ownsRow_setCell_other (h.p.its x hx) (a := ⟨Y, o, none⟩) (kind_far (h.p.its x hx) hc (by decide)) u, h.p.far⟩, h.fn, h.fm⟩

theorem pflat_put3 : ∀ (M : List Pls.Pl) (k : Nat) (y : Pls.Pl), k < M.length → y.name = (M.getD k Pls.zeroL).name → (((pflat M).set (k * 4 + 1) (.int .i64 y.lim)).set (k * 4 + 2) (.int .i64 y.nx)).set (k * 4 + 3) (.slice y.a y.its.length y.cap) = pflat (M.set k y)
  | [], k, y, h, _ => by simp at h
  | x :: m, k, y, h, hn => by
    have e : pflat (x :: m) = pcells x ++ pflat m := by simp [pflat]
    have el : (pcells x).length = 4 := rfl
    rw [e]
    cases k with
    | zero =>
      have hn' : y.name = x.name := hn
      simp [pflat, pcells, hn']
    | succ k =>
      rw [List.set_append_right _ _ (by omega), List.set_append_right _ _ (by omega), List.set_append_right _ _ (by omega), el, show (k + 1) * 4 + 1 - 4 = k * 4 + 1 by omega, show (k + 1) * 4 + 2 - 4 = k * 4 + 2 by omega, show (k + 1) * 4 + 3 - 4 = k * 4 + 3 by omega, pflat_put3 m k y (by simpa using h) (by simpa using hn)]
      simp [pflat]
/-- A store put into a place of a row. -/
def put3 (w : World) (g k : Nat) (y : Pls.Pl) : World := ((w.setCell ⟨g, k * 4 + 1, none⟩ (.int .i64 y.lim)).setCell ⟨g, k * 4 + 2, none⟩ (.int .i64 y.nx)).setCell ⟨g, k * 4 + 3, none⟩ (.slice y.a y.its.length y.cap)
theorem own_put3 {w : World} {base : Nat} {e : TypeId} {size : Nat} {v : Value} {n : Nat} {xs : List Value} (h : w.ownsRow base e size v n xs) {g : Nat} (hg : v.ownBlock ≠ some g) (k : Nat) (y : Pls.Pl) : (put3 w g k y).ownsRow base e size v n xs :=
  ownsRow_setCell_other (ownsRow_setCell_other (ownsRow_setCell_other h (a := ⟨g, _, none⟩) hg _) (a := ⟨g, _, none⟩) hg _) (a := ⟨g, _, none⟩) hg _
theorem PO.put3 {w : World} {B g n cap : Nat} {M : List Pls.Pl} (h : PO w B (some ⟨g, 0, none⟩) n cap M) (k : Nat) (hk : k < M.length) (y : Pls.Pl) (hn : y.name = (M.getD k Pls.zeroL).name) (hy : w.ownsRow B 85 5 (.slice y.a y.its.length y.cap) y.its.length (Own.flat y.its)) (hyf : (Value.slice y.a y.its.length y.cap).ownBlock ≠ some g) : PO (Clus.put3 w g k y) B (some ⟨g, 0, none⟩) n cap (M.set k y) := by
  refine ⟨by rw [List.length_set]; exact h.len, ?_, fun z hz => ?_, fun z hz q hq => ?_⟩
  · have := (((h.row.stored (k * 4 + 1) (.int .i64 y.lim)).1.stored (k * 4 + 2) (.int .i64 y.nx)).1.stored (k * 4 + 3) (.slice y.a y.its.length y.cap)).1
    rw [pflat_put3 M k y hk hn] at this
    exact this
  · rcases List.mem_or_eq_of_mem_set hz with hz | rfl
    · exact own_put3 (h.its z hz) (fun e => h.far z hz g e rfl) k y
    · exact own_put3 hy hyf k z
  · rcases List.mem_or_eq_of_mem_set hz with hz | rfl
    · exact h.far z hz q hq
    · intro e
      have e' : g = q := by simpa [Value.ownBlock] using e
      exact hyf (by rw [hq, e'])
theorem CO.put3 {w : World} {B : Nat} {c : Cl} {g : Nat} (h : CO w B c) (hg : c.pa = some ⟨g, 0, none⟩) (k : Nat) (hk : k < c.ps.length) (y : Pls.Pl) (hn : y.name = (c.ps.getD k Pls.zeroL).name) (hy : w.ownsRow B 85 5 (.slice y.a y.its.length y.cap) y.its.length (Own.flat y.its)) (hyf : (Value.slice y.a y.its.length y.cap).ownBlock ≠ some g) : CO (Clus.put3 w g k y) B (withP c k y) := by
  have hp := h.p
  have h1 := h.fn
  have h2 := h.fm
  rw [hg] at hp h1 h2
  have e : (Value.slice (some ⟨g, 0, none⟩) c.ps.length c.pc).ownBlock = some g := rfl
  have el : (c.ps.set k y).length = c.ps.length := List.length_set
  refine ⟨own_put3 h.n (fun h' => h1 g h' e) k y, own_put3 h.m (fun h' => h2 g h' e) k y, ?_, ?_, ?_⟩
  · show PO _ B c.pa (c.ps.set k y).length c.pc _
    rw [el, hg]
    exact hp.put3 k hk y hn hy hyf
  · show ∀ q, (Value.slice c.na c.ns.length c.nc).ownBlock = some q → (Value.slice c.pa (c.ps.set k y).length c.pc).ownBlock ≠ some q
    rw [el, hg]; exact h1
  · show ∀ q, (Value.slice c.ca c.cs.length c.cc).ownBlock = some q → (Value.slice c.pa (c.ps.set k y).length c.pc).ownBlock ≠ some q
    rw [el, hg]; exact h2

/-- A cluster that a call works on: its rows, the call's two boxes, and what lies outside. -/
structure MS (w : World) (B g : Nat) (c : Cl) (u : World) : Prop where
  co : CO u B c
  x : CB u w.heap.size c.now c.nx c.lim c.lost (.slice c.na c.ns.length c.nc) (.slice c.ca c.cs.length c.cc) (.slice c.pa c.ps.length c.pc)
  y : CB u (w.heap.size + 1) 0 0 0 0 (.slice none 0 0) (.slice none 0 0) (.slice none 0 0)
  b : Below B w u
  k : Kp g w u
  z : w.heap.size + 2 ≤ u.heap.size
  pa : c.pa = some ⟨g, 0, none⟩
  gl : g < w.heap.size
  bl : B ≤ w.heap.size
theorem MS.below {w u u' : World} {B g : Nat} {c : Cl} (h : MS w B g c u) (hb : Below u.heap.size u u') : MS w B g c u' := by
  have hz := h.z
  have hs := hb.size
  exact ⟨h.co.below hb (Nat.le_refl _), h.x.below hb (by omega), h.y.below hb (by omega), h.b.trans (hb.mono (by have := h.bl; omega)), h.k.below (by omega) hb, by omega, h.pa, h.gl, h.bl⟩
theorem MS.sto {w u : World} {B g S : Nat} {c : Cl} {lim nx : Int} {v : Value} (h : MS w B g c u) (hs : SB u S lim nx v) (hS : w.heap.size + 2 ≤ S) (o : Nat) (t : Value) : MS w B g c (u.setCell ⟨S, o, none⟩ t) := by
  have hz := h.z
  have hl := h.bl
  exact ⟨h.co.sbox hs o t, h.x.other (p := ⟨S, o, none⟩) (by show S ≠ w.heap.size; omega) t, h.y.other (p := ⟨S, o, none⟩) (by show S ≠ w.heap.size + 1; omega) t, h.b.setCell (p := ⟨S, o, none⟩) (by show B ≤ S; omega) t, h.k.new (by omega) o t, by rw [show (u.setCell ⟨S, o, none⟩ t).heap.size = u.heap.size by simp]; exact hz, h.pa, h.gl, hl⟩
theorem MS.put {w u : World} {B g : Nat} {c : Cl} (h : MS w B g c u) (k : Nat) (hk : k < c.ps.length) (y : Pls.Pl) (hn : y.name = (c.ps.getD k Pls.zeroL).name) (hy : u.ownsRow B 85 5 (.slice y.a y.its.length y.cap) y.its.length (Own.flat y.its)) : MS w B g (withP c k y) (put3 u g k y) := by
  have hz := h.z
  have hl := h.bl
  have hg := h.gl
  have hBg : B ≤ g := by
    have := h.co.p.row
    rw [h.pa] at this
    exact (this.lt g rfl).1
  have hyf : (Value.slice y.a y.its.length y.cap).ownBlock ≠ some g := by
    have hrow := h.co.p.row
    rw [h.pa] at hrow
    rcases hrow.2 with ⟨hv, _⟩ | ⟨q, cap, cur, hv, _, hh, _⟩
    · simp at hv
    · simp only [Value.slice.injEq, Option.some.injEq, Addr.mk.injEq, and_true] at hv
      rw [← hv.1] at hh
      exact kind_far hy hh (by decide)
  have el : (c.ps.set k y).length = c.ps.length := List.length_set
  have hx := h.x
  refine ⟨h.co.put3 h.pa k hk y hn hy hyf, ?_, ?_, ?_, ?_, ?_, h.pa, hg, hl⟩
  · show CB _ _ c.now c.nx c.lim c.lost (.slice c.na c.ns.length c.nc) (.slice c.ca c.cs.length c.cc) (.slice c.pa (c.ps.set k y).length c.pc)
    rw [el]
    exact ((hx.other (p := ⟨g, k * 4 + 1, none⟩) (by show g ≠ w.heap.size; omega) _).other (p := ⟨g, k * 4 + 2, none⟩) (by show g ≠ w.heap.size; omega) _).other (p := ⟨g, k * 4 + 3, none⟩) (by show g ≠ w.heap.size; omega) _
  · exact ((h.y.other (p := ⟨g, k * 4 + 1, none⟩) (by show g ≠ w.heap.size + 1; omega) _).other (p := ⟨g, k * 4 + 2, none⟩) (by show g ≠ w.heap.size + 1; omega) _).other (p := ⟨g, k * 4 + 3, none⟩) (by show g ≠ w.heap.size + 1; omega) _
  · exact ((h.b.setCell (p := ⟨g, k * 4 + 1, none⟩) hBg _).setCell (p := ⟨g, k * 4 + 2, none⟩) hBg _).setCell (p := ⟨g, k * 4 + 3, none⟩) hBg _
  · exact ((h.k.set _ _).set _ _).set _ _
  · unfold put3; simp; exact hz
/-- What lies at a place. -/
theorem MS.pl {w u : World} {B g : Nat} {c : Cl} (h : MS w B g c u) (i : Nat) (hi : i < c.ps.length) : u.cell? ⟨g, i * 4 + 1, none⟩ = some (.int .i64 (c.ps.getD i Pls.zeroL).lim) ∧ u.cell? ⟨g, i * 4 + 2, none⟩ = some (.int .i64 (c.ps.getD i Pls.zeroL).nx) ∧ u.cell? ⟨g, i * 4 + 3, none⟩ = some (.slice (c.ps.getD i Pls.zeroL).a (c.ps.getD i Pls.zeroL).its.length (c.ps.getD i Pls.zeroL).cap) ∧ (∀ o, u.frozen? ⟨g, o, none⟩ = false) ∧ g < u.heap.size := by
  have hp := h.co.p
  rw [h.pa] at hp
  obtain ⟨d0, d1, d2, d3⟩ := hp.pl i hi
  rw [Nat.zero_add] at d1 d2 d3
  exact ⟨d1, d2, d3, fun o => hp.row.frozenAt o, by have := h.gl; have := h.z; omega⟩
theorem SB.put3 {w : World} {S g k : Nat} {lim nx : Int} {v : Value} {y : Pls.Pl} (h : SB w S lim nx v) (hne : g ≠ S) : SB (put3 w g k y) S lim nx v :=
  ((h.other (p := ⟨g, k * 4 + 1, none⟩) hne _).other (p := ⟨g, k * 4 + 2, none⟩) hne _).other (p := ⟨g, k * 4 + 3, none⟩) hne _
theorem IB.put3 {w : World} {I g k : Nat} {x : Items.Itm} {y : Pls.Pl} (h : IB w I x) (hne : g ≠ I) : IB (put3 w g k y) I x :=
  ((h.other (p := ⟨g, k * 4 + 1, none⟩) hne _).other (p := ⟨g, k * 4 + 2, none⟩) hne _).other (p := ⟨g, k * 4 + 3, none⟩) hne _
end Clus
end Go.Proofs.YtkodgbalhnbhcaaGreatDoor
