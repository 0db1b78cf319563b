/-
  The end of a move, plainly: what the model tells and what the program tells is one. No Go function is spoken of here.
-/
import Derived.Test.YtkodgbalhnbhcaaGreatDoorZ25
import Derived.Test.YtkodgbalhnbhcaaGreatDoorZ22
import Derived.Test.YtkodgbalhnbhcaaGreatDoorZ9
import Derived.Test.YtkodgbalhnbhcaaGreatDoorRows
import Derived.Laws.AppendOwn
import Derived.Test.YtkodgbalhnbhcaaGreatDoorZ13
import Derived.Test.YtkodgbalhnbhcaaGreatDoorZ18
import Derived.Test.YtkodgbalhnbhcaaGreatDoorZ1
import Derived.Lib.AppendZerosOnto
import Derived.Lib.AppendZeros
namespace Go.Proofs.YtkodgbalhnbhcaaGreatDoor
namespace Fleet
open Go.RowKit Base Store Items OwnR Keep Clus Marks Plc
set_option linter.unusedVariables false

theorem empty_list : ByteArray.empty.toList = [] := by simp [ByteArray.toList, ByteArray.toList.loop]
theorem pl_at {N : List Pls.Pl} {z : ByteArray} {j : Nat} (h : plN N z = some j) : j < N.length ∧ (N.getD j Pls.zeroL).name = z := by
  rw [plN_core] at h
  obtain ⟨h1, h2⟩ := at_some h
  have h1' : j < N.length := by simpa using h1
  refine ⟨h1', ?_⟩
  rw [← h2]
  simp [List.getD_eq_getElem?_getD, List.getElem?_map, List.getElem?_eq_getElem h1']
  rfl
theorem pl_inj {N : List Pls.Pl} (hr : Rising ((N.map (·.name)).map toL)) {i j : Nat} (hi : i < N.length) (hj : j < N.length) (h : (N.getD i Pls.zeroL).name = (N.getD j Pls.zeroL).name) : i = j := by
  have e : ∀ k, k < N.length → (N.map (·.name)).getD k ByteArray.empty = (N.getD k Pls.zeroL).name := fun k hk => by simp [List.getD_eq_getElem?_getD, List.getElem?_map, List.getElem?_eq_getElem hk]
  have h1 := kOf_is hr (x := (N.getD i Pls.zeroL).name) (by simpa using hi) (e i hi)
  have h2 := kOf_is hr (x := (N.getD i Pls.zeroL).name) (by simpa using hj) ((e j hj).trans h.symm)
  exact h1.symm.trans h2
theorem atI_mem {its : List Itm} {q : Nat} (hq : q < its.length) : 0 ≤ atI its (its.getD q zero).key := by
  unfold atI
  cases h : atN its (its.getD q zero).key with
  | some k => simp
  | none =>
    unfold atN at h
    have := List.findIdx?_eq_none_iff.1 h (its.getD q zero) (its_mem hq)
    simp [hasKey] at this
/-- An item is to move just where it does not belong on the ring that is gone to. -/
theorem go_iff {ns cs : List Nodes.D} {N : List Pls.Pl} {i q j1 j2 : Nat} (hc : cs.length ≠ 0) (hr : Rising ((N.map (·.name)).map toL)) (hi : i < N.length) (hq : q < (N.getD i Pls.zeroL).its.length)
    (h1 : plN N (own ns ((N.getD i Pls.zeroL).its.getD q zero).key) = some j1) (h2 : plN N (own cs ((N.getD i Pls.zeroL).its.getD q zero).key) = some j2)
    (ho : own ns ((N.getD i Pls.zeroL).its.getD q zero).key = (N.getD i Pls.zeroL).name ∨ own cs ((N.getD i Pls.zeroL).its.getD q zero).key = (N.getD i Pls.zeroL).name) :
    goB ns cs N i q = decide (own cs ((N.getD i Pls.zeroL).its.getD q zero).key ≠ (N.getD i Pls.zeroL).name) := by
  have ha := atI_mem hq
  unfold goB
  generalize hx : (N.getD i Pls.zeroL).its.getD q zero = x at *
  have e1 : k1 ns N x.key = j1 := by unfold k1; rw [h1]; rfl
  have e2 : k1 cs N x.key = j2 := by unfold k1; rw [h2]; rfl
  rw [e1, e2]
  obtain ⟨l1, n1⟩ := pl_at h1
  obtain ⟨l2, n2⟩ := pl_at h2
  by_cases hn : own cs x.key = (N.getD i Pls.zeroL).name
  · have e : j2 = i := pl_inj hr l2 hi (n2.trans hn)
    rw [decide_eq_false (by simpa using hn)]
    by_cases hj : j1 = j2
    · rw [mv_same hc hj]; rfl
    · rw [mv_far hc hj]
      have : (((N.getD (((j1 : Nat) : Int).toNat) Pls.zeroL).name.toList == (N.getD i Pls.zeroL).name.toList)) = false := by
        rw [name_eq, decide_eq_false_iff_not, Int.toNat_natCast]
        intro h
        exact hj ((pl_inj hr l1 hi h).trans e.symm)
      rw [this, Bool.and_false]
  · have hs := ho.resolve_right hn
    have e : j1 = i := pl_inj hr l1 hi (n1.trans hs)
    have hj : j1 ≠ j2 := fun h => hn (by rw [← n2, ← h, e])
    rw [mv_far hc hj, show decide (own cs x.key ≠ (N.getD i Pls.zeroL).name) = true from decide_eq_true hn]
    subst e
    rw [decide_eq_true ha, Int.toNat_natCast]
    simp
def movedB (C : CC) : Bool := C.ps.all (fun p => p.its.all (fun x => oldB x C.now || decide (own C.cs x.key = p.name)))
/-- What EndMove tells. -/
def emR (C : CC) : CC × Bool := if (gcB C && decide (C.cs.length ≠ 0) && movedB C) = true then (⟨C.now, C.nx, C.lim, C.lost, C.cs, [], (C.ps.map (dropC C.now)).filter (fun x => hasN C.cs x.name)⟩, true) else (noCC, false)
theorem em_bad {C : CC} (h : gcB C = false) : emR C = (noCC, false) := by unfold emR; simp [h]
theorem em_still {C : CC} (h : C.cs.length = 0) : emR C = (noCC, false) := by unfold emR; simp [h]
theorem em_left {C : CC} (h : movedB C = false) : emR C = (noCC, false) := by unfold emR; simp [h]
theorem em_yes {C : CC} (h1 : gcB C = true) (h2 : C.cs.length ≠ 0) (h3 : movedB C = true) : emR C = (⟨C.now, C.nx, C.lim, C.lost, C.cs, [], (C.ps.map (dropC C.now)).filter (fun x => hasN C.cs x.name)⟩, true) := by unfold emR; simp [h1, h2, h3]
theorem gc_home {C : CC} (h : gcB C = true) : ∀ p ∈ C.ps, ∀ x ∈ p.its, own C.ns x.key = p.name ∨ own C.cs x.key = p.name := by
  rw [gc_eq, Bool.and_eq_true] at h
  have hk := h.2
  unfold Clus.keepB at hk
  simp only [Bool.and_eq_true] at hk
  intro p hp x hx
  have h1 := List.all_eq_true.1 (List.all_eq_true.1 hk.1.1 p hp) x hx
  unfold homeB at h1
  simp only [Bool.or_eq_true, Bool.and_eq_true, decide_eq_true_eq] at h1
  rcases h1 with h1 | h1
  · exact .inl h1
  · exact .inr h1.2
theorem at_drop (now : Int) (ps : List Pls.Core) (z : ByteArray) : atC (ps.map (dropC now)) z = atC ps z := by
  unfold atC
  rw [List.findIdx?_map]
  rfl
theorem drop_names (now : Int) (ps : List Pls.Core) : (ps.map (dropC now)).map (·.name) = ps.map (·.name) := by rw [List.map_map]; rfl
theorem gc_key {C : CC} {L : List Pls.Pl} (hL : C.ps = L.map Pls.core) (h : gcB C = true) : ∀ p ∈ C.ps, ∀ x ∈ p.its, 1 ≤ x.key.size ∧ x.key.size ≤ 30 := by
  intro p hp x hx
  rw [hL] at hp
  obtain ⟨y, hy, rfl⟩ := List.mem_map.1 hp
  obtain ⟨k, hk, rfl⟩ := List.getElem_of_mem hy
  have h1 := (gc_stores hL h).2 k hk
  rw [List.getD_eq_getElem?_getD, List.getElem?_eq_getElem hk] at h1
  obtain ⟨q, hq, rfl⟩ := List.getElem_of_mem hx
  have h2 := (gs_item h1.1).2 q hq
  have e : L[k].its.getD q zero = L[k].its[q] := by
    have hq' : q < L[k].its.length := hq
    rw [List.getD_eq_getElem?_getD, List.getElem?_eq_getElem hq']; rfl
  change itemB (L[k].its.getD q zero) = true at h2
  rw [e] at h2
  unfold itemB at h2
  simp only [Bool.and_eq_true] at h2
  have h3 := h2.1.1.1.1
  unfold GoodKey.gk at h3
  simp only [Bool.and_eq_true] at h3
  have h4 := h3.1
  simp only [GoodKey.inB, Bool.and_eq_true, decide_eq_true_eq] at h4
  have e2 : L[k].its[q].key.data.toList.length = L[k].its[q].key.size := rfl
  rw [e2] at h4
  show 1 ≤ L[k].its[q].key.size ∧ L[k].its[q].key.size ≤ 30
  omega
theorem core_name {N : List Pls.Pl} {ps : List Pls.Core} (h : N.map Pls.core = ps) : N.map (·.name) = ps.map (·.name) := by rw [← h, List.map_map]; rfl
theorem core_get {N : List Pls.Pl} {ps : List Pls.Core} (h : N.map Pls.core = ps) {i : Nat} (hi : i < N.length) : Pls.core (N.getD i Pls.zeroL) ∈ ps := by
  rw [← h]; exact List.mem_map_of_mem (Pls.getD_mem hi)
/-- What the model finds first, and whether all has moved. -/
theorem first_moved {C : CC} {L N : List Pls.Pl} {R : ByteArray} (hL : C.ps = L.map Pls.core) (hg : gcB C = true) (hc : C.cs.length ≠ 0) (hN : N.map Pls.core = C.ps.map (dropC C.now)) (hF : FirstIs C.ns C.cs N R) : (R.toList == []) = movedB C := by
  have hcs : C.cs ≠ [] := fun e => hc (by rw [e]; rfl)
  have hr : Rising ((N.map (·.name)).map toL) := by rw [core_name hN, drop_names]; exact gc_rising hg
  have hlen : N.length = C.ps.length := by have := congrArg List.length hN; simpa using this
  have hsub : ∀ i, i < N.length → ∃ p ∈ C.ps, Pls.core (N.getD i Pls.zeroL) = dropC C.now p := fun i hi => by
    obtain ⟨p, hp, e⟩ := List.mem_map.1 (core_get hN hi)
    exact ⟨p, hp, e.symm⟩
  have hgo : ∀ i q, i < N.length → q < (N.getD i Pls.zeroL).its.length → goB C.ns C.cs N i q = decide (own C.cs ((N.getD i Pls.zeroL).its.getD q zero).key ≠ (N.getD i Pls.zeroL).name) := by
    intro i q hi hq
    obtain ⟨p, hp, e⟩ := hsub i hi
    have en : (N.getD i Pls.zeroL).name = p.name := congrArg Pls.Core.name e
    have ei : (N.getD i Pls.zeroL).its = Store.keepB p.its C.now := congrArg Pls.Core.its e
    have hm : (N.getD i Pls.zeroL).its.getD q zero ∈ p.its := by
      have := its_mem hq
      rw [ei] at this ⊢
      exact (List.mem_filter.1 this).1
    obtain ⟨⟨j1, o1⟩, o2⟩ := gc_owner hg ((N.getD i Pls.zeroL).its.getD q zero).key
    obtain ⟨j2, o2⟩ := o2 hcs
    exact go_iff hc hr hi hq (by rw [plN_core, hN, at_drop]; exact o1) (by rw [plN_core, hN, at_drop]; exact o2) (by rw [en]; exact gc_home hg p hp _ hm)
  rcases hF with ⟨i, q, hi, hq, -, hgt, rfl⟩ | ⟨hno, rfl⟩
  · obtain ⟨p, hp, e⟩ := hsub i hi
    have en : (N.getD i Pls.zeroL).name = p.name := congrArg Pls.Core.name e
    have ei : (N.getD i Pls.zeroL).its = Store.keepB p.its C.now := congrArg Pls.Core.its e
    have hm := its_mem hq
    rw [hgo i q hi hq, decide_eq_true_eq, en] at hgt
    have hm2 : (N.getD i Pls.zeroL).its.getD q zero ∈ Store.keepB p.its C.now := by rw [ei] at hm ⊢; exact hm
    obtain ⟨hm3, hm4⟩ := List.mem_filter.1 hm2
    generalize (N.getD i Pls.zeroL).its.getD q zero = x at *
    have h1 := (gc_key hL hg p hp x hm3).1
    have e1 : (x.key.toList == []) = false := by
      have h2 := name_eq x.key ByteArray.empty
      rw [decide_eq_false (fun h => by rw [h] at h1; simp at h1), empty_list] at h2
      exact h2
    rw [e1, eq_comm]
    unfold movedB
    rw [List.all_eq_false]
    refine ⟨p, hp, ?_⟩
    rw [Bool.not_eq_true, List.all_eq_false]
    refine ⟨x, hm3, ?_⟩
    simp only [Bool.not_eq_eq_eq_not, Bool.not_true] at hm4
    simp [hm4, hgt]
  · rw [empty_list, show (([] : List UInt8) == []) = true from rfl, eq_comm]
    unfold movedB
    rw [List.all_eq_true]
    intro p hp
    rw [List.all_eq_true]
    intro x hx
    cases ho : oldB x C.now with
    | true => rfl
    | false =>
      obtain ⟨i, hi, rfl⟩ := List.getElem_of_mem hp
      have hi' : i < N.length := by omega
      have e : Pls.core (N.getD i Pls.zeroL) = dropC C.now C.ps[i] := by
        have h1 := congrArg (fun l => l[i]?) hN
        simp only [List.getElem?_map, List.getElem?_eq_getElem hi, List.getElem?_eq_getElem hi', Option.map_some, Option.some.injEq] at h1
        rw [← h1, List.getD_eq_getElem?_getD, List.getElem?_eq_getElem hi']; rfl
      have en : (N.getD i Pls.zeroL).name = C.ps[i].name := congrArg Pls.Core.name e
      have ei : (N.getD i Pls.zeroL).its = Store.keepB C.ps[i].its C.now := congrArg Pls.Core.its e
      have hm : x ∈ (N.getD i Pls.zeroL).its := by rw [ei]; exact List.mem_filter.2 ⟨hx, by simp [ho]⟩
      obtain ⟨q, hq, hqe⟩ := List.getElem_of_mem hm
      have hqe2 : (N.getD i Pls.zeroL).its.getD q zero = x := by rw [List.getD_eq_getElem?_getD, List.getElem?_eq_getElem hq]; exact hqe
      have h2 := hno.1 i hi' q hq
      rw [hgo i q hi' hq, decide_eq_false_iff_not, hqe2, en] at h2
      simpa using h2
/-- What the model tells is emR. -/
theorem em_fun {C P : CC} {L : List Pls.Pl} {ok : Bool} (hL : C.ps = L.map Pls.core) (h : EmIs C P ok) : (P, ok) = emR C := by
  rcases h with ⟨h, rfl, rfl⟩ | ⟨hg, hc, N, R, hN, hF, h⟩
  · rcases h with h | h
    · exact (em_bad h).symm
    · exact (em_still h).symm
  · have e := first_moved hL hg hc hN hF
    rcases h with ⟨h, rfl, rfl⟩ | ⟨h, rfl, rfl⟩
    · exact (em_left (by rw [← e]; exact h)).symm
    · rw [em_yes hg hc (by rw [← e]; exact h), ← hN, List.filter_map]
      rfl
end Fleet
end Go.Proofs.YtkodgbalhnbhcaaGreatDoor
/-
  Rows of numbers, in memory and by append. No Go function is spoken of here.
-/
namespace Go.Proofs.YtkodgbalhnbhcaaGreatDoor
namespace Ints
open Go.RowKit Base OwnR
set_option linter.unusedVariables false
def ncell (l : List Int) (i : Nat) : Value := .int .i64 (l.getD i 0)


/-- A slice of numbers that lies in memory. -/
def NAt (w : World) (a : Option Addr) (l : List Int) : Prop := l ≠ [] → ∃ b off, a = some ⟨b, off, none⟩ ∧ b < w.heap.size ∧ ∀ i, i < l.length → w.cell? ⟨b, off + i, none⟩ = some (.int .i64 (l.getD i 0))
theorem info_ex : ∃ i, Tryz.prog.info? 3 = some i ∧ i.zero = some (.int .i64 0) ∧ i.size = 1 ∧ i.bytes = 8 := by
  have h : (Tryz.prog.info? 3).map (fun i => (i.zero, i.size, i.bytes)) = some (some (.int .i64 0), 1, 8) := by kernel_rfl
  obtain ⟨i, hi, hz⟩ := Option.map_eq_some_iff.1 h
  simp only [Prod.mk.injEq] at hz
  exact ⟨i, hi, hz.1, hz.2.1, hz.2.2⟩
theorem info : (Tryz.prog.info? 3).map (fun i => (i.zero, i.size, i.bytes)) = some (some (.int .i64 0), 1, 8) := by kernel_rfl
def cells (l : List Int) : List Value := l.map (Value.int .i64)
theorem cells_len (l : List Int) : (cells l).length = l.length := by simp [cells]
theorem cells_get (l : List Int) (i : Nat) (hi : i < l.length) : (cells l)[i]? = some (ncell l i) := by
  simp [cells, ncell, List.getD_eq_getElem?_getD, List.getElem?_eq_getElem hi]
theorem own_snoc {w : World} {base : Nat} {v : Value} {kept kept' : List Int} {x : Int} (h : w.ownsRow base 3 1 v (kept.length + 1) (cells kept ++ [.int .i64 x])) (e : kept' = kept ++ [x]) : w.ownsRow base 3 1 v kept'.length (cells kept') := by
  rw [e, List.length_append]
  have : cells (kept ++ [x]) = cells kept ++ [.int .i64 x] := by simp [cells]
  rw [this]
  exact h
theorem news_one (x : Int) (u : Value) (hu : u ∈ [Value.int .i64 x]) : u.oneCell' = true := by
  simp at hu; rw [hu]; rfl
theorem news_cells (w : World) (x : Int) (t : TypeId) (j : Nat) (u : Value) (hj : [Value.int .i64 x][j]? = some u) :
    (w.alloc (.cells #[.int .i64 x] t)).cell? ((⟨w.heap.size, 0, none⟩ : Addr).add j) = some u := by
  rw [Go.WideShapes.add_plain, Nat.zero_add, World.cell?_alloc_new]
  show [Value.int .i64 x].toArray[j]? = some u
  simpa using hj
end Ints
end Go.Proofs.YtkodgbalhnbhcaaGreatDoor
/-
  Rows of texts by append; rows of numbers and texts that a call has made, as slices that lie. No Go function is spoken of here.
-/
namespace Go.Proofs.YtkodgbalhnbhcaaGreatDoor
namespace StrN
open Go.RowKit Base OwnR Marks
set_option linter.unusedVariables false

theorem info_ex : ∃ i, Tryz.prog.info? 9 = some i ∧ i.zero = some (.string ByteArray.empty) ∧ i.size = 1 ∧ i.bytes = 16 := by
  have h : (Tryz.prog.info? 9).map (fun i => (i.zero, i.size, i.bytes)) = some (some (.string ByteArray.empty), 1, 16) := by kernel_rfl
  obtain ⟨i, hi, hz⟩ := Option.map_eq_some_iff.1 h
  simp only [Prod.mk.injEq] at hz
  exact ⟨i, hi, hz.1, hz.2.1, hz.2.2⟩
def cells (l : List ByteArray) : List Value := l.map Value.string
theorem cells_get (l : List ByteArray) (i : Nat) (hi : i < l.length) : (cells l)[i]? = some (.string (l.getD i ByteArray.empty)) := by
  simp [cells, List.getD_eq_getElem?_getD, List.getElem?_eq_getElem hi]
def OwnT (w : World) (B : Nat) (v : Value) (l : List ByteArray) : Prop := w.ownsRow B 9 1 v l.length (cells l)
theorem own_snoc {w : World} {base : Nat} {v : Value} {kept : List ByteArray} {x : ByteArray} (h : w.ownsRow base 9 1 v (kept.length + 1) (cells kept ++ [.string x])) : OwnT w base v (kept ++ [x]) := by
  unfold OwnT
  rw [List.length_append]
  have : cells (kept ++ [x]) = cells kept ++ [.string x] := by simp [cells]
  rw [this]
  exact h
theorem news_one (x : ByteArray) (u : Value) (hu : u ∈ [Value.string x]) : u.oneCell' = true := by
  simp at hu; rw [hu]; rfl
theorem news_cells (w : World) (x : ByteArray) (t : TypeId) (j : Nat) (u : Value) (hj : [Value.string x][j]? = some u) :
    (w.alloc (.cells #[.string x] t)).cell? ((⟨w.heap.size, 0, none⟩ : Addr).add j) = some u := by
  rw [Go.WideShapes.add_plain, Nat.zero_add, World.cell?_alloc_new]
  show [Value.string x].toArray[j]? = some u
  simpa using hj
/-- It stands while only an elder block turns. -/
theorem own_gb {w w' : World} {base : Nat} {e : TypeId} {size : Nat} {v : Value} {n : Nat} {xs : List Value} {c : Nat} (h : w.ownsRow base e size v n xs) (hg : w.grownBy w' (some c)) (hc : c < base) : w'.ownsRow base e size v n xs := by
  refine ⟨h.1, h.2.elim Or.inl ?_⟩
  rintro ⟨g, cap, cur, hv, hgB, hh, rest⟩
  exact Or.inr ⟨g, cap, cur, hv, hgB, by rw [hg.block g (Array.getElem?_eq_some_iff.1 hh).1 (fun e => by simp at e; omega)]; exact hh, rest⟩
theorem gb_own {w0 w w' : World} {c : Nat} {r : Option Nat} (h : w0.grownBy w (some c)) (hg : w.grownBy w' r) (hr : ∀ k, r = some k → w0.heap.size ≤ k) : w0.grownBy w' (some c) :=
  ⟨hg.os.trans h.os, hg.tape.trans h.tape, hg.output.trans h.output, Nat.le_trans h.size hg.size, fun i hi hne => (hg.block i (Nat.lt_of_lt_of_le hi h.size) (fun e => by have := hr i e.symm; omega)).trans (h.block i hi hne)⟩
theorem own_strs {w : World} {B : Nat} {a : Option Addr} {c : Nat} {l : List ByteArray} (h : OwnT w B (.slice a l.length c) l) : StrsAt w a l ∧ ∀ b off, a = some ⟨b, off, none⟩ → b < w.heap.size := by
  rcases h.2 with ⟨hv, h0⟩ | ⟨g, cap', cur, hv, hg, hh, hn, _, hsz, ht⟩
  · simp only [Value.slice.injEq] at hv
    exact ⟨fun hne => absurd (List.length_eq_zero_iff.1 h0) hne, fun b off e => by rw [hv.1] at e; simp at e⟩
  · simp only [Value.slice.injEq] at hv
    have hlt : g < w.heap.size := (Array.getElem?_eq_some_iff.1 hh).1
    refine ⟨fun _ => ⟨g, 0, hv.1, hlt, fun i hi => ?_⟩, fun b off e => by rw [hv.1] at e; simp at e; omega⟩
    rw [Nat.zero_add]
    have e : cur[i]? = (cells l)[i]? := by rw [← ht, List.getElem?_take_of_lt (by omega)]; simp
    simp only [World.cell?, hh, e, cells_get l i hi]
    simp
theorem own_nums {w : World} {B : Nat} {a : Option Addr} {c : Nat} {l : List Int} (h : w.ownsRow B 3 1 (.slice a l.length c) l.length (Ints.cells l)) : Ints.NAt w a l ∧ ∀ b off, a = some ⟨b, off, none⟩ → b < w.heap.size := by
  rcases h.2 with ⟨hv, h0⟩ | ⟨g, cap', cur, hv, hg, hh, hn, _, hsz, ht⟩
  · simp only [Value.slice.injEq] at hv
    exact ⟨fun hne => absurd (List.length_eq_zero_iff.1 h0) hne, fun b off e => by rw [hv.1] at e; simp at e⟩
  · simp only [Value.slice.injEq] at hv
    have hlt : g < w.heap.size := (Array.getElem?_eq_some_iff.1 hh).1
    refine ⟨fun _ => ⟨g, 0, hv.1, hlt, fun i hi => ?_⟩, fun b off e => by rw [hv.1] at e; simp at e; omega⟩
    rw [Nat.zero_add]
    have e : cur[i]? = (Ints.cells l)[i]? := by rw [← ht, List.getElem?_take_of_lt (by omega)]; simp
    simp only [World.cell?, hh, e, Ints.cells_get l i hi]
    simp [Ints.ncell]
end StrN
end Go.Proofs.YtkodgbalhnbhcaaGreatDoor
/-
  slices.Grow and slices.Concat of nodes: two slices put together.
-/
namespace Go.Proofs.YtkodgbalhnbhcaaGreatDoor
namespace Clus
open Go.RowKit Base Marks Plc
set_option linter.unusedVariables false

theorem info_node : ∃ i, Tryz.prog.info? 76 = some i ∧ i.zero = some (.agg #[.string ByteArray.empty, .int .i64 0]) ∧ i.size = 2 ∧ i.bytes = 24 := by
  have h : (Tryz.prog.info? 76).map (fun i => (i.zero, i.size, i.bytes)) = some (some (.agg #[.string ByteArray.empty, .int .i64 0]), 2, 24) := by kernel_rfl
  obtain ⟨i, hi, hz⟩ := Option.map_eq_some_iff.1 h
  simp only [Prod.mk.injEq] at hz
  exact ⟨i, hi, hz.1, hz.2.1, hz.2.2⟩

set_option maxRecDepth 10000 in
set_option maxHeartbeats 1000000 in
theorem ngrow_any (n : Nat) (h0 : 0 < n) (hn : n ≤ 60) (w : World) :
    Calls Tryz.prog 159 #[.slice none 0 0, .int .i64 (n : Int)] w fun e w' => ∃ v, e = .returned v ∧ w'.ownsRow w.heap.size 76 2 v 0 [] ∧ Below w.heap.size w w' := by
  obtain ⟨i0, hi, hz0, hz1, hz2⟩ := info_node
  have hrz : ∀ ty, (Builtin.append_ #[27, 3] ty #[.slice none 0 0, .int .i64 (n : Int)]).run Tryz.prog w =
      .ok (.slice (some ⟨w.heap.size, 0, none⟩) n (grownCap w n 0 76)) (w.drew.alloc (.cells (Builtin.zeroCells #[.string ByteArray.empty, .int .i64 0] n ++ Builtin.zeroCells #[.string ByteArray.empty, .int .i64 0] (grownCap w n 0 76 - n)) 76)) := fun ty => by
    have h := Lib.run_append_grow_zeros w 27 3 ty 76 i0 _ .i64 .i64 Tryz.underlying27 Tryz.underlying3 hi hz0 none 0 0 [] (run_firstCells_none w.drew i0.size 0 0 0) n (by omega) (by rw [hz1]; decide) (by omega) (by omega) (by rw [hz2]; omega) (by rw [hz2]; exact growslice_fits (by omega) (by omega))
    simpa [Value.cells] using h
  have hGn : n ≤ grownCap w n 0 76 := grownCap_ge w _ _ _
  have hGm : grownCap w n 0 76 ≤ maxLen := grownCap_le_maxLen w n 0 76 (by unfold maxLen; omega)
  have HOWN : Hid (((w.drew.alloc (.cells (Builtin.zeroCells #[.string ByteArray.empty, .int .i64 0] n ++ Builtin.zeroCells #[.string ByteArray.empty, .int .i64 0] (grownCap w n 0 76 - n)) 76))).ownsRow w.heap.size 76 2 (.slice (some ⟨w.heap.size, 0, none⟩) 0 (grownCap w n 0 76)) 0 []) := by
    refine ⟨rfl, .inr ⟨w.heap.size, _, _, rfl, Nat.le_refl _, heap_alloc_new w.drew _, Nat.zero_le _, hGm, ?_, rfl⟩⟩
    rw [Array.size_append, size_zeroCells, size_zeroCells]
    show n * 2 + (_ - n) * 2 = _
    omega
  have HB : Hid (Below w.heap.size w (w.drew.alloc (.cells (Builtin.zeroCells #[.string ByteArray.empty, .int .i64 0] n ++ Builtin.zeroCells #[.string ByteArray.empty, .int .i64 0] (grownCap w n 0 76 - n)) 76))) := (Below.refl _ w).drew.alloc (by simp) _
  have hG63 : grownCap w n 0 76 ≤ 9223372036854775807 := by unfold maxLen at hGm; omega
  generalize grownCap w n 0 76 = G at hrz hGn hGm HOWN HB hG63
  generalize (w.drew.alloc (.cells (Builtin.zeroCells #[.string ByteArray.empty, .int .i64 0] n ++ Builtin.zeroCells #[.string ByteArray.empty, .int .i64 0] (G - n)) 76)) = W at hrz HOWN HB
  have h1 : ¬ ((n : Int) < 0) := by omega
  have h2 : IntKind.i64.wrap (0 : Int) = 0 := rfl
  have h3 : IntKind.i64.wrap (n : Int) = (n : Int) := by rw [IntKind.wrap_i64]; omega
  have h4 : (0 : Int) < (n : Int) := by omega
  clear hi hz0 hz1 hz2
  go_enter Tryz.func159, Tryz.ntmps159
  go_wp2_with (at_builtin; refine Lib.wpList_append_run _ rfl _ _ _ _ rfl _ _ rfl rfl _ _ (hrz _) ?_)
  go_ret
  exact ⟨_, rfl, unhide HOWN, unhide HB⟩

def catN (N : Nat → List Nodes.D) (k : Nat) : List Nodes.D := (List.range k).flatMap N
theorem catN_succ (N : Nat → List Nodes.D) (k : Nat) : catN N (k + 1) = catN N k ++ N k := by
  unfold catN; rw [List.range_succ, List.flatMap_append]; simp
theorem nflat_append (a b : List Nodes.D) : nflat (a ++ b) = nflat a ++ nflat b := by simp [nflat]

set_option maxRecDepth 10000 in
set_option maxHeartbeats 2000000 in
theorem concat2 (tb : Nat) (A : Nat → Nat) (N : Nat → List Nodes.D) (w : World) (ht : ∀ i, i < 2 → w.cell? ⟨tb, i, none⟩ = some (.slice (some ⟨A i, 0, none⟩) (N i).length (N i).length)) (hr : ∀ i, i < 2 → w.rowIs (A i) 76 ((N i).length * 2) (Nodes.icell (N i))) (hl : ∀ i, i < 2 → (N i).length ≤ 8) (h0 : 0 < (N 0).length) :
    Calls Tryz.prog 133 #[.slice (some ⟨tb, 0, none⟩) 2 2] w fun e w' => ∃ v, e = .returned v ∧ w'.ownsRow w.heap.size 76 2 v (catN N 2).length (nflat (catN N 2)) ∧ Below w.heap.size w w' := by
  have htl : tb < w.heap.size := block_lt_of_cell (ht 0 (by omega))
  have HT := hide ht
  have HR := hide hr
  have HL := hide hl
  have HGR := hide ngrow_any
  obtain ⟨i0, hi, hz0, hz1, hz2⟩ := info_node
  have HI := hide hi
  have HZ0 := hide hz0
  have HZ1 := hide hz1
  have HZ2 := hide hz2
  have HPOS : Hid (0 < (catN N 2).length) := by rw [catN_succ, catN_succ]; show 0 < _; simp [catN]; omega
  clear ht hr hl hi hz0 hz1 hz2 h0
  go_enter Tryz.func133, Tryz.ntmps133
  go_wp2_with fail
  go_loopw [3, 11] (fun zv iv wr => ∃ (k z : Nat), k ≤ 2 ∧ iv = .int .i64 (k : Int) ∧ zv = .int .i64 (z : Int) ∧ z ≤ k * 8 ∧ Hid (z = (catN N k).length) ∧ Hid (Below w.heap.size w wr)) (fun _ iv _ => 2 - (intOf iv).toNat)
  case atStart => exact ⟨0, 0, Nat.zero_le _, rfl, rfl, Nat.le_refl _, hide rfl, hide (Below.refl _ _)⟩
  case round =>
    obtain ⟨k, z, hk, rfl, rfl, hzk, hz, hbw⟩ := hrel
    by_cases hlt : k < 2
    · have c0 := ((unhide hbw).cell (p := ⟨tb, k, none⟩) htl).trans (unhide HT k hlt)
      have hlk := unhide HL k hlt
      have HZ : Hid (z + (N k).length = (catN N (k + 1)).length) := hide (by rw [catN_succ, List.length_append, ← unhide hz])
      generalize (N k).length = m at c0 hlk HZ
      have hw0 : IntKind.i64.wrap ((z : Int) + (m : Int)) = ((z + m : Nat) : Int) := by rw [IntKind.wrap_i64]; omega
      have hnn : ¬ ((z + m : Nat) : Int) < 0 := by omega
      have hnn2 : ¬ (z : Int) + (m : Int) < 0 := by omega
      clear hz
      go_wp2
      go_roundw
      case rel => exact ⟨k + 1, z + m, by omega, by go_num, by first | rfl | (congr 1; omega) | go_num, by omega, HZ, hbw⟩
      case measure => simp [intOf]; omega
    · obtain rfl : k = 2 := by omega
      clear hlt
      have hzp : 0 < z := by have h1 := unhide hz; have h2 := unhide HPOS; omega
      go_wp2_with fail
      refine (unhide HGR z hzp (by omega) wr).mono ?_
      rintro e w1 ⟨v1, rfl, ho1, hb1⟩
      obtain ⟨a1, c1, rfl⟩ := OwnR.own_form ho1
      have B1 := hide ((unhide hbw).trans (hb1.mono (unhide hbw).size))
      have O1 := hide (OwnR.own_le ho1 (unhide hbw).size)
      have hzz := (unhide B1).size
      clear ho1 hb1 hbw hz hzp
      go_wp2_with fail
      go_loopw [6, 27] (fun rv iv wr => ∃ (q n : Nat) (ra : Option Addr) (rc : Nat), q ≤ 2 ∧ iv = .int .i64 (q : Int) ∧ rv = .slice ra n rc ∧ Hid (n = (catN N q).length) ∧ n ≤ q * 8 ∧ Hid (wr.ownsRow w.heap.size 76 2 (.slice ra n rc) n (nflat (catN N q))) ∧ Hid (Below w.heap.size w wr)) (fun _ iv _ => 2 - (intOf iv).toNat)
      case atStart => exact ⟨0, 0, a1, c1, Nat.zero_le _, rfl, rfl, hide rfl, Nat.le_refl _, O1, B1⟩
      case round =>
        obtain ⟨q, n, ra, rc, hq, rfl, rfl, hn, hnq, how, hbw⟩ := hrel
        by_cases hlt : q < 2
        · have c0 := ((unhide hbw).cell (p := ⟨tb, q, none⟩) htl).trans (unhide HT q hlt)
          have hlk := unhide HL q hlt
          have HROW := hide (((unhide HR q hlt).of_block ((unhide hbw).block _ (unhide HR q hlt).lt)))
          have HST := hide (catN_succ N q)
          have HCE := hide (fun j u hj => nflat_cells (off := 0) (Nodes.at_row (unhide HROW)) j u hj)
          have HLN := hide (nflat_len (N q))
          have HON := hide (fun u hu => nflat_one (l := N q) (u := u) hu)
          have hzr := (unhide hbw).size
          have HNL : Hid (∀ m, n + m = n + (N q).length → n + m = (catN N (q + 1)).length) := fun m e => by rw [unhide HST, List.length_append, ← unhide hn]; exact e
          have HNL := hide (unhide HNL (N q).length rfl)
          generalize N q = l at c0 hlk HST HCE HLN HON HNL
          generalize A q = aq at c0 HCE
          go_wp2_with (at_builtin; go_loud (refine wpList_append_own _ rfl _ _ 27 rfl w.heap.size 76 i0 _ 2 24 Tryz.underlying27 (unhide HI) (unhide HZ0) (unhide HZ1) (unhide HZ2) rfl (by decide) _ _ _ rfl (unhide how) ⟨aq, 0, none⟩ l.length l.length (nflat l) rfl (unhide HLN) (unhide HCE) (unhide HON) (by unfold maxLen; omega) (by omega) (by omega) ?_))
          intro v5 w5 h5 hg5 _
          obtain ⟨a5, c5, rfl⟩ := OwnR.own_form h5
          have HO : Hid (w5.ownsRow w.heap.size 76 2 (.slice a5 (n + l.length) c5) (n + l.length) (nflat (catN N (q + 1)))) := by rw [unhide HST, nflat_append]; exact h5
          have HB5 := hide ((unhide hbw).grown hg5 hzr (fun b e => OwnR.own_block (unhide how) b e))
          clear h5 hg5 how hn
          go_wp2
          go_roundw
          case rel => exact ⟨q + 1, n + l.length, a5, c5, by omega, by go_num, rfl, HNL, by omega, HO, HB5⟩
          case measure => simp [intOf]; omega
        · obtain rfl : q = 2 := by omega
          go_wp2
          go_ret
          exact ⟨_, rfl, by rw [← unhide hn]; exact unhide how, unhide hbw⟩
end Clus
end Go.Proofs.YtkodgbalhnbhcaaGreatDoor
