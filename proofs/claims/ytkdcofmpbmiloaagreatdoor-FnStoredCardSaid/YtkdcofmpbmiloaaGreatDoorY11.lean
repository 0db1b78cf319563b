/-
  The model's l2Write, whole: what the program's answerTo leaves, for every command that changes one item.
-/
import Derived.Test.YtkdcofmpbmiloaaGreatDoorWriteL0
import Derived.Test.YtkdcofmpbmiloaaGreatDoorWriteL1
import Derived.Test.YtkdcofmpbmiloaaGreatDoorWriteL2
import Derived.Test.YtkdcofmpbmiloaaGreatDoorWriteL3
import Derived.Test.YtkdcofmpbmiloaaGreatDoorY9
import Derived.Test.YtkdcofmpbmiloaaGreatDoorY10
import Derived.Test.YtkdcofmpbmiloaaGreatDoorWriteN3
import Derived.Test.YtkdcofmpbmiloaaGreatDoorWriteP0
import Derived.Test.YtkdcofmpbmiloaaGreatDoorWriteP1
import Derived.Test.YtkdcofmpbmiloaaGreatDoorWriteP2
import Derived.Test.YtkdcofmpbmiloaaGreatDoorWriteP3
import Derived.Test.YtkdcofmpbmiloaaGreatDoorWriteD
import Derived.Test.YtkdcofmpbmiloaaGreatDoorWriteT
import Derived.Test.YtkdcofmpbmiloaaGreatDoorWriteC0
import Derived.Test.YtkdcofmpbmiloaaGreatDoorWriteC1
import Derived.Test.YtkdcofmpbmiloaaGreatDoorWriteG0
import Derived.Test.YtkdcofmpbmiloaaGreatDoorWriteG1
import Derived.Test.YtkdcofmpbmiloaaGreatDoorWriteG2
import Derived.Test.YtkdcofmpbmiloaaGreatDoorWriteG3
import Derived.Test.YtkdcofmpbmiloaaGreatDoorWriteK0
import Derived.Test.YtkdcofmpbmiloaaGreatDoorWriteK1
import Derived.Test.YtkdcofmpbmiloaaGreatDoorWriteK2
import Derived.Test.YtkdcofmpbmiloaaGreatDoorWriteK3
import Derived.Test.YtkdcofmpbmiloaaGreatDoorWriteK4
import Derived.Test.YtkdcofmpbmiloaaGreatDoorWriteK5
import Derived.Test.YtkdcofmpbmiloaaGreatDoorY7
namespace Go.Proofs.YtkdcofmpbmiloaaGreatDoor
namespace Rw
open Go.RowKit Base GoodKey Items Store Own
set_option linter.unusedVariables false

section
variable {lim nx : Int} {its : List Itm} {now : Int} {key : ByteArray} {f x n : Int} {dt : ByteArray} {k : Nat} {nm : List UInt8} {ks : List ByteArray}
theorem ne1 : ¬ Shelf.notStoredT = ⟨#[]⟩ := by decide
theorem ne2 : ¬ Shelf.notFoundT = ⟨#[]⟩ := by decide
theorem ne3 : ¬ Shelf.existsT = ⟨#[]⟩ := by decide
theorem ans_2 (h : Kind.kindN nm = 2) : Shelf.ansO lim nx its now nm ks f x n dt = Shelf.setO lim nx its now nm (ks.getD 0 ByteArray.empty) f x n dt := by unfold Shelf.ansO; rw [h]; rfl
theorem ans_3 (h : Kind.kindN nm = 3) : Shelf.ansO lim nx its now nm ks f x n dt = Shelf.setO lim nx its now nm (ks.getD 0 ByteArray.empty) f x n dt := by unfold Shelf.ansO; rw [h]; rfl
theorem ans_4 (h : Kind.kindN nm = 4) : Shelf.ansO lim nx its now nm ks f x n dt = Shelf.countO lim nx its nm (ks.getD 0 ByteArray.empty) n := by unfold Shelf.ansO; rw [h]; rfl
theorem ans_5 (h : Kind.kindN nm = 5) : Shelf.ansO lim nx its now nm ks f x n dt = Shelf.touchO nx its now (ks.getD 0 ByteArray.empty) x := by unfold Shelf.ansO; rw [h]; rfl
theorem ans_6 (h : Kind.kindN nm = 6) : Shelf.ansO lim nx its now nm ks f x n dt = Shelf.removeO nx its (ks.getD 0 ByteArray.empty) := by unfold Shelf.ansO; rw [h]; rfl
theorem e_set_n (hat : atN its key = none) (hdt : dt.size ≤ 100) : Shelf.setO lim nx its now [115, 101, 116] key f x n dt = Shelf.putO lim nx its ⟨key, f, dt, Shelf.untilR now x, 0⟩ Shelf.storedT := by
  simp [Shelf.setO, Shelf.refusalR, Shelf.itemR, hdt]
theorem e_set_s (hat : atN its key = some k) (hdt : dt.size ≤ 100) : Shelf.setO lim nx its now [115, 101, 116] key f x n dt = Shelf.putO lim nx its ⟨key, f, dt, Shelf.untilR now x, 0⟩ Shelf.storedT := by
  simp [Shelf.setO, Shelf.refusalR, Shelf.itemR, hdt]
theorem e_add_n (hat : atN its key = none) (hdt : dt.size ≤ 100) : Shelf.setO lim nx its now [97, 100, 100] key f x n dt = Shelf.putO lim nx its ⟨key, f, dt, Shelf.untilR now x, 0⟩ Shelf.storedT := by
  simp [Shelf.setO, Shelf.refusalR, Shelf.itemR, hat, hdt]
theorem e_add_s (hat : atN its key = some k) : Shelf.setO lim nx its now [97, 100, 100] key f x n dt = ⟨its, nx, 0, Shelf.notStoredT⟩ := by
  simp [Shelf.setO, Shelf.refusalR, hat, ne1]
theorem e_rep_n (hat : atN its key = none) : Shelf.setO lim nx its now [114, 101, 112, 108, 97, 99, 101] key f x n dt = ⟨its, nx, 0, Shelf.notStoredT⟩ := by
  simp [Shelf.setO, Shelf.refusalR, hat, ne1]
theorem e_rep_s (hat : atN its key = some k) (hdt : dt.size ≤ 100) : Shelf.setO lim nx its now [114, 101, 112, 108, 97, 99, 101] key f x n dt = Shelf.putO lim nx its ⟨key, f, dt, Shelf.untilR now x, 0⟩ Shelf.storedT := by
  simp [Shelf.setO, Shelf.refusalR, Shelf.itemR, hat, hdt]
theorem e_append_n (hat : atN its key = none) : Shelf.setO lim nx its now [97, 112, 112, 101, 110, 100] key f x n dt = ⟨its, nx, 0, Shelf.notStoredT⟩ := by
  simp [Shelf.setO, Shelf.refusalR, hat, ne1]
theorem e_append_l (hat : atN its key = some k) (hsz : ¬ ((its.getD k zero).data ++ dt).size ≤ 100) : Shelf.setO lim nx its now [97, 112, 112, 101, 110, 100] key f x n dt = ⟨its, nx, 0, Shelf.largeT⟩ := by
  simp [Shelf.setO, Shelf.refusalR, Shelf.oldO, Shelf.itemR, hat, - List.getD_eq_getElem?_getD, - ByteArray.size_append, hsz]
theorem e_append_s (hat : atN its key = some k) (hsz : ((its.getD k zero).data ++ dt).size ≤ 100) : Shelf.setO lim nx its now [97, 112, 112, 101, 110, 100] key f x n dt = Shelf.putO lim nx its { its.getD k zero with data := (its.getD k zero).data ++ dt } Shelf.storedT := by
  simp [Shelf.setO, Shelf.refusalR, Shelf.oldO, Shelf.itemR, hat, - List.getD_eq_getElem?_getD, - ByteArray.size_append, hsz]
theorem e_prepend_n (hat : atN its key = none) : Shelf.setO lim nx its now [112, 114, 101, 112, 101, 110, 100] key f x n dt = ⟨its, nx, 0, Shelf.notStoredT⟩ := by
  simp [Shelf.setO, Shelf.refusalR, hat, ne1]
theorem e_prepend_l (hat : atN its key = some k) (hsz : ¬ (dt ++ (its.getD k zero).data).size ≤ 100) : Shelf.setO lim nx its now [112, 114, 101, 112, 101, 110, 100] key f x n dt = ⟨its, nx, 0, Shelf.largeT⟩ := by
  simp [Shelf.setO, Shelf.refusalR, Shelf.oldO, Shelf.itemR, hat, - List.getD_eq_getElem?_getD, - ByteArray.size_append, hsz]
theorem e_prepend_s (hat : atN its key = some k) (hsz : (dt ++ (its.getD k zero).data).size ≤ 100) : Shelf.setO lim nx its now [112, 114, 101, 112, 101, 110, 100] key f x n dt = Shelf.putO lim nx its { its.getD k zero with data := dt ++ (its.getD k zero).data } Shelf.storedT := by
  simp [Shelf.setO, Shelf.refusalR, Shelf.oldO, Shelf.itemR, hat, - List.getD_eq_getElem?_getD, - ByteArray.size_append, hsz]
theorem e_cas_n (hat : atN its key = none) : Shelf.setO lim nx its now [99, 97, 115] key f x n dt = ⟨its, nx, 0, Shelf.notFoundT⟩ := by
  simp [Shelf.setO, Shelf.refusalR, hat, ne2]
theorem e_cas_o (hat : atN its key = some k) (hct : ¬ (its.getD k zero).token = n) : Shelf.setO lim nx its now [99, 97, 115] key f x n dt = ⟨its, nx, 0, Shelf.existsT⟩ := by
  simp [Shelf.setO, Shelf.refusalR, Shelf.oldO, hat, ne3, - List.getD_eq_getElem?_getD, hct]
theorem e_cas_s (hat : atN its key = some k) (hdt : dt.size ≤ 100) (hct : (its.getD k zero).token = n) : Shelf.setO lim nx its now [99, 97, 115] key f x n dt = Shelf.putO lim nx its ⟨key, f, dt, Shelf.untilR now x, 0⟩ Shelf.storedT := by
  simp [Shelf.setO, Shelf.refusalR, Shelf.oldO, Shelf.itemR, hat, - List.getD_eq_getElem?_getD, hct, hdt]
end

theorem l2Write_any (lim nx : Int) (a : Option Addr) (cap B : Nat) (its : List Itm) (now : Int) (nm : ByteArray) (kb ko kc nk : Nat) (key : ByteArray) (f x n : Int) (dt : ByteArray) (q : Bool) (w : World)
    (hr : Row w B (.slice a its.length cap) its) (hB : B ≤ w.heap.size) (hkb : kb < w.heap.size) (hkc : w.cell? ⟨kb, ko, none⟩ = some (.string key)) (hnk : 0 < nk) (hl : its.length ≤ 60) (hits : ∀ y ∈ its, Shelf.Okx y) (hkey : key.size ≤ 30) (hdt : dt.size ≤ 100)
    (hlim : 0 ≤ lim ∧ lim ≤ 10000) (hnx : 1 ≤ nx ∧ nx ≤ 1000000000) (hnow : 0 ≤ now ∧ now ≤ 1000000000) (hx : 0 ≤ x ∧ x ≤ 1000000000) (ks : List ByteArray) (hks : ks.getD 0 ByteArray.empty = key) (hK : 2 ≤ Kind.kindN nm.toList ∧ Kind.kindN nm.toList ≤ 6) :
    Calls Tryz.prog 73 #[.agg #[.int .i64 lim, .int .i64 nx, .slice a its.length cap], .int .i64 now, .agg #[.string nm, .slice (some ⟨kb, ko, none⟩) nk kc, .int .i64 f, .int .i64 x, .int .i64 n, .string dt, .bool q]] w (WEnd (Shelf.ansO lim nx its now nm.toList ks f x n dt) lim B a w) := by
  by_cases h_set : nm.toList = [115, 101, 116]
  · have hkd : Kind.kindN nm.toList = 2 := by rw [h_set]; decide
    rw [ans_2 hkd, hks]
    rw [h_set]
    cases hat : atN its key with
    | none =>
      rw [e_set_n hat hdt]
      exact put_set lim nx a cap B its now nm kb ko kc nk key f x n dt q w hr hB hkb hkc hnk hl hits hkey hdt hlim hnx hnow hx h_set hat
    | some k =>
      rw [e_set_s hat hdt]
      exact put_set2 lim nx a cap B its now nm kb ko kc nk key f x n dt q w hr hB hkb hkc hnk hl hits hkey hdt hlim hnx hnow hx h_set k hat
  by_cases h_add : nm.toList = [97, 100, 100]
  · have hkd : Kind.kindN nm.toList = 2 := by rw [h_add]; decide
    rw [ans_2 hkd, hks]
    rw [h_add]
    cases hat : atN its key with
    | none =>
      rw [e_add_n hat hdt]
      exact put_add lim nx a cap B its now nm kb ko kc nk key f x n dt q w hr hB hkb hkc hnk hl hits hkey hdt hlim hnx hnow hx h_add hat
    | some k =>
      rw [e_add_s hat]
      exact not_add lim nx a cap B its now nm kb ko kc nk key f x n dt q w hr hB hkb hkc hnk hl hits hkey hdt hlim hnx hnow hx h_add k hat
  by_cases h_replace : nm.toList = [114, 101, 112, 108, 97, 99, 101]
  · have hkd : Kind.kindN nm.toList = 2 := by rw [h_replace]; decide
    rw [ans_2 hkd, hks]
    rw [h_replace]
    cases hat : atN its key with
    | none =>
      rw [e_rep_n hat]
      exact not_replace lim nx a cap B its now nm kb ko kc nk key f x n dt q w hr hB hkb hkc hnk hl hits hkey hdt hlim hnx hnow hx h_replace hat
    | some k =>
      rw [e_rep_s hat hdt]
      exact put_replace lim nx a cap B its now nm kb ko kc nk key f x n dt q w hr hB hkb hkc hnk hl hits hkey hdt hlim hnx hnow hx h_replace k hat
  by_cases h_append : nm.toList = [97, 112, 112, 101, 110, 100]
  · have hkd : Kind.kindN nm.toList = 2 := by rw [h_append]; decide
    rw [ans_2 hkd, hks]
    rw [h_append]
    cases hat : atN its key with
    | none =>
      rw [e_append_n hat]
      exact not_append lim nx a cap B its now nm kb ko kc nk key f x n dt q w hr hB hkb hkc hnk hl hits hkey hdt hlim hnx hnow hx h_append hat
    | some k =>
      by_cases hsz : ((its.getD k zero).data ++ dt).size ≤ 100
      · rw [e_append_s hat hsz]
        exact put_append lim nx a cap B its now nm kb ko kc nk key f x n dt q w hr hB hkb hkc hnk hl hits hkey hdt hlim hnx hnow hx h_append k hat hsz
      · rw [e_append_l hat hsz]
        exact large_append lim nx a cap B its now nm kb ko kc nk key f x n dt q w hr hB hkb hkc hnk hl hits hkey hdt hlim hnx hnow hx h_append k hat hsz
  by_cases h_prepend : nm.toList = [112, 114, 101, 112, 101, 110, 100]
  · have hkd : Kind.kindN nm.toList = 2 := by rw [h_prepend]; decide
    rw [ans_2 hkd, hks]
    rw [h_prepend]
    cases hat : atN its key with
    | none =>
      rw [e_prepend_n hat]
      exact not_prepend lim nx a cap B its now nm kb ko kc nk key f x n dt q w hr hB hkb hkc hnk hl hits hkey hdt hlim hnx hnow hx h_prepend hat
    | some k =>
      by_cases hsz : (dt ++ (its.getD k zero).data).size ≤ 100
      · rw [e_prepend_s hat hsz]
        exact put_prepend lim nx a cap B its now nm kb ko kc nk key f x n dt q w hr hB hkb hkc hnk hl hits hkey hdt hlim hnx hnow hx h_prepend k hat hsz
      · rw [e_prepend_l hat hsz]
        exact large_prepend lim nx a cap B its now nm kb ko kc nk key f x n dt q w hr hB hkb hkc hnk hl hits hkey hdt hlim hnx hnow hx h_prepend k hat hsz
  by_cases h_cas : nm.toList = [99, 97, 115]
  · have hkd : Kind.kindN nm.toList = 3 := by rw [h_cas]; decide
    rw [ans_3 hkd, hks]
    rw [h_cas]
    cases hat : atN its key with
    | none =>
      rw [e_cas_n hat]
      exact lost_cas lim nx a cap B its now nm kb ko kc nk key f x n dt q w hr hB hkb hkc hnk hl hits hkey hdt hlim hnx hnow hx h_cas hat
    | some k =>
      by_cases hct : (its.getD k zero).token = n
      · rw [e_cas_s hat hdt hct]
        exact put_cas lim nx a cap B its now nm kb ko kc nk key f x n dt q w hr hB hkb hkc hnk hl hits hkey hdt hlim hnx hnow hx h_cas k hat hct
      · rw [e_cas_o hat hct]
        exact cas_no lim nx a cap B its now nm kb ko kc nk key f x n dt q w hr hB hkb hkc hnk hl hits hkey hdt hlim hnx hnow hx h_cas k hat hct
  by_cases h_incr : nm.toList = [105, 110, 99, 114]
  · have hkd : Kind.kindN nm.toList = 4 := by rw [h_incr]; decide
    rw [ans_4 hkd, hks]
    unfold Shelf.countO
    cases hat : atN its key with
    | none => exact lost_incr lim nx a cap B its now nm kb ko kc nk key f x n dt q w hr hB hkb hkc hnk hl hits hkey hdt hlim hnx hnow hx h_incr hat
    | some k =>
      have hdn : (nm.toList == [100, 101, 99, 114]) = false := by rw [h_incr]; decide
      show Calls _ _ _ w (WEnd (Shelf.countX lim nx its nm.toList n (its.getD k zero)) lim B a w)
      unfold Shelf.countX
      rw [hdn]
      cases hcb : Count.countB (its.getD k zero).data.data.toList n false with
      | none => exact bad_incr lim nx a cap B its now nm kb ko kc nk key f x n dt q w hr hB hkb hkc hnk hl hits hkey hdt hlim hnx hnow hx h_incr k hat hcb
      | some t =>
        show Calls _ _ _ w (WEnd (Shelf.putO lim nx its { its.getD k zero with data := t } (t ++ Shelf.endS)) lim B a w)
        unfold Shelf.putO
        by_cases hfu : lim < charge { its.getD k zero with data := t } ∨ nx = 1000000000
        · rw [putR_none hfu]
          exact full_incr lim nx a cap B its now nm kb ko kc nk key f x n dt q w hr hB hkb hkc hnk hl hits hkey hdt hlim hnx hnow hx h_incr k hat t hcb hfu
        · rw [putR_some hfu]
          exact keep_incr lim nx a cap B its now nm kb ko kc nk key f x n dt q w hr hB hkb hkc hnk hl hits hkey hdt hlim hnx hnow hx h_incr k hat t hcb hfu _ _ rfl rfl
  by_cases h_decr : nm.toList = [100, 101, 99, 114]
  · have hkd : Kind.kindN nm.toList = 4 := by rw [h_decr]; decide
    rw [ans_4 hkd, hks]
    unfold Shelf.countO
    cases hat : atN its key with
    | none => exact lost_decr lim nx a cap B its now nm kb ko kc nk key f x n dt q w hr hB hkb hkc hnk hl hits hkey hdt hlim hnx hnow hx h_decr hat
    | some k =>
      have hdn : (nm.toList == [100, 101, 99, 114]) = true := by rw [h_decr]; decide
      show Calls _ _ _ w (WEnd (Shelf.countX lim nx its nm.toList n (its.getD k zero)) lim B a w)
      unfold Shelf.countX
      rw [hdn]
      cases hcb : Count.countB (its.getD k zero).data.data.toList n true with
      | none => exact bad_decr lim nx a cap B its now nm kb ko kc nk key f x n dt q w hr hB hkb hkc hnk hl hits hkey hdt hlim hnx hnow hx h_decr k hat hcb
      | some t =>
        show Calls _ _ _ w (WEnd (Shelf.putO lim nx its { its.getD k zero with data := t } (t ++ Shelf.endS)) lim B a w)
        unfold Shelf.putO
        by_cases hfu : lim < charge { its.getD k zero with data := t } ∨ nx = 1000000000
        · rw [putR_none hfu]
          exact full_decr lim nx a cap B its now nm kb ko kc nk key f x n dt q w hr hB hkb hkc hnk hl hits hkey hdt hlim hnx hnow hx h_decr k hat t hcb hfu
        · rw [putR_some hfu]
          exact keep_decr lim nx a cap B its now nm kb ko kc nk key f x n dt q w hr hB hkb hkc hnk hl hits hkey hdt hlim hnx hnow hx h_decr k hat t hcb hfu _ _ rfl rfl
  by_cases h_touch : nm.toList = [116, 111, 117, 99, 104]
  · have hkd : Kind.kindN nm.toList = 5 := by rw [h_touch]; decide
    rw [ans_5 hkd, hks]
    unfold Shelf.touchO
    cases hat : atN its key with
    | none => exact lost_touch lim nx a cap B its now nm kb ko kc nk key f x n dt q w hr hB hkb hkc hnk hl hits hkey hdt hlim hnx hnow hx h_touch hat
    | some k => exact done_touch lim nx a cap B its now nm kb ko kc nk key f x n dt q w hr hB hkb hkc hnk hl hits hkey hdt hlim hnx hnow hx h_touch k hat
  by_cases h_delete : nm.toList = [100, 101, 108, 101, 116, 101]
  · have hkd : Kind.kindN nm.toList = 6 := by rw [h_delete]; decide
    rw [ans_6 hkd, hks]
    unfold Shelf.removeO without
    cases hat : atN its key with
    | none => exact lost_delete lim nx a cap B its now nm kb ko kc nk key f x n dt q w hr hB hkb hkc hnk hl hits hkey hdt hlim hnx hnow hx h_delete hat
    | some k => exact done_delete lim nx a cap B its now nm kb ko kc nk key f x n dt q w hr hB hkb hkc hnk hl hits hkey hdt hlim hnx hnow hx h_delete k hat
  exfalso
  unfold Kind.kindN at hK
  rw [if_neg h_set, if_neg h_add, if_neg h_replace, if_neg h_append, if_neg h_prepend, if_neg h_cas, if_neg h_incr, if_neg h_decr, if_neg h_touch, if_neg h_delete] at hK
  repeat' split at hK
  all_goals omega
end Rw
end Go.Proofs.YtkdcofmpbmiloaaGreatDoor
/-
  The model's l2Do: its boxes; the commands that change one item, and the plain ones.
-/
namespace Go.Proofs.YtkdcofmpbmiloaaGreatDoor
namespace Rw
open Go.RowKit Base GoodKey Items Store Own
set_option linter.unusedVariables false

/-- What l2Do leaves: the items in a row of the call's own. -/
def DEnd (O : Shelf.Out) (lim : Int) (w : World) (e : Ending) (w' : World) : Prop :=
  ∃ a cap, e = .returned (.tuple #[.agg #[.int .i64 lim, .int .i64 O.nx, .slice a O.its.length cap], .string O.ans, .int .i64 (O.lost : Int)]) ∧ Row w' w.heap.size (.slice a O.its.length cap) O.its ∧ Below w.heap.size w w'
section
variable {w w' : World} {H : Nat} {lim nx : Int} {v : Value} {nm : ByteArray} {kv : Value} {f x n : Int} {dt : ByteArray} {q : Bool}
/-- The three stores of a store into its box. -/
theorem Bw.put3 (h : Bw w H lim nx v nm kv f x n dt q) (l' n' : Int) (u : Value) : Bw (((w.setCell ⟨H, 0, none⟩ (.int .i64 l')).setCell ⟨H, 1, none⟩ (.int .i64 n')).setCell ⟨H, 2, none⟩ u) H l' n' u nm kv f x n dt q := by
  obtain ⟨⟨s0, s1, s2⟩, ⟨i0, i1, i2, i3, i4, i5, i6⟩, ⟨y0, y1, y2⟩, f0, f2, z⟩ := h
  refine ⟨⟨?_, ?_, ?_⟩, ⟨?_, ?_, ?_, ?_, ?_, ?_, ?_⟩, ⟨?_, ?_, ?_⟩, fun o => ?_, fun o => ?_, by simpa [World.setCell] using z⟩
  all_goals go_simp
end
theorem Row.put3 {w : World} {B H : Nat} {a : Option Addr} {n cap : Nat} {its : List Itm} (h : Row w B (.slice a n cap) its) (hB : H < B) (l' n' : Int) (u : Value) : Row (((w.setCell ⟨H, 0, none⟩ (.int .i64 l')).setCell ⟨H, 1, none⟩ (.int .i64 n')).setCell ⟨H, 2, none⟩ u) B (.slice a n cap) its :=
  ownsRow_setCell_below (ownsRow_setCell_below (ownsRow_setCell_below h (a := ⟨H, 0, none⟩) hB _) (a := ⟨H, 1, none⟩) hB _) (a := ⟨H, 2, none⟩) hB _
/-- What stands behind l2Drop: the store's box bears the items that are kept. -/
structure Dr (w w3 : World) (lim nx : Int) (a : Option Addr) (cap : Nat) (its : List Itm) (nm : ByteArray) (kv : Value) (f x n : Int) (dt : ByteArray) (q : Bool) : Prop where
  box : Bw w3 w.heap.size lim nx (.slice a its.length cap) nm kv f x n dt q
  row : Row w3 (w.heap.size + 3) (.slice a its.length cap) its
  bel : Below w.heap.size w w3

set_option maxRecDepth 10000 in
set_option maxHeartbeats 8000000 in
theorem do_write (lim nx : Int) (b cap B : Nat) (its : List Itm) (now : Int) (nm : ByteArray) (kb ko kc nk : Nat) (f x n : Int) (dt : ByteArray) (q : Bool) (w : World)
    (hr : Row w B (.slice (some ⟨b, 0, none⟩) its.length cap) its) (hl : its.length ≤ 60) (hits : ∀ y ∈ its, Shelf.Okx y) (hlim : 0 ≤ lim ∧ lim ≤ 10000) (hnx : 1 ≤ nx ∧ nx ≤ 1000000000) (key : ByteArray) (hkb : kb < w.heap.size) (hkc : w.cell? ⟨kb, ko, none⟩ = some (.string key)) (hnk : 0 < nk) (hkey : key.size ≤ 30) (hdt : dt.size ≤ 100)
    (hnow : 0 ≤ now ∧ now ≤ 1000000000) (hx : 0 ≤ x ∧ x ≤ 1000000000) (ks : List ByteArray) (hks : ks.getD 0 ByteArray.empty = key) (hK : 2 ≤ Kind.kindN nm.toList ∧ Kind.kindN nm.toList ≤ 6) :
    Calls Tryz.prog 54 #[.agg #[.int .i64 lim, .int .i64 nx, .slice (some ⟨b, 0, none⟩) its.length cap], .int .i64 now, .agg #[.string nm, .slice (some ⟨kb, ko, none⟩) nk kc, .int .i64 f, .int .i64 x, .int .i64 n, .string dt, .bool q]] w (DEnd (Shelf.ansO lim nx (keepB its now) now nm.toList ks f x n dt) lim w) := by
  have hkd := fun w' => Kind.spec_any nm w'
  have HDR := hide (fun w' (h : Row w' B (.slice (some ⟨b, 0, none⟩) its.length cap) its) => drop_some lim nx b 0 cap its now w' h.lt.1 (h.at rfl) (by omega))
  have HR := hide hr
  have hkl : (keepB its now).length ≤ 60 := Nat.le_trans (List.length_filter_le _ _) hl
  have HKI : Hid (∀ y ∈ keepB its now, Shelf.Okx y) := fun y hy => hits y (List.mem_filter.1 hy).1
  clear hr hits
  have HWR := hide (fun a' c' w' (hr' : Row w' (w.heap.size + 3) (.slice a' (keepB its now).length c') (keepB its now)) (hB' : w.heap.size + 3 ≤ w'.heap.size) (hb' : Below w.heap.size w w') => l2Write_any lim nx a' c' (w.heap.size + 3) (keepB its now) now nm kb ko kc nk key f x n dt q w' hr' hB' (Nat.lt_of_lt_of_le hkb hb'.size) ((hb'.cell (p := ⟨kb, ko, none⟩) hkb).trans hkc) hnk hkl (unhide HKI) hkey hdt hlim hnx hnow hx ks hks hK)
  obtain ⟨PO, hPO⟩ : ∃ v, v = Shelf.ansO lim nx (keepB its now) now nm.toList ks f x n dt := ⟨_, rfl⟩
  rw [← hPO]
  rw [← hPO] at HWR
  have HPO := hide hPO
  clear hPO hkc hnow hx hks
  generalize hKN : Kind.kindN nm.toList = K at hkd hK
  clear hKN
  have k1 : decide (K = 1) = false := decide_eq_false (by omega)
  have k7 : decide (K = 7) = false := decide_eq_false (by omega)
  have k1' : (K == 1) = false := by rw [beq_eq_false_iff_ne]; omega
  have k7' : (K == 7) = false := by rw [beq_eq_false_iff_ne]; omega
  generalize keepB its now = kp at HDR hkl HKI HWR HPO
  have HKD := hide hkd
  clear hkd
  go_enter Tryz.func54, Tryz.ntmps54
  go_wp2_with fail
  refine (unhide HDR _ ((unhide HR).below (bel3 w _ _ _) (Nat.le_refl _))).mono ?_
  rintro e w2 ⟨a2, c2, rfl, hr2, hb2⟩
  simp only [World.size_alloc] at hb2 hr2
  have X2 := hide ((bw_new w lim nx (.slice (some ⟨b, 0, none⟩) its.length cap) nm (.slice (some ⟨kb, ko, none⟩) nk kc) f x n dt q).below hb2 (by omega))
  have B2 := hide ((bel3 w _ _ _).trans (hb2.mono (by omega)))
  have R2 : Hid (Row w2 (w.heap.size + 3) (.slice a2 kp.length c2) kp) := hr2
  have z2 : w.heap.size + 3 ≤ w2.heap.size := (unhide X2).2.2.2.2.2
  clear hb2 hr2
  have X3 := hide ((unhide X2).put3 lim nx (.slice a2 kp.length c2))
  have R3 := hide ((unhide R2).put3 (H := w.heap.size) (by omega) lim nx (.slice a2 kp.length c2))
  have B3 := hide ((((unhide B2).setCell (p := ⟨w.heap.size, 0, none⟩) (Nat.le_refl _) (.int .i64 lim)).setCell (p := ⟨w.heap.size, 1, none⟩) (Nat.le_refl _) (.int .i64 nx)).setCell (p := ⟨w.heap.size, 2, none⟩) (Nat.le_refl _) (.slice a2 kp.length c2))
  obtain ⟨⟨a0, a1, a2'⟩, ⟨i0, i1, i2, i3, i4, i5, i6⟩, ⟨y0, y1, y2⟩, f0, f2, -⟩ := unhide X2
  go_upto_region 2 with fail
  generalize ((w2.setCell ⟨w.heap.size, 0, none⟩ (.int .i64 lim)).setCell ⟨w.heap.size, 1, none⟩ (.int .i64 nx)).setCell ⟨w.heap.size, 2, none⟩ (.slice a2 kp.length c2) = w3 at X3 R3 B3 ⊢
  clear a0 a1 a2' i0 i1 i2 i3 i4 i5 i6 y0 y1 y2 f0 f2 X2 R2 B2 z2
  have z3 := (unhide X3).2.2.2.2.2
  obtain ⟨⟨a0, a1, a2'⟩, ⟨i0, i1, i2, i3, i4, i5, i6⟩, ⟨y0, y1, y2⟩, f0, f2, -⟩ := unhide X3
  go_wp2_with fail
  refine (unhide HKD _).mono ?_
  rintro e w3' ⟨rfl, rfl⟩
  go_wp2_with fail
  refine (unhide HWR _ _ _ (unhide R3) z3 (unhide B3)).mono ?_
  rintro e w4 ⟨a4, c4, rfl, hr4, -, hb4⟩
  have X4 := hide ((unhide X3).below hb4 z3)
  have R4 := hide hr4
  have B4 := hide ((unhide B3).trans (hb4.mono (by omega)))
  clear hr4 hb4 a0 a1 a2' i0 i1 i2 i3 i4 i5 i6 y0 y1 y2 f0 f2
  obtain ⟨-, -, ⟨y0, y1, y2⟩, f0, f2, -⟩ := unhide X4
  go_wp2
  refine bodyPost_ret (v := .tuple #[.agg #[.int .i64 lim, .int .i64 PO.nx, .slice a4 PO.its.length c4], .string PO.ans, .int .i64 (PO.lost : Int)]) (by simp [results, Tryz.results54, go_sem, y0, y1, y2]) rfl ⟨a4, c4, rfl, ?_, ?_⟩
  · refine Row.le (B := w.heap.size + 3) ?_ (by omega)
    repeat (refine ownsRow_setCell_below ?_ (by first | (simp; done) | (simp; omega)) _)
    exact unhide R4
  · repeat (refine Below.setCell ?_ (by first | (simp; done) | (simp; omega)) _)
    exact unhide B4
end Rw
end Go.Proofs.YtkdcofmpbmiloaaGreatDoor
