/-
  The model's l2Write, whole: what the program's answerTo leaves, for every command that changes one item.
-/
import Derived.Test.YthlcmnjaimffdaaGreatDoorWriteL
import Derived.Test.YthlcmnjaimffdaaGreatDoorWriteN
import Derived.Test.YthlcmnjaimffdaaGreatDoorWriteP
import Derived.Test.YthlcmnjaimffdaaGreatDoorWriteQ
import Derived.Test.YthlcmnjaimffdaaGreatDoorWriteG
import Derived.Test.YthlcmnjaimffdaaGreatDoorWriteK
import Derived.Test.YthlcmnjaimffdaaGreatDoorWriteM
import Derived.Test.YthlcmnjaimffdaaGreatDoorKinds
namespace Go.Proofs.YthlcmnjaimffdaaGreatDoor
namespace Rw
open Go.RowKit Base GoodKey Items Store Own
set_option linter.unusedVariables false

section
variable {lim nx : Int} {its : List Itm} {now : Int} {key : ByteArray} {f x n : Int} {dt : ByteArray} {k : Nat} {nm : List UInt8} {ks : List ByteArray}
theorem ne1 : ¬ Shelf.notStoredT = ⟨#[]⟩ := by decide
theorem ne2 : ¬ Shelf.notFoundT = ⟨#[]⟩ := by decide
theorem ne3 : ¬ Shelf.existsT = ⟨#[]⟩ := by decide
theorem ans_2 (h : Kind.kindN nm = 2) : Shelf.ansO lim nx its now nm ks f x n dt = Shelf.setO lim nx its now nm (ks.getD 0 ByteArray.empty) f x n dt := by unfold Shelf.ansO; rw [h]; rfl
theorem ans_3 (h : Kind.kindN nm = 3) : Shelf.ansO lim nx its now nm ks f x n dt = Shelf.setO lim nx its now nm (ks.getD 0 ByteArray.empty) f x n dt := by unfold Shelf.ansO; rw [h]; rfl
theorem ans_4 (h : Kind.kindN nm = 4) : Shelf.ansO lim nx its now nm ks f x n dt = Shelf.countO lim nx its nm (ks.getD 0 ByteArray.empty) n := by unfold Shelf.ansO; rw [h]; rfl
theorem ans_5 (h : Kind.kindN nm = 5) : Shelf.ansO lim nx its now nm ks f x n dt = Shelf.touchO nx its now (ks.getD 0 ByteArray.empty) x := by unfold Shelf.ansO; rw [h]; rfl
theorem ans_6 (h : Kind.kindN nm = 6) : Shelf.ansO lim nx its now nm ks f x n dt = Shelf.removeO nx its (ks.getD 0 ByteArray.empty) := by unfold Shelf.ansO; rw [h]; rfl
theorem e_set_n (hat : atN its key = none) (hdt : dt.size ≤ 100) : Shelf.setO lim nx its now [115, 101, 116] key f x n dt = Shelf.putO lim nx its ⟨key, f, dt, Shelf.untilR now x, 0⟩ Shelf.storedT := by
  simp [Shelf.setO, Shelf.refusalR, Shelf.itemR, hdt]
theorem e_set_s (hat : atN its key = some k) (hdt : dt.size ≤ 100) : Shelf.setO lim nx its now [115, 101, 116] key f x n dt = Shelf.putO lim nx its ⟨key, f, dt, Shelf.untilR now x, 0⟩ Shelf.storedT := by
  simp [Shelf.setO, Shelf.refusalR, Shelf.itemR, hdt]
theorem e_add_n (hat : atN its key = none) (hdt : dt.size ≤ 100) : Shelf.setO lim nx its now [97, 100, 100] key f x n dt = Shelf.putO lim nx its ⟨key, f, dt, Shelf.untilR now x, 0⟩ Shelf.storedT := by
  simp [Shelf.setO, Shelf.refusalR, Shelf.itemR, hat, hdt]
theorem e_add_s (hat : atN its key = some k) : Shelf.setO lim nx its now [97, 100, 100] key f x n dt = ⟨its, nx, 0, Shelf.notStoredT⟩ := by
  simp [Shelf.setO, Shelf.refusalR, hat, ne1]
theorem e_rep_n (hat : atN its key = none) : Shelf.setO lim nx its now [114, 101, 112, 108, 97, 99, 101] key f x n dt = ⟨its, nx, 0, Shelf.notStoredT⟩ := by
  simp [Shelf.setO, Shelf.refusalR, hat, ne1]
theorem e_rep_s (hat : atN its key = some k) (hdt : dt.size ≤ 100) : Shelf.setO lim nx its now [114, 101, 112, 108, 97, 99, 101] key f x n dt = Shelf.putO lim nx its ⟨key, f, dt, Shelf.untilR now x, 0⟩ Shelf.storedT := by
  simp [Shelf.setO, Shelf.refusalR, Shelf.itemR, hat, hdt]
theorem e_append_n (hat : atN its key = none) : Shelf.setO lim nx its now [97, 112, 112, 101, 110, 100] key f x n dt = ⟨its, nx, 0, Shelf.notStoredT⟩ := by
  simp [Shelf.setO, Shelf.refusalR, hat, ne1]
theorem e_append_l (hat : atN its key = some k) (hsz : ¬ ((its.getD k zero).data ++ dt).size ≤ 100) : Shelf.setO lim nx its now [97, 112, 112, 101, 110, 100] key f x n dt = ⟨its, nx, 0, Shelf.largeT⟩ := by
  simp [Shelf.setO, Shelf.refusalR, Shelf.oldO, Shelf.itemR, hat, - List.getD_eq_getElem?_getD, - ByteArray.size_append, hsz]
theorem e_append_s (hat : atN its key = some k) (hsz : ((its.getD k zero).data ++ dt).size ≤ 100) : Shelf.setO lim nx its now [97, 112, 112, 101, 110, 100] key f x n dt = Shelf.putO lim nx its { its.getD k zero with data := (its.getD k zero).data ++ dt } Shelf.storedT := by
  simp [Shelf.setO, Shelf.refusalR, Shelf.oldO, Shelf.itemR, hat, - List.getD_eq_getElem?_getD, - ByteArray.size_append, hsz]
theorem e_prepend_n (hat : atN its key = none) : Shelf.setO lim nx its now [112, 114, 101, 112, 101, 110, 100] key f x n dt = ⟨its, nx, 0, Shelf.notStoredT⟩ := by
  simp [Shelf.setO, Shelf.refusalR, hat, ne1]
theorem e_prepend_l (hat : atN its key = some k) (hsz : ¬ (dt ++ (its.getD k zero).data).size ≤ 100) : Shelf.setO lim nx its now [112, 114, 101, 112, 101, 110, 100] key f x n dt = ⟨its, nx, 0, Shelf.largeT⟩ := by
  simp [Shelf.setO, Shelf.refusalR, Shelf.oldO, Shelf.itemR, hat, - List.getD_eq_getElem?_getD, - ByteArray.size_append, hsz]
theorem e_prepend_s (hat : atN its key = some k) (hsz : (dt ++ (its.getD k zero).data).size ≤ 100) : Shelf.setO lim nx its now [112, 114, 101, 112, 101, 110, 100] key f x n dt = Shelf.putO lim nx its { its.getD k zero with data := dt ++ (its.getD k zero).data } Shelf.storedT := by
  simp [Shelf.setO, Shelf.refusalR, Shelf.oldO, Shelf.itemR, hat, - List.getD_eq_getElem?_getD, - ByteArray.size_append, hsz]
theorem e_cas_n (hat : atN its key = none) : Shelf.setO lim nx its now [99, 97, 115] key f x n dt = ⟨its, nx, 0, Shelf.notFoundT⟩ := by
  simp [Shelf.setO, Shelf.refusalR, hat, ne2]
theorem e_cas_o (hat : atN its key = some k) (hct : ¬ (its.getD k zero).token = n) : Shelf.setO lim nx its now [99, 97, 115] key f x n dt = ⟨its, nx, 0, Shelf.existsT⟩ := by
  simp [Shelf.setO, Shelf.refusalR, Shelf.oldO, hat, ne3, - List.getD_eq_getElem?_getD, hct]
theorem e_cas_s (hat : atN its key = some k) (hdt : dt.size ≤ 100) (hct : (its.getD k zero).token = n) : Shelf.setO lim nx its now [99, 97, 115] key f x n dt = Shelf.putO lim nx its ⟨key, f, dt, Shelf.untilR now x, 0⟩ Shelf.storedT := by
  simp [Shelf.setO, Shelf.refusalR, Shelf.oldO, Shelf.itemR, hat, - List.getD_eq_getElem?_getD, hct, hdt]
end

theorem l2Write_any (lim nx : Int) (a : Option Addr) (cap B : Nat) (its : List Itm) (now : Int) (nm : ByteArray) (kb ko kc nk : Nat) (key : ByteArray) (f x n : Int) (dt : ByteArray) (q : Bool) (w : World)
    (hr : Row w B (.slice a its.length cap) its) (hB : B ≤ w.heap.size) (hkb : kb < w.heap.size) (hkc : w.cell? ⟨kb, ko, none⟩ = some (.string key)) (hnk : 0 < nk) (hl : its.length ≤ 60) (hits : ∀ y ∈ its, Shelf.Okx y) (hkey : key.size ≤ 30) (hdt : dt.size ≤ 100)
    (hlim : 0 ≤ lim ∧ lim ≤ 10000) (hnx : 1 ≤ nx ∧ nx ≤ 1000000000) (hnow : 0 ≤ now ∧ now ≤ 1000000000) (hx : 0 ≤ x ∧ x ≤ 1000000000) (ks : List ByteArray) (hks : ks.getD 0 ByteArray.empty = key) (hK : 2 ≤ Kind.kindN nm.toList ∧ Kind.kindN nm.toList ≤ 6) :
    Calls Tryz.prog 68 #[.agg #[.int .i64 lim, .int .i64 nx, .slice a its.length cap], .int .i64 now, .agg #[.string nm, .slice (some ⟨kb, ko, none⟩) nk kc, .int .i64 f, .int .i64 x, .int .i64 n, .string dt, .bool q]] w (WEnd (Shelf.ansO lim nx its now nm.toList ks f x n dt) lim B a w) := by
  by_cases h_set : nm.toList = [115, 101, 116]
  · have hkd : Kind.kindN nm.toList = 2 := by rw [h_set]; decide
    rw [ans_2 hkd, hks]
    rw [h_set]
    cases hat : atN its key with
    | none =>
      rw [e_set_n hat hdt]
      exact put_set lim nx a cap B its now nm kb ko kc nk key f x n dt q w hr hB hkb hkc hnk hl hits hkey hdt hlim hnx hnow hx h_set hat
    | some k =>
      rw [e_set_s hat hdt]
      exact put_set2 lim nx a cap B its now nm kb ko kc nk key f x n dt q w hr hB hkb hkc hnk hl hits hkey hdt hlim hnx hnow hx h_set k hat
  by_cases h_add : nm.toList = [97, 100, 100]
  · have hkd : Kind.kindN nm.toList = 2 := by rw [h_add]; decide
    rw [ans_2 hkd, hks]
    rw [h_add]
    cases hat : atN its key with
    | none =>
      rw [e_add_n hat hdt]
      exact put_add lim nx a cap B its now nm kb ko kc nk key f x n dt q w hr hB hkb hkc hnk hl hits hkey hdt hlim hnx hnow hx h_add hat
    | some k =>
      rw [e_add_s hat]
      exact not_add lim nx a cap B its now nm kb ko kc nk key f x n dt q w hr hB hkb hkc hnk hl hits hkey hdt hlim hnx hnow hx h_add k hat
  by_cases h_replace : nm.toList = [114, 101, 112, 108, 97, 99, 101]
  · have hkd : Kind.kindN nm.toList = 2 := by rw [h_replace]; decide
    rw [ans_2 hkd, hks]
    rw [h_replace]
    cases hat : atN its key with
    | none =>
      rw [e_rep_n hat]
      exact not_replace lim nx a cap B its now nm kb ko kc nk key f x n dt q w hr hB hkb hkc hnk hl hits hkey hdt hlim hnx hnow hx h_replace hat
    | some k =>
      rw [e_rep_s hat hdt]
      exact put_replace lim nx a cap B its now nm kb ko kc nk key f x n dt q w hr hB hkb hkc hnk hl hits hkey hdt hlim hnx hnow hx h_replace k hat
  by_cases h_append : nm.toList = [97, 112, 112, 101, 110, 100]
  · have hkd : Kind.kindN nm.toList = 2 := by rw [h_append]; decide
    rw [ans_2 hkd, hks]
    rw [h_append]
    cases hat : atN its key with
    | none =>
      rw [e_append_n hat]
      exact not_append lim nx a cap B its now nm kb ko kc nk key f x n dt q w hr hB hkb hkc hnk hl hits hkey hdt hlim hnx hnow hx h_append hat
    | some k =>
      by_cases hsz : ((its.getD k zero).data ++ dt).size ≤ 100
      · rw [e_append_s hat hsz]
        exact put_append lim nx a cap B its now nm kb ko kc nk key f x n dt q w hr hB hkb hkc hnk hl hits hkey hdt hlim hnx hnow hx h_append k hat hsz
      · rw [e_append_l hat hsz]
        exact large_append lim nx a cap B its now nm kb ko kc nk key f x n dt q w hr hB hkb hkc hnk hl hits hkey hdt hlim hnx hnow hx h_append k hat hsz
  by_cases h_prepend : nm.toList = [112, 114, 101, 112, 101, 110, 100]
  · have hkd : Kind.kindN nm.toList = 2 := by rw [h_prepend]; decide
    rw [ans_2 hkd, hks]
    rw [h_prepend]
    cases hat : atN its key with
    | none =>
      rw [e_prepend_n hat]
      exact not_prepend lim nx a cap B its now nm kb ko kc nk key f x n dt q w hr hB hkb hkc hnk hl hits hkey hdt hlim hnx hnow hx h_prepend hat
    | some k =>
      by_cases hsz : (dt ++ (its.getD k zero).data).size ≤ 100
      · rw [e_prepend_s hat hsz]
        exact put_prepend lim nx a cap B its now nm kb ko kc nk key f x n dt q w hr hB hkb hkc hnk hl hits hkey hdt hlim hnx hnow hx h_prepend k hat hsz
      · rw [e_prepend_l hat hsz]
        exact large_prepend lim nx a cap B its now nm kb ko kc nk key f x n dt q w hr hB hkb hkc hnk hl hits hkey hdt hlim hnx hnow hx h_prepend k hat hsz
  by_cases h_cas : nm.toList = [99, 97, 115]
  · have hkd : Kind.kindN nm.toList = 3 := by rw [h_cas]; decide
    rw [ans_3 hkd, hks]
    rw [h_cas]
    cases hat : atN its key with
    | none =>
      rw [e_cas_n hat]
      exact lost_cas lim nx a cap B its now nm kb ko kc nk key f x n dt q w hr hB hkb hkc hnk hl hits hkey hdt hlim hnx hnow hx h_cas hat
    | some k =>
      by_cases hct : (its.getD k zero).token = n
      · rw [e_cas_s hat hdt hct]
        exact put_cas lim nx a cap B its now nm kb ko kc nk key f x n dt q w hr hB hkb hkc hnk hl hits hkey hdt hlim hnx hnow hx h_cas k hat hct
      · rw [e_cas_o hat hct]
        exact cas_no lim nx a cap B its now nm kb ko kc nk key f x n dt q w hr hB hkb hkc hnk hl hits hkey hdt hlim hnx hnow hx h_cas k hat hct
  by_cases h_incr : nm.toList = [105, 110, 99, 114]
  · have hkd : Kind.kindN nm.toList = 4 := by rw [h_incr]; decide
    rw [ans_4 hkd, hks]
    unfold Shelf.countO
    cases hat : atN its key with
    | none => exact lost_incr lim nx a cap B its now nm kb ko kc nk key f x n dt q w hr hB hkb hkc hnk hl hits hkey hdt hlim hnx hnow hx h_incr hat
    | some k =>
      have hdn : (nm.toList == [100, 101, 99, 114]) = false := by rw [h_incr]; decide
      show Calls _ _ _ w (WEnd (Shelf.countX lim nx its nm.toList n (its.getD k zero)) lim B a w)
      unfold Shelf.countX
      rw [hdn]
      cases hcb : Count.countB (its.getD k zero).data.data.toList n false with
      | none => exact bad_incr lim nx a cap B its now nm kb ko kc nk key f x n dt q w hr hB hkb hkc hnk hl hits hkey hdt hlim hnx hnow hx h_incr k hat hcb
      | some t =>
        show Calls _ _ _ w (WEnd (Shelf.putO lim nx its { its.getD k zero with data := t } (t ++ Shelf.endS)) lim B a w)
        unfold Shelf.putO
        by_cases hfu : lim < charge { its.getD k zero with data := t } ∨ nx = 1000000000
        · rw [putR_none hfu]
          exact full_incr lim nx a cap B its now nm kb ko kc nk key f x n dt q w hr hB hkb hkc hnk hl hits hkey hdt hlim hnx hnow hx h_incr k hat t hcb hfu
        · rw [putR_some hfu]
          exact keep_incr lim nx a cap B its now nm kb ko kc nk key f x n dt q w hr hB hkb hkc hnk hl hits hkey hdt hlim hnx hnow hx h_incr k hat t hcb hfu _ _ rfl rfl
  by_cases h_decr : nm.toList = [100, 101, 99, 114]
  · have hkd : Kind.kindN nm.toList = 4 := by rw [h_decr]; decide
    rw [ans_4 hkd, hks]
    unfold Shelf.countO
    cases hat : atN its key with
    | none => exact lost_decr lim nx a cap B its now nm kb ko kc nk key f x n dt q w hr hB hkb hkc hnk hl hits hkey hdt hlim hnx hnow hx h_decr hat
    | some k =>
      have hdn : (nm.toList == [100, 101, 99, 114]) = true := by rw [h_decr]; decide
      show Calls _ _ _ w (WEnd (Shelf.countX lim nx its nm.toList n (its.getD k zero)) lim B a w)
      unfold Shelf.countX
      rw [hdn]
      cases hcb : Count.countB (its.getD k zero).data.data.toList n true with
      | none => exact bad_decr lim nx a cap B its now nm kb ko kc nk key f x n dt q w hr hB hkb hkc hnk hl hits hkey hdt hlim hnx hnow hx h_decr k hat hcb
      | some t =>
        show Calls _ _ _ w (WEnd (Shelf.putO lim nx its { its.getD k zero with data := t } (t ++ Shelf.endS)) lim B a w)
        unfold Shelf.putO
        by_cases hfu : lim < charge { its.getD k zero with data := t } ∨ nx = 1000000000
        · rw [putR_none hfu]
          exact full_decr lim nx a cap B its now nm kb ko kc nk key f x n dt q w hr hB hkb hkc hnk hl hits hkey hdt hlim hnx hnow hx h_decr k hat t hcb hfu
        · rw [putR_some hfu]
          exact keep_decr lim nx a cap B its now nm kb ko kc nk key f x n dt q w hr hB hkb hkc hnk hl hits hkey hdt hlim hnx hnow hx h_decr k hat t hcb hfu _ _ rfl rfl
  by_cases h_touch : nm.toList = [116, 111, 117, 99, 104]
  · have hkd : Kind.kindN nm.toList = 5 := by rw [h_touch]; decide
    rw [ans_5 hkd, hks]
    unfold Shelf.touchO
    cases hat : atN its key with
    | none => exact lost_touch lim nx a cap B its now nm kb ko kc nk key f x n dt q w hr hB hkb hkc hnk hl hits hkey hdt hlim hnx hnow hx h_touch hat
    | some k => exact done_touch lim nx a cap B its now nm kb ko kc nk key f x n dt q w hr hB hkb hkc hnk hl hits hkey hdt hlim hnx hnow hx h_touch k hat
  by_cases h_delete : nm.toList = [100, 101, 108, 101, 116, 101]
  · have hkd : Kind.kindN nm.toList = 6 := by rw [h_delete]; decide
    rw [ans_6 hkd, hks]
    unfold Shelf.removeO without
    cases hat : atN its key with
    | none => exact lost_delete lim nx a cap B its now nm kb ko kc nk key f x n dt q w hr hB hkb hkc hnk hl hits hkey hdt hlim hnx hnow hx h_delete hat
    | some k => exact done_delete lim nx a cap B its now nm kb ko kc nk key f x n dt q w hr hB hkb hkc hnk hl hits hkey hdt hlim hnx hnow hx h_delete k hat
  exfalso
  unfold Kind.kindN at hK
  rw [if_neg h_set, if_neg h_add, if_neg h_replace, if_neg h_append, if_neg h_prepend, if_neg h_cas, if_neg h_incr, if_neg h_decr, if_neg h_touch, if_neg h_delete] at hK
  repeat' split at hK
  all_goals omega
end Rw
end Go.Proofs.YthlcmnjaimffdaaGreatDoor
