/-
  Contracts of the model's l2Now, l2Old and l2At, by plain functions of the items.
-/
import Derived.Test.YtkdcofmpbmiloaaGreatDoorStoreS
import Derived.Test.YtkdcofmpbmiloaaGreatDoorY4
import Derived.Laws.AppendOwn
namespace Go.Proofs.YtkdcofmpbmiloaaGreatDoor
namespace Store
open Go.RowKit Base GoodKey Items
set_option linter.unusedVariables false

def oldB (x : Itm) (now : Int) : Bool := (x.upto != 0) && decide (x.upto ≤ now)
def hasKey (key : ByteArray) (x : Itm) : Bool := x.key.toList == key.toList
def atN (its : List Itm) (key : ByteArray) : Option Nat := its.findIdx? (hasKey key)
def atI (its : List Itm) (key : ByteArray) : Int := match atN its key with | some k => k | none => -1
theorem atN_hit {its : List Itm} {key : ByteArray} {k : Nat} (hk : k < its.length) (hn : ∀ j, j < k → hasKey key (its.getD j zero) = false) (h : hasKey key (its.getD k zero) = true) : atN its key = some k := by
  unfold atN
  rw [List.findIdx?_eq_some_iff_getElem]
  refine ⟨hk, ?_, fun j hj => ?_⟩
  · simpa [List.getD_eq_getElem?_getD, List.getElem?_eq_getElem hk] using h
  · have := hn j hj
    rw [List.getD_eq_getElem?_getD, List.getElem?_eq_getElem (show j < its.length by omega)] at this
    simpa using this
theorem atN_none {its : List Itm} {key : ByteArray} (hn : ∀ j, j < its.length → hasKey key (its.getD j zero) = false) : atN its key = none := by
  unfold atN
  rw [List.findIdx?_eq_none_iff]
  intro x hx
  obtain ⟨j, hj, rfl⟩ := List.getElem_of_mem hx
  have := hn j hj
  rw [List.getD_eq_getElem?_getD, List.getElem?_eq_getElem hj] at this
  simpa using this
theorem atN_lt {its : List Itm} {key : ByteArray} {k : Nat} (h : atN its key = some k) : k < its.length := by
  unfold atN at h
  exact (List.findIdx?_eq_some_iff_getElem.1 h).1

set_option maxRecDepth 10000 in
set_option maxHeartbeats 400000 in
theorem l2Now_any (n : Int) (w : World) :
    Calls Tryz.prog 21 #[.int .i64 n] w fun e w' => e = .returned (.bool (inB n 0 1000000000)) ∧ w' = w := by
  go_enter Tryz.func21, Tryz.ntmps21
  go_wp2_with (go_at_call 49; refine (l1In_any _ _ _ _).mono ?_; rintro e w' ⟨rfl, rfl⟩)
  go_ret
  exact ⟨rfl, rfl⟩

set_option maxRecDepth 10000 in
set_option maxHeartbeats 400000 in
theorem l2Old_any (x : Itm) (now : Int) (w : World) :
    Calls Tryz.prog 83 #[.agg #[.string x.key, .int .i64 x.flags, .string x.data, .int .i64 x.upto, .int .i64 x.token], .int .i64 now] w fun e w' => e = .returned (.bool (oldB x now)) ∧ Below w.heap.size w w' := by
  cases h : (x.upto != 0)
  · have H : Hid (oldB x now = false) := by show oldB x now = false; rw [oldB, h]; rfl
    go_enter Tryz.func83, Tryz.ntmps83
    go_wp2
    go_ret
    exact ⟨ret_bool (unhide H).symm, bel1 w _⟩
  · have H : Hid (oldB x now = decide (x.upto ≤ now)) := by show oldB x now = _; rw [oldB, h]; rfl
    go_enter Tryz.func83, Tryz.ntmps83
    go_wp2
    go_ret
    exact ⟨ret_bool (unhide H).symm, bel1 w _⟩

set_option maxRecDepth 10000 in
set_option maxHeartbeats 400000 in
theorem l2At_some (lim nx : Int) (b off cap : Nat) (its : List Itm) (key : ByteArray) (w : World) (hb : b < w.heap.size) (hc : ∀ i, i < its.length → At w b (off + i * 5) (its.getD i zero)) (hl : its.length ≤ maxLen) :
    Calls Tryz.prog 70 #[.agg #[.int .i64 lim, .int .i64 nx, .slice (some ⟨b, off, none⟩) its.length cap], .string key] w fun e w' => e = .returned (.int .i64 (atI its key)) ∧ Below w.heap.size w w' := by
  unfold maxLen at hl
  have hcs := hide hc
  clear hc
  go_enter Tryz.func70, Tryz.ntmps70
  go_wp2
  go_loopw [10] (fun i wr => ∃ (k : Nat), k ≤ its.length ∧ i = .int .i64 k ∧ Hid (∀ j, j < k → hasKey key (its.getD j zero) = false) ∧ Hid (Below w.heap.size w wr)) (fun i _ => its.length - (intOf i).toNat)
  case atStart => exact ⟨0, Nat.zero_le _, rfl, hide (fun j hj => by omega), hide (bel1 w _)⟩
  case round =>
    obtain ⟨k, hk, rfl, hn, hbel⟩ := hrel
    by_cases hlt : k < its.length
    · obtain ⟨c0, c1, c2, c3, c4⟩ := (unhide hcs k hlt).below (unhide hbel) hb
      have hhit := hide (@atN_hit its key k hlt (unhide hn))
      have hmiss : Hid (hasKey key (its.getD k zero) = false → ∀ j, j < k + 1 → hasKey key (its.getD j zero) = false) := by
        intro h j hj
        by_cases e : j = k
        · rw [e]; exact h
        · exact unhide hn j (by omega)
      generalize its.getD k zero = x at c0 c1 c2 c3 c4 hhit hmiss
      have hzb := (unhide hbel).size
      cases e : (x.key.toList == key.toList)
      · have H := hide (unhide hmiss e)
        clear hhit hmiss
        go_wp2
        go_roundw
        case rel => exact ⟨k + 1, by omega, by go_num, H, hide ((unhide hbel).alloc hzb _)⟩
        case measure => simp [intOf]; omega
      · have H : Hid (atI its key = k) := by show atI its key = k; rw [atI, unhide hhit e]
        clear hhit hmiss
        go_wp2
        go_ret
        exact ⟨ret_int (unhide H).symm, (unhide hbel).alloc hzb _⟩
    · obtain rfl : k = its.length := by omega
      have H : Hid (atI its key = -1) := by show atI its key = -1; rw [atI, atN_none (unhide hn)]
      go_wp2
      go_ret
      exact ⟨ret_int (unhide H).symm, unhide hbel⟩

/-- What FindItem hands back. -/
def findB (lim nx : Int) (its : List Itm) (now : Int) (key : ByteArray) : Option Itm :=
  if gsB lim nx its = true then if inB now 0 1000000000 = true then match atN its key with | some k => if oldB (its.getD k zero) now = true then none else some (its.getD k zero) | none => none else none else none

def itemV (x : Itm) : Value := .agg #[.string x.key, .int .i64 x.flags, .string x.data, .int .i64 x.upto, .int .i64 x.token]
def findV : Option Itm → Value
  | some x => .tuple #[itemV x, .bool true]
  | none => .tuple #[itemV zero, .bool false]
theorem ret_find {o p : Option Itm} (h : o = p) : Ending.returned (findV o) = .returned (findV p) := by rw [h]

end Store
end Go.Proofs.YtkdcofmpbmiloaaGreatDoor
/-
  The contract of the model's l2Drop, by a plain function of the items, for every store whose items lie in memory; what DropOld hands back.
-/
namespace Go.Proofs.YtkdcofmpbmiloaaGreatDoor
namespace Store
open Go.RowKit Base GoodKey Items Own
set_option linter.unusedVariables false

def keepB (its : List Itm) (now : Int) : List Itm := its.filter (fun x => !oldB x now)
theorem keep_step (its : List Itm) (now : Int) (k : Nat) (h : k < its.length) : keepB (its.take (k + 1)) now = keepB (its.take k) now ++ (if oldB (its.getD k zero) now = true then [] else [its.getD k zero]) := by
  unfold keepB
  rw [List.take_succ_eq_append_getElem h, List.filter_append]
  congr 1
  rw [List.getD_eq_getElem?_getD, List.getElem?_eq_getElem h]
  simp only [Option.getD_some]
  cases e : oldB its[k] now <;> simp [e]
theorem keep_len (its : List Itm) (now : Int) (k : Nat) : (keepB (its.take k) now).length ≤ k := by
  unfold keepB
  exact Nat.le_trans (List.length_filter_le _ _) (List.length_take_le _ _)

theorem info_ex : ∃ i : TypeInfo, Tryz.prog.info? 37 = some i ∧ i.zero = some (.agg #[.string ByteArray.empty, .int .i64 0, .string ByteArray.empty, .int .i64 0, .int .i64 0]) ∧ i.size = 5 ∧ i.bytes = 56 := by
  have h : (Tryz.prog.info? 37).map (fun i => (i.zero, i.size, i.bytes)) = some (some (.agg #[.string ByteArray.empty, .int .i64 0, .string ByteArray.empty, .int .i64 0, .int .i64 0]), 5, 56) := by kernel_rfl
  obtain ⟨i, hi, hz⟩ := Option.map_eq_some_iff.1 h
  simp only [Prod.mk.injEq] at hz
  exact ⟨i, hi, hz.1, hz.2.1, hz.2.2⟩

set_option maxRecDepth 10000 in
set_option maxHeartbeats 2000000 in
theorem drop_some (lim nx : Int) (b off cap : Nat) (its : List Itm) (now : Int) (w : World) (hb : b < w.heap.size) (hc : ∀ i, i < its.length → At w b (off + i * 5) (its.getD i zero)) (hl : its.length ≤ 1048576) :
    Calls Tryz.prog 69 #[.agg #[.int .i64 lim, .int .i64 nx, .slice (some ⟨b, off, none⟩) its.length cap], .int .i64 now] w fun e w' =>
      ∃ a cap', e = .returned (.tuple #[.agg #[.int .i64 lim, .int .i64 nx, .slice a (keepB its now).length cap'], .int .i64 (its.length - (keepB its now).length)]) ∧
        w'.ownsRow w.heap.size 37 5 (.slice a (keepB its now).length cap') (keepB its now).length (flat (keepB its now)) ∧ Below w.heap.size w w' := by
  obtain ⟨i0, hi, hz0, hz1, hz2⟩ := info_ex
  have hcs := hide hc
  have HI := hide hi
  have HZ0 := hide hz0
  have HZ1 := hide hz1
  have HZ2 := hide hz2
  clear hc hi hz0 hz1 hz2
  go_enter Tryz.func69, Tryz.ntmps69
  go_wp2
  go_loopw [6, 13] (fun v iv wr => ∃ (k : Nat), k ≤ its.length ∧ iv = .int .i64 k ∧ Hid (wr.ownsRow (w.heap.size + 2) 37 5 v (keepB (its.take k) now).length (flat (keepB (its.take k) now))) ∧
      Hid (Below (w.heap.size + 2) ((w.alloc (.cells #[.int .i64 lim, .int .i64 nx, .slice (some ⟨b, off, none⟩) its.length cap] 25)).alloc (.cells #[.int .i64 0, .int .i64 0, .slice none 0 0] 25)) wr)) (fun _ iv _ => its.length - (intOf iv).toNat)
  case atStart => exact ⟨0, Nat.zero_le _, rfl, hide (World.ownsRow_nil _ _ _ _), hide (Below.refl _ _)⟩
  case round =>
    obtain ⟨k, hk, rfl, hown, hbel⟩ := hrel
    have hB : Hid (Below w.heap.size w wr) := (bel2 w _ _).trans ((unhide hbel).mono (by omega))
    have hzw : w.heap.size + 2 ≤ wr.heap.size := by have := (unhide hbel).size; simp at this; omega
    by_cases hlt : k < its.length
    · obtain ⟨c0, c1, c2, c3, c4⟩ := (unhide hcs k hlt).below (unhide hB) hb
      have hst := hide (keep_step its now k hlt)
      have hkl := keep_len its now k
      generalize its.getD k zero = x at c0 c1 c2 c3 c4 hst
      have hold := fun w => l2Old_any x now w
      generalize keepB (its.take k) now = kept at hown hst hkl
      cases g4 : oldB x now
      · rw [g4] at hst hold
        have HO := hide hold
        clear hold g4
        go_wp2_with fail
        refine (unhide HO _).mono ?_
        rintro e w1 ⟨rfl, hb1⟩
        simp only [World.size_alloc] at hb1
        have hx1 := boxcell hb1
        have hz1 : wr.heap.size < w1.heap.size := by have := hb1.size; simp at this; omega
        have B1 := hide (((unhide hbel).alloc hzw _).trans (hb1.mono (by omega)))
        have O1 := hide (own_below (unhide hown) ((bel1 wr _).trans (hb1.mono (by omega))) (Nat.le_refl _))
        clear hb1
        go_wp2_with (at_builtin; go_loud (refine wpList_append_own _ rfl _ _ 23 rfl (w.heap.size + 2) 37 i0 _ 5 56 Tryz.underlying23 (unhide HI) (unhide HZ0) (unhide HZ1) (unhide HZ2) rfl (by decide) _ _ _ rfl ((unhide O1).alloc _) ⟨w1.heap.size, 0, none⟩ 1 1 (cellsOf x) rfl rfl ?c1 ?c2 ?c3 ?c4 ?c5 ?_))
        case c1 => exact news_cells w1 x _
        case c2 => exact news_one x
        case c3 => unfold maxLen; omega
        case c4 => omega
        case c5 => simp; omega
        intro v' w2 hown' hgrow _
        have O2 : Hid (w2.ownsRow (w.heap.size + 2) 37 5 v' (keepB (its.take (k + 1)) now).length (flat (keepB (its.take (k + 1)) now))) := own_snoc hown' (by rw [unhide hst]; rfl)
        have B2 := hide (((unhide B1).alloc (by omega) _).grown hgrow (by simp; omega) (own_block (unhide O1)))
        clear hown' hgrow hx1
        go_wp2
        go_roundw
        case rel => exact ⟨k + 1, by omega, by go_num, O2, B2⟩
        case measure => simp [intOf]; omega
      · rw [g4] at hst hold
        have HO := hide hold
        have O2 : Hid (keepB (its.take (k + 1)) now = kept) := by show keepB (its.take (k + 1)) now = kept; rw [unhide hst]; simp
        clear hold g4
        go_wp2_with fail
        refine (unhide HO _).mono ?_
        rintro e w1 ⟨rfl, hb1⟩
        simp only [World.size_alloc] at hb1
        have B1 := hide (((unhide hbel).alloc hzw _).trans (hb1.mono (by omega)))
        have O1 := hide (own_below (unhide hown) ((bel1 wr _).trans (hb1.mono (by omega))) (Nat.le_refl _))
        clear hb1
        go_wp2
        go_roundw
        case rel => exact ⟨k + 1, by omega, by go_num, hide (by rw [unhide O2]; exact unhide O1), B1⟩
        case measure => simp [intOf]; omega
    · obtain rfl : k = its.length := by omega
      have et : its.take its.length = its := List.take_length
      rw [et] at hown
      have hkl := keep_len its now its.length
      rw [et] at hkl
      clear et
      obtain ⟨va, vc, hv⟩ := own_form (unhide hown)
      rw [hv] at hown ⊢
      clear hv
      have hs0 := fun o => (unhide hbel).cell (p := ⟨w.heap.size, o, none⟩) (by simp)
      have hs1 := fun o => (unhide hbel).cell (p := ⟨w.heap.size + 1, o, none⟩) (by simp)
      have hf0 := fun o => (unhide hbel).frozen (p := ⟨w.heap.size, o, none⟩) (by simp)
      have hf1 := fun o => (unhide hbel).frozen (p := ⟨w.heap.size + 1, o, none⟩) (by simp)
      go_wp2
      refine bodyPost_ret (v := .tuple #[.agg #[.int .i64 lim, .int .i64 nx, .slice va (keepB its now).length vc], .int .i64 (its.length - (keepB its now).length)]) (by simp [results, Tryz.results69, go_sem, hs1]) rfl ⟨va, vc, rfl, ?_, ?_⟩
      · refine own_le (base := w.heap.size + 2) ?_ (by omega)
        repeat (refine ownsRow_setCell_below ?_ (by first | (simp; done) | (simp; omega)) _)
        exact unhide hown
      · repeat (refine Below.setCell ?_ (by first | (simp; done) | (simp; omega)) _)
        exact unhide hB

/-- What DropOld hands back: the store's fields, how many went, whether. -/
structure Dropped where
  lim : Int
  nx : Int
  its : List Itm
  many : Int
  ok : Bool
def dropR (lim nx : Int) (its : List Itm) (now : Int) : Dropped :=
  if gsB lim nx its = true then if inB now 0 1000000000 = true then ⟨lim, nx, keepB its now, its.length - (keepB its now).length, true⟩ else ⟨0, 0, [], 0, false⟩ else ⟨0, 0, [], 0, false⟩
theorem dropR_len (lim nx : Int) (its : List Itm) (now : Int) : (dropR lim nx its now).its.length ≤ its.length := by
  unfold dropR
  split
  · split
    · exact List.length_filter_le _ _
    · exact Nat.zero_le _
  · exact Nat.zero_le _
/-- The ending of DropOld, and what it leaves in memory. -/
def DropEnd (T : Dropped) (w : World) (e : Ending) (w' : World) : Prop :=
  ∃ a cap r, e = .returned (.tuple #[.agg #[.int .i64 T.lim, .int .i64 T.nx, .slice a T.its.length cap], .int .i64 T.many, .bool T.ok]) ∧ Marks.Ours w' a T.its.length (icell T.its) r ∧ (∀ g, r = some g → w.heap.size ≤ g) ∧ Below w.heap.size w w'

end Store
end Go.Proofs.YtkdcofmpbmiloaaGreatDoor
/-
  The program's list of links: values, newChain.
-/
namespace Go.Proofs.YtkdcofmpbmiloaaGreatDoor
namespace Chain
open Go.RowKit Base Items Keep Own
set_option linter.unusedVariables false

def lenOf : Value → Nat | .slice _ n _ => n | _ => 0
theorem fw_at {f : Nat → Nat} {a : Nat} {l : List Nat} (h : Fw f a l) {k : Nat} (hk : k < l.length) : f (l.getD k 0) = (l.drop (k + 1)).headD 0 := by
  have e : l = l.take k ++ l[k] :: l.drop (k + 1) := by rw [← List.drop_eq_getElem_cons hk, List.take_append_drop]
  rw [e] at h
  have h1 := h.mid.head
  rw [List.getD_eq_getElem?_getD, List.getElem?_eq_getElem hk]
  exact h1
theorem items_step (ls : List Lnk) (order : List Nat) {k : Nat} (hk : k < order.length) : (itemsOf ls order).take (k + 1) = (itemsOf ls order).take k ++ [(lk ls (order.getD k 0)).val] := by
  have hk' : k < (itemsOf ls order).length := by simpa [itemsOf] using hk
  rw [List.take_succ_eq_append_getElem hk']
  simp [itemsOf, List.getD_eq_getElem?_getD, List.getElem?_eq_getElem hk]
theorem items_len (ls : List Lnk) (order : List Nat) : (itemsOf ls order).length = order.length := by simp [itemsOf]

set_option maxRecDepth 10000 in
set_option maxHeartbeats 2000000 in
theorem values_any (w : World) (hb : Nat) (h : Hd) (gl : Nat) (gf : Option Nat) (ls : List Lnk) (free order : List Nat) (cl : Nat) (vf : Value) (hm : Mem w hb h gl gf ls free cl vf) (hG : Good ls free order) (hlen : ls.length ≤ 1000) :
    Calls Tryz.prog 43 #[.pointer (some ⟨hb, 4, none⟩)] w fun e w' => ∃ a cap, e = .returned (.slice a order.length cap) ∧ w'.ownsRow w.heap.size 37 5 (.slice a order.length cap) order.length (flat (itemsOf ls order)) ∧ Below w.heap.size w w' := by
  have hol : order.length ≤ 1000 := by have := hG.len; omega
  have hpos : 0 < ls.length := by have := hG.len; omega
  obtain ⟨c0, c1, c2, c3, c4, c5, c6⟩ := hm.box.cells
  have i6 : w.cell? ⟨gl, 6, none⟩ = some (.int .i64 (lk ls 0).behind) := by
    have := hm.links.behind (p := 0) hpos
    rwa [Nat.zero_mul, Nat.zero_add] at this
  have e0 : (lk ls 0).behind = order.headD 0 := hG.fw.head
  rw [e0] at i6
  have HF : Hid (∀ k, k < order.length → (lk ls (order.getD k 0)).behind = (order.drop (k + 1)).headD 0) := fun k hk => fw_at hG.fw hk
  have HI : Hid (∀ k, k < order.length → 0 < order.getD k 0 ∧ order.getD k 0 < ls.length) := fun k hk => by
    rw [List.getD_eq_getElem?_getD, List.getElem?_eq_getElem hk]
    exact hG.inO _ (List.getElem_mem _)
  have HM := hide hm
  clear hm hG c0 c1 c2 c3 c5 c6 e0
  obtain ⟨i0, hi, hz0, hz1, hz2⟩ := Store.info_ex
  have HI0 := hide hi
  have HZ0 := hide hz0
  have HZ1 := hide hz1
  have HZ2 := hide hz2
  clear hi hz0 hz1 hz2
  go_enter Tryz.func43, Tryz.ntmps43
  go_wp2
  go_loopw [3, 4] (fun v at_ wr => ∃ (k p : Nat), k ≤ order.length ∧ at_ = .int .i64 (p : Nat) ∧ Hid (p = (order.drop k).headD 0) ∧ Hid (wr.ownsRow w.heap.size 37 5 v k (flat ((itemsOf ls order).take k))) ∧ Hid (Below w.heap.size w wr)) (fun v _ _ => order.length - lenOf v)
  case atStart => exact ⟨0, _, Nat.zero_le _, rfl, hide (by cases order <;> rfl), hide (World.ownsRow_nil _ _ _ _), hide (Below.refl _ _)⟩
  case round =>
    obtain ⟨k, p, hk, rfl, hp, hown, hbel⟩ := hrel
    have HMr := hide ((unhide HM).keep (Keeps.of_below (S := []) (unhide hbel) (fun _ h1 _ => h1)) (by simp) (by simp) (by simp))
    obtain ⟨va, vc, hv⟩ := own_form (unhide hown)
    subst hv
    by_cases hlt : k < order.length
    · have hp1 : Hid (p = order.getD k 0) := by
        show p = _
        rw [unhide hp, List.drop_eq_getElem_cons hlt, List.getD_eq_getElem?_getD, List.getElem?_eq_getElem hlt]
        rfl
      have hpos' := unhide HI k hlt
      rw [← unhide hp1] at hpos'
      have hst := hide (items_step ls order hlt)
      have hnx := hide (unhide HF k hlt)
      rw [← unhide hp1] at hst hnx
      have hil := hide (items_len ls order)
      obtain ⟨hp0, hpl⟩ := hpos'
      have hpi : (p : Int) < ls.length := by omega
      have hp0' : ¬ (p : Int) = 0 := by omega
      obtain ⟨c0, c1, c2, c3, d4, c5, c6⟩ := (unhide HMr).box.cells
      obtain ⟨i0', i1, i2, i3, i4⟩ := (unhide HMr).links.item hpl
      have j6 := (unhide HMr).links.behind hpl
      clear c0 c1 c2 c3 c5 c6 hp1 hp
      have hltr := (unhide HMr).box.lt
      have hgtr := Row.lt (unhide HMr).links
      generalize (lk ls p).val = x at i0' i1 i2 i3 i4 hst
      rw [unhide hnx] at j6
      go_wp2_with (at_builtin; go_loud (refine wpList_append_own _ rfl _ _ 23 rfl w.heap.size 37 i0 _ 5 56 Tryz.underlying23 (unhide HI0) (unhide HZ0) (unhide HZ1) (unhide HZ2) rfl (by decide) _ _ _ rfl ((unhide hown).alloc _) ⟨wr.heap.size, 0, none⟩ 1 1 (cellsOf x) rfl rfl (news_cells wr x _) (news_one x) (by unfold maxLen; omega) (by omega) (by have := (unhide hbel).size; simp; omega) ?_))
      intro v' w2 hown' hgrow _
      have B2 := hide ((((unhide hbel).alloc (unhide hbel).size _).grown hgrow (by have := (unhide hbel).size; simp; omega) (fun j e => own_block (unhide hown) j e)))
      have O2 : Hid (w2.ownsRow w.heap.size 37 5 v' (k + 1) (flat ((itemsOf ls order).take (k + 1)))) := by
        show w2.ownsRow _ _ _ _ _ _
        rw [unhide hst, flat_append, flat_one]
        exact hown'
      clear hown' hgrow d4 i0' i1 i2 i3 i4 j6
      have HM2 := hide ((unhide HM).keep (Keeps.of_below (S := []) (unhide B2) (fun _ h1 _ => h1)) (by simp) (by simp) (by simp))
      obtain ⟨c0, c1, c2, c3, d4, c5, c6⟩ := (unhide HM2).box.cells
      have j6 := (unhide HM2).links.behind hpl
      rw [unhide hnx] at j6
      obtain ⟨va', vc', hv'⟩ := own_form (unhide O2)
      subst hv'
      clear c0 c1 c2 c3 c5 c6 HM2 HMr hnx
      generalize hq : (order.drop (k + 1)).headD 0 = q at j6
      go_wp2
      go_roundw
      case rel => exact ⟨k + 1, q, by omega, rfl, hide hq.symm, O2, B2⟩
      case measure => simp [lenOf]; omega
    · have hk' : k = order.length := by omega
      subst hk'
      have hp0 : p = 0 := by
        have := unhide hp
        rw [List.drop_eq_nil_of_le (Nat.le_refl _)] at this
        exact this
      subst hp0
      have et : (itemsOf ls order).take order.length = itemsOf ls order := List.take_of_length_le (by simp [itemsOf])
      rw [et] at hown
      go_wp2
      go_ret
      exact ⟨va, vc, rfl, unhide hown, unhide hbel⟩
end Chain
end Go.Proofs.YtkdcofmpbmiloaaGreatDoor
