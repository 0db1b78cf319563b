/-
  The contract of the model's l2Drop, by a plain function of the items, for every store whose items lie in memory; what DropOld hands back.
-/
import Derived.Test.YtkodgbalhnbhcaaGreatDoorZ5
import Derived.Test.YtkodgbalhnbhcaaGreatDoorZ4
import Derived.Laws.AppendOwn
namespace Go.Proofs.YtkodgbalhnbhcaaGreatDoor
namespace Store
open Go.RowKit Base GoodKey Items Own
set_option linter.unusedVariables false

def keepB (its : List Itm) (now : Int) : List Itm := its.filter (fun x => !oldB x now)
theorem keep_step (its : List Itm) (now : Int) (k : Nat) (h : k < its.length) : keepB (its.take (k + 1)) now = keepB (its.take k) now ++ (if oldB (its.getD k zero) now = true then [] else [its.getD k zero]) := by
  unfold keepB
  rw [List.take_succ_eq_append_getElem h, List.filter_append]
  congr 1
  rw [List.getD_eq_getElem?_getD, List.getElem?_eq_getElem h]
  simp only [Option.getD_some]
  cases e : oldB its[k] now <;> simp [e]
theorem keep_len (its : List Itm) (now : Int) (k : Nat) : (keepB (its.take k) now).length ≤ k := by
  unfold keepB
  exact Nat.le_trans (List.length_filter_le _ _) (List.length_take_le _ _)

theorem info_ex : ∃ i : TypeInfo, Tryz.prog.info? 85 = some i ∧ i.zero = some (.agg #[.string ByteArray.empty, .int .i64 0, .string ByteArray.empty, .int .i64 0, .int .i64 0]) ∧ i.size = 5 ∧ i.bytes = 56 := by
  have h : (Tryz.prog.info? 85).map (fun i => (i.zero, i.size, i.bytes)) = some (some (.agg #[.string ByteArray.empty, .int .i64 0, .string ByteArray.empty, .int .i64 0, .int .i64 0]), 5, 56) := by kernel_rfl
  obtain ⟨i, hi, hz⟩ := Option.map_eq_some_iff.1 h
  simp only [Prod.mk.injEq] at hz
  exact ⟨i, hi, hz.1, hz.2.1, hz.2.2⟩

set_option maxRecDepth 10000 in
set_option maxHeartbeats 2000000 in
theorem drop_some (lim nx : Int) (b off cap : Nat) (its : List Itm) (now : Int) (w : World) (hb : b < w.heap.size) (hc : ∀ i, i < its.length → At w b (off + i * 5) (its.getD i zero)) (hl : its.length ≤ 1048576) :
    Calls Tryz.prog 117 #[.agg #[.int .i64 lim, .int .i64 nx, .slice (some ⟨b, off, none⟩) its.length cap], .int .i64 now] w fun e w' =>
      ∃ a cap', e = .returned (.tuple #[.agg #[.int .i64 lim, .int .i64 nx, .slice a (keepB its now).length cap'], .int .i64 (its.length - (keepB its now).length)]) ∧
        w'.ownsRow w.heap.size 85 5 (.slice a (keepB its now).length cap') (keepB its now).length (flat (keepB its now)) ∧ Below w.heap.size w w' := by
  obtain ⟨i0, hi, hz0, hz1, hz2⟩ := info_ex
  have hcs := hide hc
  have HI := hide hi
  have HZ0 := hide hz0
  have HZ1 := hide hz1
  have HZ2 := hide hz2
  clear hc hi hz0 hz1 hz2
  go_enter Tryz.func117, Tryz.ntmps117
  go_wp2
  go_loopw [6, 13] (fun v iv wr => ∃ (k : Nat), k ≤ its.length ∧ iv = .int .i64 k ∧ Hid (wr.ownsRow (w.heap.size + 2) 85 5 v (keepB (its.take k) now).length (flat (keepB (its.take k) now))) ∧
      Hid (Below (w.heap.size + 2) ((w.alloc (.cells #[.int .i64 lim, .int .i64 nx, .slice (some ⟨b, off, none⟩) its.length cap] 57)).alloc (.cells #[.int .i64 0, .int .i64 0, .slice none 0 0] 57)) wr)) (fun _ iv _ => its.length - (intOf iv).toNat)
  case atStart => exact ⟨0, Nat.zero_le _, rfl, hide (World.ownsRow_nil _ _ _ _), hide (Below.refl _ _)⟩
  case round =>
    obtain ⟨k, hk, rfl, hown, hbel⟩ := hrel
    have hB : Hid (Below w.heap.size w wr) := (bel2 w _ _).trans ((unhide hbel).mono (by omega))
    have hzw : w.heap.size + 2 ≤ wr.heap.size := by have := (unhide hbel).size; simp at this; omega
    by_cases hlt : k < its.length
    · obtain ⟨c0, c1, c2, c3, c4⟩ := (unhide hcs k hlt).below (unhide hB) hb
      have hst := hide (keep_step its now k hlt)
      have hkl := keep_len its now k
      generalize its.getD k zero = x at c0 c1 c2 c3 c4 hst
      have hold := fun w => l2Old_any x now w
      generalize keepB (its.take k) now = kept at hown hst hkl
      cases g4 : oldB x now
      · rw [g4] at hst hold
        have HO := hide hold
        clear hold g4
        go_wp2_with fail
        refine (unhide HO _).mono ?_
        rintro e w1 ⟨rfl, hb1⟩
        simp only [World.size_alloc] at hb1
        have hx1 := boxcell hb1
        have hz1 : wr.heap.size < w1.heap.size := by have := hb1.size; simp at this; omega
        have B1 := hide (((unhide hbel).alloc hzw _).trans (hb1.mono (by omega)))
        have O1 := hide (own_below (unhide hown) ((bel1 wr _).trans (hb1.mono (by omega))) (Nat.le_refl _))
        clear hb1
        go_wp2_with (at_builtin; go_loud (refine wpList_append_own _ rfl _ _ 55 rfl (w.heap.size + 2) 85 i0 _ 5 56 Tryz.underlying55 (unhide HI) (unhide HZ0) (unhide HZ1) (unhide HZ2) rfl (by decide) _ _ _ rfl ((unhide O1).alloc _) ⟨w1.heap.size, 0, none⟩ 1 1 (cellsOf x) rfl rfl ?c1 ?c2 ?c3 ?c4 ?c5 ?_))
        case c1 => exact news_cells w1 x _
        case c2 => exact news_one x
        case c3 => unfold maxLen; omega
        case c4 => omega
        case c5 => simp; omega
        intro v' w2 hown' hgrow _
        have O2 : Hid (w2.ownsRow (w.heap.size + 2) 85 5 v' (keepB (its.take (k + 1)) now).length (flat (keepB (its.take (k + 1)) now))) := own_snoc hown' (by rw [unhide hst]; rfl)
        have B2 := hide (((unhide B1).alloc (by omega) _).grown hgrow (by simp; omega) (own_block (unhide O1)))
        clear hown' hgrow hx1
        go_wp2
        go_roundw
        case rel => exact ⟨k + 1, by omega, by go_num, O2, B2⟩
        case measure => simp [intOf]; omega
      · rw [g4] at hst hold
        have HO := hide hold
        have O2 : Hid (keepB (its.take (k + 1)) now = kept) := by show keepB (its.take (k + 1)) now = kept; rw [unhide hst]; simp
        clear hold g4
        go_wp2_with fail
        refine (unhide HO _).mono ?_
        rintro e w1 ⟨rfl, hb1⟩
        simp only [World.size_alloc] at hb1
        have B1 := hide (((unhide hbel).alloc hzw _).trans (hb1.mono (by omega)))
        have O1 := hide (own_below (unhide hown) ((bel1 wr _).trans (hb1.mono (by omega))) (Nat.le_refl _))
        clear hb1
        go_wp2
        go_roundw
        case rel => exact ⟨k + 1, by omega, by go_num, hide (by rw [unhide O2]; exact unhide O1), B1⟩
        case measure => simp [intOf]; omega
    · obtain rfl : k = its.length := by omega
      have et : its.take its.length = its := List.take_length
      rw [et] at hown
      have hkl := keep_len its now its.length
      rw [et] at hkl
      clear et
      obtain ⟨va, vc, hv⟩ := own_form (unhide hown)
      rw [hv] at hown ⊢
      clear hv
      have hs0 := fun o => (unhide hbel).cell (p := ⟨w.heap.size, o, none⟩) (by simp)
      have hs1 := fun o => (unhide hbel).cell (p := ⟨w.heap.size + 1, o, none⟩) (by simp)
      have hf0 := fun o => (unhide hbel).frozen (p := ⟨w.heap.size, o, none⟩) (by simp)
      have hf1 := fun o => (unhide hbel).frozen (p := ⟨w.heap.size + 1, o, none⟩) (by simp)
      go_wp2
      refine bodyPost_ret (v := .tuple #[.agg #[.int .i64 lim, .int .i64 nx, .slice va (keepB its now).length vc], .int .i64 (its.length - (keepB its now).length)]) (by simp [results, Tryz.results117, go_sem, hs1]) rfl ⟨va, vc, rfl, ?_, ?_⟩
      · refine own_le (base := w.heap.size + 2) ?_ (by omega)
        repeat (refine ownsRow_setCell_below ?_ (by first | (simp; done) | (simp; omega)) _)
        exact unhide hown
      · repeat (refine Below.setCell ?_ (by first | (simp; done) | (simp; omega)) _)
        exact unhide hB

/-- What DropOld hands back: the store's fields, how many went, whether. -/
structure Dropped where
  lim : Int
  nx : Int
  its : List Itm
  many : Int
  ok : Bool
def dropR (lim nx : Int) (its : List Itm) (now : Int) : Dropped :=
  if gsB lim nx its = true then if inB now 0 1000000000 = true then ⟨lim, nx, keepB its now, its.length - (keepB its now).length, true⟩ else ⟨0, 0, [], 0, false⟩ else ⟨0, 0, [], 0, false⟩
theorem dropR_len (lim nx : Int) (its : List Itm) (now : Int) : (dropR lim nx its now).its.length ≤ its.length := by
  unfold dropR
  split
  · split
    · exact List.length_filter_le _ _
    · exact Nat.zero_le _
  · exact Nat.zero_le _
/-- The ending of DropOld, and what it leaves in memory. -/
def DropEnd (T : Dropped) (w : World) (e : Ending) (w' : World) : Prop :=
  ∃ a cap r, e = .returned (.tuple #[.agg #[.int .i64 T.lim, .int .i64 T.nx, .slice a T.its.length cap], .int .i64 T.many, .bool T.ok]) ∧ Marks.Ours w' a T.its.length (icell T.its) r ∧ (∀ g, r = some g → w.heap.size ≤ g) ∧ Below w.heap.size w w'

end Store
end Go.Proofs.YtkodgbalhnbhcaaGreatDoor
/-
  The program's list of links: values, newChain.
-/
namespace Go.Proofs.YtkodgbalhnbhcaaGreatDoor
namespace Chain
open Go.RowKit Base Items Keep Own
set_option linter.unusedVariables false

def lenOf : Value → Nat | .slice _ n _ => n | _ => 0
theorem fw_at {f : Nat → Nat} {a : Nat} {l : List Nat} (h : Fw f a l) {k : Nat} (hk : k < l.length) : f (l.getD k 0) = (l.drop (k + 1)).headD 0 := by
  have e : l = l.take k ++ l[k] :: l.drop (k + 1) := by rw [← List.drop_eq_getElem_cons hk, List.take_append_drop]
  rw [e] at h
  have h1 := h.mid.head
  rw [List.getD_eq_getElem?_getD, List.getElem?_eq_getElem hk]
  exact h1
theorem items_step (ls : List Lnk) (order : List Nat) {k : Nat} (hk : k < order.length) : (itemsOf ls order).take (k + 1) = (itemsOf ls order).take k ++ [(lk ls (order.getD k 0)).val] := by
  have hk' : k < (itemsOf ls order).length := by simpa [itemsOf] using hk
  rw [List.take_succ_eq_append_getElem hk']
  simp [itemsOf, List.getD_eq_getElem?_getD, List.getElem?_eq_getElem hk]
theorem items_len (ls : List Lnk) (order : List Nat) : (itemsOf ls order).length = order.length := by simp [itemsOf]

set_option maxRecDepth 10000 in
set_option maxHeartbeats 2000000 in
theorem values_any (w : World) (hb : Nat) (h : Hd) (gl : Nat) (gf : Option Nat) (ls : List Lnk) (free order : List Nat) (cl : Nat) (vf : Value) (hm : Mem w hb h gl gf ls free cl vf) (hG : Good ls free order) (hlen : ls.length ≤ 1000) :
    Calls Tryz.prog 145 #[.pointer (some ⟨hb, 4, none⟩)] w fun e w' => ∃ a cap, e = .returned (.slice a order.length cap) ∧ w'.ownsRow w.heap.size 85 5 (.slice a order.length cap) order.length (flat (itemsOf ls order)) ∧ Below w.heap.size w w' := by
  have hol : order.length ≤ 1000 := by have := hG.len; omega
  have hpos : 0 < ls.length := by have := hG.len; omega
  obtain ⟨c0, c1, c2, c3, c4, c5, c6⟩ := hm.box.cells
  have i6 : w.cell? ⟨gl, 6, none⟩ = some (.int .i64 (lk ls 0).behind) := by
    have := hm.links.behind (p := 0) hpos
    rwa [Nat.zero_mul, Nat.zero_add] at this
  have e0 : (lk ls 0).behind = order.headD 0 := hG.fw.head
  rw [e0] at i6
  have HF : Hid (∀ k, k < order.length → (lk ls (order.getD k 0)).behind = (order.drop (k + 1)).headD 0) := fun k hk => fw_at hG.fw hk
  have HI : Hid (∀ k, k < order.length → 0 < order.getD k 0 ∧ order.getD k 0 < ls.length) := fun k hk => by
    rw [List.getD_eq_getElem?_getD, List.getElem?_eq_getElem hk]
    exact hG.inO _ (List.getElem_mem _)
  have HM := hide hm
  clear hm hG c0 c1 c2 c3 c5 c6 e0
  obtain ⟨i0, hi, hz0, hz1, hz2⟩ := Store.info_ex
  have HI0 := hide hi
  have HZ0 := hide hz0
  have HZ1 := hide hz1
  have HZ2 := hide hz2
  clear hi hz0 hz1 hz2
  go_enter Tryz.func145, Tryz.ntmps145
  go_wp2
  go_loopw [3, 4] (fun v at_ wr => ∃ (k p : Nat), k ≤ order.length ∧ at_ = .int .i64 (p : Nat) ∧ Hid (p = (order.drop k).headD 0) ∧ Hid (wr.ownsRow w.heap.size 85 5 v k (flat ((itemsOf ls order).take k))) ∧ Hid (Below w.heap.size w wr)) (fun v _ _ => order.length - lenOf v)
  case atStart => exact ⟨0, _, Nat.zero_le _, rfl, hide (by cases order <;> rfl), hide (World.ownsRow_nil _ _ _ _), hide (Below.refl _ _)⟩
  case round =>
    obtain ⟨k, p, hk, rfl, hp, hown, hbel⟩ := hrel
    have HMr := hide ((unhide HM).keep (Keeps.of_below (S := []) (unhide hbel) (fun _ h1 _ => h1)) (by simp) (by simp) (by simp))
    obtain ⟨va, vc, hv⟩ := own_form (unhide hown)
    subst hv
    by_cases hlt : k < order.length
    · have hp1 : Hid (p = order.getD k 0) := by
        show p = _
        rw [unhide hp, List.drop_eq_getElem_cons hlt, List.getD_eq_getElem?_getD, List.getElem?_eq_getElem hlt]
        rfl
      have hpos' := unhide HI k hlt
      rw [← unhide hp1] at hpos'
      have hst := hide (items_step ls order hlt)
      have hnx := hide (unhide HF k hlt)
      rw [← unhide hp1] at hst hnx
      have hil := hide (items_len ls order)
      obtain ⟨hp0, hpl⟩ := hpos'
      have hpi : (p : Int) < ls.length := by omega
      have hp0' : ¬ (p : Int) = 0 := by omega
      obtain ⟨c0, c1, c2, c3, d4, c5, c6⟩ := (unhide HMr).box.cells
      obtain ⟨i0', i1, i2, i3, i4⟩ := (unhide HMr).links.item hpl
      have j6 := (unhide HMr).links.behind hpl
      clear c0 c1 c2 c3 c5 c6 hp1 hp
      have hltr := (unhide HMr).box.lt
      have hgtr := Row.lt (unhide HMr).links
      generalize (lk ls p).val = x at i0' i1 i2 i3 i4 hst
      rw [unhide hnx] at j6
      go_wp2_with (at_builtin; go_loud (refine wpList_append_own _ rfl _ _ 55 rfl w.heap.size 85 i0 _ 5 56 Tryz.underlying55 (unhide HI0) (unhide HZ0) (unhide HZ1) (unhide HZ2) rfl (by decide) _ _ _ rfl ((unhide hown).alloc _) ⟨wr.heap.size, 0, none⟩ 1 1 (cellsOf x) rfl rfl (news_cells wr x _) (news_one x) (by unfold maxLen; omega) (by omega) (by have := (unhide hbel).size; simp; omega) ?_))
      intro v' w2 hown' hgrow _
      have B2 := hide ((((unhide hbel).alloc (unhide hbel).size _).grown hgrow (by have := (unhide hbel).size; simp; omega) (fun j e => own_block (unhide hown) j e)))
      have O2 : Hid (w2.ownsRow w.heap.size 85 5 v' (k + 1) (flat ((itemsOf ls order).take (k + 1)))) := by
        show w2.ownsRow _ _ _ _ _ _
        rw [unhide hst, flat_append, flat_one]
        exact hown'
      clear hown' hgrow d4 i0' i1 i2 i3 i4 j6
      have HM2 := hide ((unhide HM).keep (Keeps.of_below (S := []) (unhide B2) (fun _ h1 _ => h1)) (by simp) (by simp) (by simp))
      obtain ⟨c0, c1, c2, c3, d4, c5, c6⟩ := (unhide HM2).box.cells
      have j6 := (unhide HM2).links.behind hpl
      rw [unhide hnx] at j6
      obtain ⟨va', vc', hv'⟩ := own_form (unhide O2)
      subst hv'
      clear c0 c1 c2 c3 c5 c6 HM2 HMr hnx
      generalize hq : (order.drop (k + 1)).headD 0 = q at j6
      go_wp2
      go_roundw
      case rel => exact ⟨k + 1, q, by omega, rfl, hide hq.symm, O2, B2⟩
      case measure => simp [lenOf]; omega
    · have hk' : k = order.length := by omega
      subst hk'
      have hp0 : p = 0 := by
        have := unhide hp
        rw [List.drop_eq_nil_of_le (Nat.le_refl _)] at this
        exact this
      subst hp0
      have et : (itemsOf ls order).take order.length = itemsOf ls order := List.take_of_length_le (by simp [itemsOf])
      rw [et] at hown
      go_wp2
      go_ret
      exact ⟨va, vc, rfl, unhide hown, unhide hbel⟩
end Chain
end Go.Proofs.YtkodgbalhnbhcaaGreatDoor
/-
  The contract of the program's GoodKey: it answers by the same plain function of the bytes as the model's, for every string.
-/
namespace Go.Proofs.YtkodgbalhnbhcaaGreatDoor
namespace GoodKey
open Go.RowKit Base
set_option linter.unusedVariables false

set_option maxHeartbeats 400000 in
theorem impl_any (s : ByteArray) (w : World) (hs : s.size ≤ maxLen) :
    Calls Tryz.prog 70 #[.string s] w fun e w' => e = .returned (.bool (gk s.data.toList)) ∧ w' = w := by
  unfold maxLen at hs
  by_cases g1 : (s.size : Int) < 1
  · have H := hide (gk_len s (.inl g1))
    go_enter Tryz.func70, Tryz.ntmps70
    go_wp2
    go_ret
    exact ⟨ret_bool (unhide H).symm, rfl⟩
  by_cases g2 : 30 < (s.size : Int)
  · have H := hide (gk_len s (.inr g2))
    go_enter Tryz.func70, Tryz.ntmps70
    go_wp2
    go_ret
    exact ⟨ret_bool (unhide H).symm, rfl⟩
  have HT := hide (inB_true s g1 g2)
  go_enter Tryz.func70, Tryz.ntmps70
  go_wp2
  go_loop [14] (fun i => ∃ k : Nat, k ≤ s.size ∧ i = .int .i64 k ∧ Hid ((s.data.toList.take k).all okb = true)) (fun i => s.size - (intOf i).toNat)
  case atStart => exact ⟨0, Nat.zero_le _, rfl, hide rfl⟩
  case round =>
    obtain ⟨k, hk, rfl, ha⟩ := hrel
    by_cases hlt : k < s.size
    · by_cases h1 : (s[k].toNat : Int) < 33
      · have H := hide (gk_bad s k hlt (.inl h1))
        go_wp2
        go_ret
        exact ⟨ret_bool (unhide H).symm, rfl⟩
      · by_cases h2 : 126 < (s[k].toNat : Int)
        · have H := hide (gk_bad s k hlt (.inr h2))
          go_wp2
          go_ret
          exact ⟨ret_bool (unhide H).symm, rfl⟩
        · have H := hide (all_snoc s k hlt (unhide ha) h1 h2)
          go_wp2
          go_round
          case rel => exact ⟨k + 1, by omega, by go_num, H⟩
          case measure => simp [intOf]; omega
    · have H := hide (gk_all s k hk hlt (unhide ha))
      go_wp2
      go_ret
      exact ⟨ret_bool (by rw [← unhide H]; exact (unhide HT).symm), rfl⟩

end GoodKey
end Go.Proofs.YtkodgbalhnbhcaaGreatDoor
/-
  The program's goodItem: what it answers, by the plain function.
-/
namespace Go.Proofs.YtkodgbalhnbhcaaGreatDoor
namespace Store
open Go.RowKit Base GoodKey Items
set_option linter.unusedVariables false

theorem itemB_iff (x : Itm) : itemB x = true ↔ gk x.key.data.toList = true ∧ 0 ≤ x.flags ∧ x.flags ≤ 1000000000 ∧ (x.data.size : Int) ≤ 100 ∧ 0 ≤ x.upto ∧ x.upto ≤ 2000000000 ∧ 1 ≤ x.token ∧ x.token ≤ 1000000000 := by
  simp only [itemB, inB, Bool.and_eq_true, decide_eq_true_eq]
  constructor
  · rintro ⟨⟨⟨⟨a, b, c⟩, d⟩, e, f⟩, g, h⟩
    exact ⟨a, b, c, d, e, f, g, h⟩
  · rintro ⟨a, b, c, d, e, f, g, h⟩
    exact ⟨⟨⟨⟨a, b, c⟩, d⟩, e, f⟩, g, h⟩
theorem item_no {x : Itm} (h : ¬ (gk x.key.data.toList = true ∧ 0 ≤ x.flags ∧ x.flags ≤ 1000000000 ∧ (x.data.size : Int) ≤ 100 ∧ 0 ≤ x.upto ∧ x.upto ≤ 2000000000 ∧ 1 ≤ x.token ∧ x.token ≤ 1000000000)) : false = itemB x := by
  cases e : itemB x
  · rfl
  · exact absurd ((itemB_iff x).1 e) h
theorem item_yes {x : Itm} (h : gk x.key.data.toList = true ∧ 0 ≤ x.flags ∧ x.flags ≤ 1000000000 ∧ (x.data.size : Int) ≤ 100 ∧ 0 ≤ x.upto ∧ x.upto ≤ 2000000000 ∧ 1 ≤ x.token) : decide (x.token ≤ 1000000000) = itemB x := by
  rw [Bool.eq_iff_iff, itemB_iff, decide_eq_true_eq]
  exact ⟨fun e => ⟨h.1, h.2.1, h.2.2.1, h.2.2.2.1, h.2.2.2.2.1, h.2.2.2.2.2.1, h.2.2.2.2.2.2, e⟩, fun e => e.2.2.2.2.2.2.2⟩

set_option maxRecDepth 10000 in
set_option maxHeartbeats 400000 in
theorem goodItem_any (x : Itm) (w : World) (hs : Fits x) : Calls Tryz.prog 136 #[.agg #[.string x.key, .int .i64 x.flags, .string x.data, .int .i64 x.upto, .int .i64 x.token]] w fun e w' => e = .returned (.bool (itemB x)) ∧ Below w.heap.size w w' := by
  obtain ⟨hk, hd⟩ := hs
  have HK := hide hk
  unfold maxLen at hk hd
  go_enter Tryz.func136, Tryz.ntmps136
  go_wp2_with (go_at_call 70; refine (GoodKey.impl_any _ _ (unhide HK)).mono ?_; rintro e w1 ⟨rfl, rfl⟩)
  all_goals
    go_ret
    refine ⟨ret_bool ?_, bel1 w _⟩
    first
      | exact item_no (fun hh => absurd hh.1 ‹_›)
      | exact item_no (fun hh => by omega)
      | exact item_yes ⟨‹_›, by omega, by omega, by omega, by omega, by omega, by omega⟩
end Store
end Go.Proofs.YtkodgbalhnbhcaaGreatDoor
