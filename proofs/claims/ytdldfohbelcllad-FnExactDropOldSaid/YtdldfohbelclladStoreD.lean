/-
  Contracts of the model's l2Drop and DropOld, by a plain function of the items, for every store whose items lie in memory.
-/
import Derived.Test.YtdldfohbelclladStoreF
import Derived.Test.YtdldfohbelclladOwnItems
import Derived.Laws.AppendOwn
namespace Go.Proofs.Ytdldfohbelcllad
namespace Store
open Go.RowKit Base GoodKey Items Own
set_option linter.unusedVariables false

def keepB (its : List Itm) (now : Int) : List Itm := its.filter (fun x => !oldB x now)
theorem keep_step (its : List Itm) (now : Int) (k : Nat) (h : k < its.length) : keepB (its.take (k + 1)) now = keepB (its.take k) now ++ (if oldB (its.getD k zero) now = true then [] else [its.getD k zero]) := by
  unfold keepB
  rw [List.take_succ_eq_append_getElem h, List.filter_append]
  congr 1
  rw [List.getD_eq_getElem?_getD, List.getElem?_eq_getElem h]
  simp only [Option.getD_some]
  cases e : oldB its[k] now <;> simp [e]
theorem keep_len (its : List Itm) (now : Int) (k : Nat) : (keepB (its.take k) now).length ≤ k := by
  unfold keepB
  exact Nat.le_trans (List.length_filter_le _ _) (List.length_take_le _ _)

theorem info_ex : ∃ i : TypeInfo, Try.prog.info? 39 = some i ∧ i.zero = some (.agg #[.string ByteArray.empty, .int .i64 0, .string ByteArray.empty, .int .i64 0, .int .i64 0]) ∧ i.size = 5 ∧ i.bytes = 56 := by
  have h : (Try.prog.info? 39).map (fun i => (i.zero, i.size, i.bytes)) = some (some (.agg #[.string ByteArray.empty, .int .i64 0, .string ByteArray.empty, .int .i64 0, .int .i64 0]), 5, 56) := by kernel_rfl
  obtain ⟨i, hi, hz⟩ := Option.map_eq_some_iff.1 h
  simp only [Prod.mk.injEq] at hz
  exact ⟨i, hi, hz.1, hz.2.1, hz.2.2⟩

set_option maxHeartbeats 2000000 in
theorem drop_some (lim nx : Int) (b off cap : Nat) (its : List Itm) (now : Int) (w : World) (hb : b < w.heap.size) (hc : ∀ i, i < its.length → At w b (off + i * 5) (its.getD i zero)) (hl : its.length ≤ 1048576) :
    Calls Try.prog 26 #[.agg #[.int .i64 lim, .int .i64 nx, .slice (some ⟨b, off, none⟩) its.length cap], .int .i64 now] w fun e w' =>
      ∃ a cap', e = .returned (.tuple #[.agg #[.int .i64 lim, .int .i64 nx, .slice a (keepB its now).length cap'], .int .i64 (its.length - (keepB its now).length)]) ∧
        w'.ownsRow w.heap.size 39 5 (.slice a (keepB its now).length cap') (keepB its now).length (flat (keepB its now)) ∧ Below w.heap.size w w' := by
  obtain ⟨i0, hi, hz0, hz1, hz2⟩ := info_ex
  have hcs := hide hc
  have HI := hide hi
  have HZ0 := hide hz0
  have HZ1 := hide hz1
  have HZ2 := hide hz2
  clear hc hi hz0 hz1 hz2
  go_enter Try.func26, Try.ntmps26
  go_wp2
  go_loopw [6, 13] (fun v iv wr => ∃ (k : Nat), k ≤ its.length ∧ iv = .int .i64 k ∧ Hid (wr.ownsRow (w.heap.size + 2) 39 5 v (keepB (its.take k) now).length (flat (keepB (its.take k) now))) ∧
      Hid (Below (w.heap.size + 2) ((w.alloc (.cells #[.int .i64 lim, .int .i64 nx, .slice (some ⟨b, off, none⟩) its.length cap] 30)).alloc (.cells #[.int .i64 0, .int .i64 0, .slice none 0 0] 30)) wr)) (fun _ iv _ => its.length - (intOf iv).toNat)
  case atStart => exact ⟨0, Nat.zero_le _, rfl, hide (World.ownsRow_nil _ _ _ _), hide (Below.refl _ _)⟩
  case round =>
    obtain ⟨k, hk, rfl, hown, hbel⟩ := hrel
    have hB : Hid (Below w.heap.size w wr) := (bel2 w _ _).trans ((unhide hbel).mono (by omega))
    have hzw : w.heap.size + 2 ≤ wr.heap.size := by have := (unhide hbel).size; simp at this; omega
    by_cases hlt : k < its.length
    · obtain ⟨c0, c1, c2, c3, c4⟩ := (unhide hcs k hlt).below (unhide hB) hb
      have hst := hide (keep_step its now k hlt)
      have hkl := keep_len its now k
      generalize its.getD k zero = x at c0 c1 c2 c3 c4 hst
      have hold := fun w => l2Old_any x now w
      generalize keepB (its.take k) now = kept at hown hst hkl
      cases g4 : oldB x now
      · rw [g4] at hst hold
        have HO := hide hold
        clear hold g4
        go_wp2_with fail
        refine (unhide HO _).mono ?_
        rintro e w1 ⟨rfl, hb1⟩
        simp only [World.size_alloc] at hb1
        have hx1 := boxcell hb1
        have hz1 : wr.heap.size < w1.heap.size := by have := hb1.size; simp at this; omega
        have B1 := hide (((unhide hbel).alloc hzw _).trans (hb1.mono (by omega)))
        have O1 := hide (own_below (unhide hown) ((bel1 wr _).trans (hb1.mono (by omega))) (Nat.le_refl _))
        clear hb1
        go_wp2_with (at_builtin; go_loud (refine wpList_append_own _ rfl _ _ 28 rfl (w.heap.size + 2) 39 i0 _ 5 56 Try.underlying28 (unhide HI) (unhide HZ0) (unhide HZ1) (unhide HZ2) rfl (by decide) _ _ _ rfl ((unhide O1).alloc _) ⟨w1.heap.size, 0, none⟩ 1 1 (cellsOf x) rfl rfl ?c1 ?c2 ?c3 ?c4 ?c5 ?_))
        case c1 => exact news_cells w1 x _
        case c2 => exact news_one x
        case c3 => unfold maxLen; omega
        case c4 => omega
        case c5 => simp; omega
        intro v' w2 hown' hgrow _
        have O2 : Hid (w2.ownsRow (w.heap.size + 2) 39 5 v' (keepB (its.take (k + 1)) now).length (flat (keepB (its.take (k + 1)) now))) := own_snoc hown' (by rw [unhide hst]; rfl)
        have B2 := hide (((unhide B1).alloc (by omega) _).grown hgrow (by simp; omega) (own_block (unhide O1)))
        clear hown' hgrow hx1
        go_wp2
        go_roundw
        case rel => exact ⟨k + 1, by omega, by go_num, O2, B2⟩
        case measure => simp [intOf]; omega
      · rw [g4] at hst hold
        have HO := hide hold
        have O2 : Hid (keepB (its.take (k + 1)) now = kept) := by show keepB (its.take (k + 1)) now = kept; rw [unhide hst]; simp
        clear hold g4
        go_wp2_with fail
        refine (unhide HO _).mono ?_
        rintro e w1 ⟨rfl, hb1⟩
        simp only [World.size_alloc] at hb1
        have B1 := hide (((unhide hbel).alloc hzw _).trans (hb1.mono (by omega)))
        have O1 := hide (own_below (unhide hown) ((bel1 wr _).trans (hb1.mono (by omega))) (Nat.le_refl _))
        clear hb1
        go_wp2
        go_roundw
        case rel => exact ⟨k + 1, by omega, by go_num, hide (by rw [unhide O2]; exact unhide O1), B1⟩
        case measure => simp [intOf]; omega
    · obtain rfl : k = its.length := by omega
      have et : its.take its.length = its := List.take_length
      rw [et] at hown
      have hkl := keep_len its now its.length
      rw [et] at hkl
      clear et
      obtain ⟨va, vc, hv⟩ := own_form (unhide hown)
      rw [hv] at hown ⊢
      clear hv
      have hs0 := fun o => (unhide hbel).cell (p := ⟨w.heap.size, o, none⟩) (by simp)
      have hs1 := fun o => (unhide hbel).cell (p := ⟨w.heap.size + 1, o, none⟩) (by simp)
      have hf0 := fun o => (unhide hbel).frozen (p := ⟨w.heap.size, o, none⟩) (by simp)
      have hf1 := fun o => (unhide hbel).frozen (p := ⟨w.heap.size + 1, o, none⟩) (by simp)
      go_wp2
      refine bodyPost_ret (v := .tuple #[.agg #[.int .i64 lim, .int .i64 nx, .slice va (keepB its now).length vc], .int .i64 (its.length - (keepB its now).length)]) (by simp [results, Try.results26, go_sem, hs1]) rfl ⟨va, vc, rfl, ?_, ?_⟩
      · refine own_le (base := w.heap.size + 2) ?_ (by omega)
        repeat (refine ownsRow_setCell_below ?_ (by first | (simp; done) | (simp; omega)) _)
        exact unhide hown
      · repeat (refine Below.setCell ?_ (by first | (simp; done) | (simp; omega)) _)
        exact unhide hB

/-- What DropOld hands back: the store's fields, how many went, whether. -/
structure Dropped where
  lim : Int
  nx : Int
  its : List Itm
  many : Int
  ok : Bool
def dropR (lim nx : Int) (its : List Itm) (now : Int) : Dropped :=
  if gsB lim nx its = true then if inB now 0 1000000000 = true then ⟨lim, nx, keepB its now, its.length - (keepB its now).length, true⟩ else ⟨0, 0, [], 0, false⟩ else ⟨0, 0, [], 0, false⟩
theorem dropR_len (lim nx : Int) (its : List Itm) (now : Int) : (dropR lim nx its now).its.length ≤ its.length := by
  unfold dropR
  split
  · split
    · exact List.length_filter_le _ _
    · exact Nat.zero_le _
  · exact Nat.zero_le _
/-- The ending of DropOld, and what it leaves in memory. -/
def DropEnd (T : Dropped) (w : World) (e : Ending) (w' : World) : Prop :=
  ∃ a cap r, e = .returned (.tuple #[.agg #[.int .i64 T.lim, .int .i64 T.nx, .slice a T.its.length cap], .int .i64 T.many, .bool T.ok]) ∧ Marks.Ours w' a T.its.length (icell T.its) r ∧ (∀ g, r = some g → w.heap.size ≤ g) ∧ Below w.heap.size w w'

set_option maxHeartbeats 2000000 in
theorem dropOld_some (lim nx : Int) (b off cap : Nat) (its : List Itm) (now : Int) (w : World) (hb : b < w.heap.size) (hc : ∀ i, i < its.length → At w b (off + i * 5) (its.getD i zero)) (hl : its.length ≤ 1048576) (hcap : its.length ≤ cap) (hs : ∀ x ∈ its, Fits x) :
    Calls Try.prog 11 #[.agg #[.int .i64 lim, .int .i64 nx, .slice (some ⟨b, off, none⟩) its.length cap], .int .i64 now] w (DropEnd (dropR lim nx its now) w) := by
  have hgood := fun w' (hb' : Below w.heap.size w w') => spec_some lim nx b off cap its w' (Nat.lt_of_lt_of_le hb hb'.size) (fun i hi => (hc i hi).below hb' hb) (by unfold maxLen; omega) hcap hs
  have hdrop := fun w' (hb' : Below w.heap.size w w') => drop_some lim nx b off cap its now w' (Nat.lt_of_lt_of_le hb hb'.size) (fun i hi => (hc i hi).below hb' hb) hl
  have HD := hide hdrop
  clear hc hs hdrop
  have hno : ∀ (w1 : World), Below w.heap.size w w1 → dropR lim nx its now = ⟨0, 0, [], 0, false⟩ → DropEnd (dropR lim nx its now) w (.returned (.tuple #[.agg #[.int .i64 0, .int .i64 0, .slice none 0 0], .int .i64 0, .bool false])) w1 := by
    intro w1 hb1 e
    rw [e]
    exact ⟨none, 0, none, rfl, .inl ⟨rfl, rfl⟩, fun g h => by simp at h, hb1⟩
  have HNO := hide hno
  clear hno
  cases g1 : gsB lim nx its
  · have H : Hid (dropR lim nx its now = ⟨0, 0, [], 0, false⟩) := by show dropR lim nx its now = _; simp [dropR, g1]
    rw [g1] at hgood
    have HG := hide hgood
    clear hgood g1
    go_enter Try.func11, Try.ntmps11
    go_wp2_with fail
    refine (unhide HG _ (bel2 w _ _)).mono ?_
    rintro e w1 ⟨rfl, hb1⟩
    simp only [World.size_alloc] at hb1
    have hB1 := hide ((bel2 w _ _).trans (hb1.mono (by omega)))
    have hr := fun o => hb1.cell (p := ⟨w.heap.size + 1, o, none⟩) (by simp)
    have hrf := fun o => hb1.frozen (p := ⟨w.heap.size + 1, o, none⟩) (by simp)
    clear hb1
    go_wp2
    refine bodyPost_ret (v := .tuple #[.agg #[.int .i64 0, .int .i64 0, .slice none 0 0], .int .i64 0, .bool false]) (by simp [results, Try.results11, go_sem, hr]) rfl (unhide HNO _ ?_ (unhide H))
    repeat (refine Below.setCell ?_ (by first | (simp; done) | (simp; omega)) _)
    exact unhide hB1
  rw [g1] at hgood
  have HG := hide hgood
  clear hgood
  cases g2 : inB now 0 1000000000
  · have H : Hid (dropR lim nx its now = ⟨0, 0, [], 0, false⟩) := by show dropR lim nx its now = _; simp [dropR, g1, g2]
    clear g1
    go_enter Try.func11, Try.ntmps11
    go_wp2_with fail
    refine (unhide HG _ (bel2 w _ _)).mono ?_
    rintro e w1 ⟨rfl, hb1⟩
    simp only [World.size_alloc] at hb1
    have hB1 := hide ((bel2 w _ _).trans (hb1.mono (by omega)))
    have hr := fun o => hb1.cell (p := ⟨w.heap.size + 1, o, none⟩) (by simp)
    have hrf := fun o => hb1.frozen (p := ⟨w.heap.size + 1, o, none⟩) (by simp)
    clear hb1
    go_wp2_with (go_at_call 25; refine (l2Now_any _ _).mono ?_; rintro e w2 ⟨rfl, rfl⟩)
    refine bodyPost_ret (v := .tuple #[.agg #[.int .i64 0, .int .i64 0, .slice none 0 0], .int .i64 0, .bool false]) (by simp [results, Try.results11, go_sem, hr]) rfl (unhide HNO _ ?_ (unhide H))
    repeat (refine Below.setCell ?_ (by first | (simp; done) | (simp; omega)) _)
    exact unhide hB1
  have H : Hid (dropR lim nx its now = ⟨lim, nx, keepB its now, its.length - (keepB its now).length, true⟩) := by show dropR lim nx its now = _; simp only [dropR, g1, g2, if_true]
  clear g1
  go_enter Try.func11, Try.ntmps11
  go_wp2_with fail
  refine (unhide HG _ (bel2 w _ _)).mono ?_
  rintro e w1 ⟨rfl, hb1⟩
  simp only [World.size_alloc] at hb1
  have hB1 := hide ((bel2 w _ _).trans (hb1.mono (by omega)))
  have hr := fun o => hb1.cell (p := ⟨w.heap.size + 1, o, none⟩) (by simp)
  have hrf := fun o => hb1.frozen (p := ⟨w.heap.size + 1, o, none⟩) (by simp)
  have hs0 := fun o => hb1.cell (p := ⟨w.heap.size, o, none⟩) (by simp; omega)
  have hz1 : w.heap.size + 2 ≤ w1.heap.size := by have := hb1.size; simp at this; omega
  clear hb1
  go_wp2_with (go_at_call 25; refine (l2Now_any _ _).mono ?_; rintro e w2 ⟨rfl, rfl⟩)
  refine (unhide HD _ (unhide hB1)).mono ?_
  rintro e w2 ⟨a, cap2, rfl, hown, hb2⟩
  have hB2 := hide ((unhide hB1).trans (hb2.mono (by omega)))
  have hr2 := fun o => (hb2.cell (p := ⟨w.heap.size + 1, o, none⟩) (by simp; omega)).trans (hr o)
  have hrf2 := fun o => (hb2.frozen (p := ⟨w.heap.size + 1, o, none⟩) (by simp; omega)).trans (hrf o)
  have HO := hide (own_le hown hz1)
  have hz2 : w.heap.size + 1 < w2.heap.size := by have := hb2.size; omega
  clear hb2 hr hrf hown hs0
  generalize keepB its now = kp at H HO ⊢
  go_wp2
  refine bodyPost_ret (v := .tuple #[.agg #[.int .i64 lim, .int .i64 nx, .slice a kp.length cap2], .int .i64 (its.length - kp.length), .bool true]) (by simp [results, Try.results11, go_sem, hr2, hz2]) rfl ?_
  rw [unhide H]
  have own2 : ∀ (x y z : Value) (o : Obj), ((((w2.setCell ⟨w.heap.size + 1, 0, none⟩ x).setCell ⟨w.heap.size + 1, 1, none⟩ y).setCell ⟨w.heap.size + 1, 2, none⟩ z).alloc o).ownsRow (w.heap.size + 2) 39 5 (.slice a kp.length cap2) kp.length (flat kp) := fun x y z o =>
    (ownsRow_setCell_below (ownsRow_setCell_below (ownsRow_setCell_below (unhide HO) (show w.heap.size + 1 < w.heap.size + 2 by omega) x) (show w.heap.size + 1 < w.heap.size + 2 by omega) y) (show w.heap.size + 1 < w.heap.size + 2 by omega) z).alloc o
  obtain ⟨r, hou, hge⟩ := own_ours (own2 _ _ _ _)
  refine ⟨a, cap2, r, rfl, hou, fun g h => Nat.le_trans (by omega) (hge g h), ?_⟩
  refine Below.alloc ?_ (by simp [World.setCell]; omega) _
  repeat (refine Below.setCell ?_ (by first | (simp; done) | (simp; omega)) _)
  exact unhide hB2
end Store
end Go.Proofs.Ytdldfohbelcllad
