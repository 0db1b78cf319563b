/-
  The contract of the model's l2Drop, by a plain function of the items, for every store whose items lie in memory; what DropOld hands back.
-/
import Derived.Test.YthlcmnjaimffdaaStoreE
import Derived.Test.YthlcmnjaimffdaaOwnItems
import Derived.Laws.AppendOwn
namespace Go.Proofs.Ythlcmnjaimffdaa
namespace Store
open Go.RowKit Base GoodKey Items Own
set_option linter.unusedVariables false

def keepB (its : List Itm) (now : Int) : List Itm := its.filter (fun x => !oldB x now)
theorem keep_step (its : List Itm) (now : Int) (k : Nat) (h : k < its.length) : keepB (its.take (k + 1)) now = keepB (its.take k) now ++ (if oldB (its.getD k zero) now = true then [] else [its.getD k zero]) := by
  unfold keepB
  rw [List.take_succ_eq_append_getElem h, List.filter_append]
  congr 1
  rw [List.getD_eq_getElem?_getD, List.getElem?_eq_getElem h]
  simp only [Option.getD_some]
  cases e : oldB its[k] now <;> simp [e]
theorem keep_len (its : List Itm) (now : Int) (k : Nat) : (keepB (its.take k) now).length ≤ k := by
  unfold keepB
  exact Nat.le_trans (List.length_filter_le _ _) (List.length_take_le _ _)

theorem info_ex : ∃ i : TypeInfo, Try.prog.info? 40 = some i ∧ i.zero = some (.agg #[.string ByteArray.empty, .int .i64 0, .string ByteArray.empty, .int .i64 0, .int .i64 0]) ∧ i.size = 5 ∧ i.bytes = 56 := by
  have h : (Try.prog.info? 40).map (fun i => (i.zero, i.size, i.bytes)) = some (some (.agg #[.string ByteArray.empty, .int .i64 0, .string ByteArray.empty, .int .i64 0, .int .i64 0]), 5, 56) := by kernel_rfl
  obtain ⟨i, hi, hz⟩ := Option.map_eq_some_iff.1 h
  simp only [Prod.mk.injEq] at hz
  exact ⟨i, hi, hz.1, hz.2.1, hz.2.2⟩

set_option maxRecDepth 10000 in
set_option maxHeartbeats 2000000 in
theorem drop_some (lim nx : Int) (b off cap : Nat) (its : List Itm) (now : Int) (w : World) (hb : b < w.heap.size) (hc : ∀ i, i < its.length → At w b (off + i * 5) (its.getD i zero)) (hl : its.length ≤ 1048576) :
    Calls Try.prog 33 #[.agg #[.int .i64 lim, .int .i64 nx, .slice (some ⟨b, off, none⟩) its.length cap], .int .i64 now] w fun e w' =>
      ∃ a cap', e = .returned (.tuple #[.agg #[.int .i64 lim, .int .i64 nx, .slice a (keepB its now).length cap'], .int .i64 (its.length - (keepB its now).length)]) ∧
        w'.ownsRow w.heap.size 40 5 (.slice a (keepB its now).length cap') (keepB its now).length (flat (keepB its now)) ∧ Below w.heap.size w w' := by
  obtain ⟨i0, hi, hz0, hz1, hz2⟩ := info_ex
  have hcs := hide hc
  have HI := hide hi
  have HZ0 := hide hz0
  have HZ1 := hide hz1
  have HZ2 := hide hz2
  clear hc hi hz0 hz1 hz2
  go_enter Try.func33, Try.ntmps33
  go_wp2
  go_loopw [6, 13] (fun v iv wr => ∃ (k : Nat), k ≤ its.length ∧ iv = .int .i64 k ∧ Hid (wr.ownsRow (w.heap.size + 2) 40 5 v (keepB (its.take k) now).length (flat (keepB (its.take k) now))) ∧
      Hid (Below (w.heap.size + 2) ((w.alloc (.cells #[.int .i64 lim, .int .i64 nx, .slice (some ⟨b, off, none⟩) its.length cap] 29)).alloc (.cells #[.int .i64 0, .int .i64 0, .slice none 0 0] 29)) wr)) (fun _ iv _ => its.length - (intOf iv).toNat)
  case atStart => exact ⟨0, Nat.zero_le _, rfl, hide (World.ownsRow_nil _ _ _ _), hide (Below.refl _ _)⟩
  case round =>
    obtain ⟨k, hk, rfl, hown, hbel⟩ := hrel
    have hB : Hid (Below w.heap.size w wr) := (bel2 w _ _).trans ((unhide hbel).mono (by omega))
    have hzw : w.heap.size + 2 ≤ wr.heap.size := by have := (unhide hbel).size; simp at this; omega
    by_cases hlt : k < its.length
    · obtain ⟨c0, c1, c2, c3, c4⟩ := (unhide hcs k hlt).below (unhide hB) hb
      have hst := hide (keep_step its now k hlt)
      have hkl := keep_len its now k
      generalize its.getD k zero = x at c0 c1 c2 c3 c4 hst
      have hold := fun w => l2Old_any x now w
      generalize keepB (its.take k) now = kept at hown hst hkl
      cases g4 : oldB x now
      · rw [g4] at hst hold
        have HO := hide hold
        clear hold g4
        go_wp2_with fail
        refine (unhide HO _).mono ?_
        rintro e w1 ⟨rfl, hb1⟩
        simp only [World.size_alloc] at hb1
        have hx1 := boxcell hb1
        have hz1 : wr.heap.size < w1.heap.size := by have := hb1.size; simp at this; omega
        have B1 := hide (((unhide hbel).alloc hzw _).trans (hb1.mono (by omega)))
        have O1 := hide (own_below (unhide hown) ((bel1 wr _).trans (hb1.mono (by omega))) (Nat.le_refl _))
        clear hb1
        go_wp2_with (at_builtin; go_loud (refine wpList_append_own _ rfl _ _ 27 rfl (w.heap.size + 2) 40 i0 _ 5 56 Try.underlying27 (unhide HI) (unhide HZ0) (unhide HZ1) (unhide HZ2) rfl (by decide) _ _ _ rfl ((unhide O1).alloc _) ⟨w1.heap.size, 0, none⟩ 1 1 (cellsOf x) rfl rfl ?c1 ?c2 ?c3 ?c4 ?c5 ?_))
        case c1 => exact news_cells w1 x _
        case c2 => exact news_one x
        case c3 => unfold maxLen; omega
        case c4 => omega
        case c5 => simp; omega
        intro v' w2 hown' hgrow _
        have O2 : Hid (w2.ownsRow (w.heap.size + 2) 40 5 v' (keepB (its.take (k + 1)) now).length (flat (keepB (its.take (k + 1)) now))) := own_snoc hown' (by rw [unhide hst]; rfl)
        have B2 := hide (((unhide B1).alloc (by omega) _).grown hgrow (by simp; omega) (own_block (unhide O1)))
        clear hown' hgrow hx1
        go_wp2
        go_roundw
        case rel => exact ⟨k + 1, by omega, by go_num, O2, B2⟩
        case measure => simp [intOf]; omega
      · rw [g4] at hst hold
        have HO := hide hold
        have O2 : Hid (keepB (its.take (k + 1)) now = kept) := by show keepB (its.take (k + 1)) now = kept; rw [unhide hst]; simp
        clear hold g4
        go_wp2_with fail
        refine (unhide HO _).mono ?_
        rintro e w1 ⟨rfl, hb1⟩
        simp only [World.size_alloc] at hb1
        have B1 := hide (((unhide hbel).alloc hzw _).trans (hb1.mono (by omega)))
        have O1 := hide (own_below (unhide hown) ((bel1 wr _).trans (hb1.mono (by omega))) (Nat.le_refl _))
        clear hb1
        go_wp2
        go_roundw
        case rel => exact ⟨k + 1, by omega, by go_num, hide (by rw [unhide O2]; exact unhide O1), B1⟩
        case measure => simp [intOf]; omega
    · obtain rfl : k = its.length := by omega
      have et : its.take its.length = its := List.take_length
      rw [et] at hown
      have hkl := keep_len its now its.length
      rw [et] at hkl
      clear et
      obtain ⟨va, vc, hv⟩ := own_form (unhide hown)
      rw [hv] at hown ⊢
      clear hv
      have hs0 := fun o => (unhide hbel).cell (p := ⟨w.heap.size, o, none⟩) (by simp)
      have hs1 := fun o => (unhide hbel).cell (p := ⟨w.heap.size + 1, o, none⟩) (by simp)
      have hf0 := fun o => (unhide hbel).frozen (p := ⟨w.heap.size, o, none⟩) (by simp)
      have hf1 := fun o => (unhide hbel).frozen (p := ⟨w.heap.size + 1, o, none⟩) (by simp)
      go_wp2
      refine bodyPost_ret (v := .tuple #[.agg #[.int .i64 lim, .int .i64 nx, .slice va (keepB its now).length vc], .int .i64 (its.length - (keepB its now).length)]) (by simp [results, Try.results33, go_sem, hs1]) rfl ⟨va, vc, rfl, ?_, ?_⟩
      · refine own_le (base := w.heap.size + 2) ?_ (by omega)
        repeat (refine ownsRow_setCell_below ?_ (by first | (simp; done) | (simp; omega)) _)
        exact unhide hown
      · repeat (refine Below.setCell ?_ (by first | (simp; done) | (simp; omega)) _)
        exact unhide hB

/-- What DropOld hands back: the store's fields, how many went, whether. -/
structure Dropped where
  lim : Int
  nx : Int
  its : List Itm
  many : Int
  ok : Bool
def dropR (lim nx : Int) (its : List Itm) (now : Int) : Dropped :=
  if gsB lim nx its = true then if inB now 0 1000000000 = true then ⟨lim, nx, keepB its now, its.length - (keepB its now).length, true⟩ else ⟨0, 0, [], 0, false⟩ else ⟨0, 0, [], 0, false⟩
theorem dropR_len (lim nx : Int) (its : List Itm) (now : Int) : (dropR lim nx its now).its.length ≤ its.length := by
  unfold dropR
  split
  · split
    · exact List.length_filter_le _ _
    · exact Nat.zero_le _
  · exact Nat.zero_le _
/-- The ending of DropOld, and what it leaves in memory. -/
def DropEnd (T : Dropped) (w : World) (e : Ending) (w' : World) : Prop :=
  ∃ a cap r, e = .returned (.tuple #[.agg #[.int .i64 T.lim, .int .i64 T.nx, .slice a T.its.length cap], .int .i64 T.many, .bool T.ok]) ∧ Marks.Ours w' a T.its.length (icell T.its) r ∧ (∀ g, r = some g → w.heap.size ≤ g) ∧ Below w.heap.size w w'

end Store
end Go.Proofs.Ythlcmnjaimffdaa
