/-
  Contracts of the program's goodValue and ValuesText: they answer by plain functions of the items.
-/
import Derived.Test.YtjlmhkclokjpnaaDoorValsP
import Derived.Test.YtjlmhkclokjpnaaDoorValI
import Derived.Test.YtjlmhkclokjpnaaDoorItemI
import Derived.Test.YtjlmhkclokjpnaaDoorBld
import Derived.Test.YtjlmhkclokjpnaaDoorMarkP
namespace Go.Proofs.YtjlmhkclokjpnaaDoor
namespace Vals
open Go.RowKit Base GoodKey Items Store NumText _root_.Go.Proofs.YtjlmhkclokjpnaaDoor.Shelf
set_option linter.unusedVariables false

set_option maxRecDepth 10000 in
set_option maxHeartbeats 1000000 in
theorem goodValue_any (x : Itm) (token : Bool) (w : World) (hf : Fits x) :
    Calls Tryd.prog 49 #[.agg #[.string x.key, .int .i64 x.flags, .string x.data, .int .i64 x.upto, .int .i64 x.token], .bool token] w fun e w' => e = .returned (.bool (goodV x token)) ∧ Below w.heap.size w w' := by
  have HI := hide (fun w' => goodItem_any (asItem x token) w' hf)
  have HG := hide (goodV_item x token)
  rw [← unhide HG]
  cases token
  all_goals
    go_enter Tryd.func49, Tryd.ntmps49
    go_wp2_with fail
    refine (unhide HI _).mono ?_
    rintro e w1 ⟨rfl, hb1⟩
    have hb1 := hide hb1
    go_wp2
    go_ret
    refine ⟨rfl, ?_⟩
    refine Below.trans ?_ ((unhide hb1).mono (by simp))
    repeat (refine Below.setCell ?_ (by simp) _)
    exact bel1 w _

theorem at_k' {w : World} {a : Option Addr} {its : List Itm} (h : ItemsAt w a its) (k : Nat) (hk : k < its.length) : ∃ b off, a = some ⟨b, off, none⟩ ∧ b < w.heap.size ∧ At w b (off + k * 5) (its.getD k zero) := by
  obtain ⟨b, off, ha, hb, hc⟩ := h (fun e => by rw [e] at hk; simp at hk)
  exact ⟨b, off, ha, hb, hc k hk⟩
def vtW (r : Res) : Value := .tuple #[.string r.s, .bool r.ok]
theorem told_list (token : Bool) (its : List Itm) (k : Nat) (h : k < its.length) : (told token (its.take k)).data.toList ++ (valueR (its.getD k zero) token).data.toList = (told token (its.take (k + 1))).data.toList := by
  rw [told_step token its k h]; simp
theorem isB_bel {B b : Nat} {l : List UInt8} {w w' : World} (h : Bld.IsB B b l w) (hb : Below w.heap.size w w') : Bld.IsB B b l w' := h.gb (r := none) (Marks.gb_below hb (Nat.le_refl _)) (by simp)

set_option maxRecDepth 10000 in
set_option maxHeartbeats 2000000 in
theorem impl_any (a : Option Addr) (cap : Nat) (its : List Itm) (token : Bool) (w : World) (hc : ItemsAt w a its) (hl : its.length ≤ 1048576) (hs : ∀ x ∈ its, Fits x) (hv : Tab.Has w) :
    Calls Tryd.prog 27 #[.slice a its.length cap, .bool token] w fun e w' => e = .returned (vtW (vtR its token)) ∧ Below w.heap.size w w' := by
  have HC := hide hc
  have HS := hide hs
  have HV := hide hv
  clear hc hs hv
  by_cases g1 : 60 < (its.length : Int)
  · rw [vt_long g1]
    go_enter Tryd.func27, Tryd.ntmps27
    go_wp2
    go_ret2
    exact ⟨rfl, Below.refl _ _⟩
  have HB := hide (@vt_bad its token)
  have HO := hide (@vt_ok its token g1)
  obtain ⟨R, HR⟩ : ∃ R, Hid (vtR its token = R) := ⟨_, hide rfl⟩
  rw [unhide HR] at HB HO ⊢
  clear HR
  have HF : Hid (Bld.IsB w.heap.size w.heap.size [] (w.alloc (.cells #[.pointer none, .slice none 0 0] 83))) := Bld.fresh w
  go_enter Tryd.func27, Tryd.ntmps27
  go_wp2
  go_loopw [14] (fun i wr => ∃ (k : Nat) (t : ByteArray), k ≤ its.length ∧ t.size ≤ 300 * k ∧ i = .int .i64 k ∧ Hid (t = told token (its.take k)) ∧ Hid (goodTo token its k = true) ∧ Hid (Bld.IsB w.heap.size w.heap.size t.data.toList wr) ∧ Hid (Below w.heap.size w wr)) (fun i _ => its.length - (intOf i).toNat)
  case atStart => exact ⟨0, ByteArray.empty, Nat.zero_le _, by simp, rfl, hide (by simp [told]), hide (by simp [goodTo]), HF, hide (bel1 w _)⟩
  case round =>
    obtain ⟨k, t, hk, htz, rfl, ht, hgo, I1, hbel⟩ := hrel
    by_cases hlt : k < its.length
    · obtain ⟨b, off, ha, hbb, hat⟩ := at_k' ((unhide HC).below (unhide hbel) (Nat.le_refl _)) k hlt
      subst ha
      obtain ⟨c0, c1, c2, c3, c4⟩ := hat
      have hcal := fun w => goodValue_any (its.getD k zero) token w (fits_getD (unhide HS) k hlt)
      have hst := hide (@goodTo_step token its k hlt (unhide hgo))
      have hbd := hide (fun h => unhide HB (@goodTo_bad token its k hlt h))
      have htl := hide (told_step token its k hlt)
      generalize its.getD k zero = x at c0 c1 c2 c3 c4 hst hbd hcal htl
      have hzb := (unhide hbel).size
      cases hx : goodV x token
      · have H := unhide (unhide hbd hx)
        rw [hx] at hcal
        have HV1 := hide hcal
        clear hcal hst hbd hx htl
        subst H
        go_wp2_with fail
        refine (unhide HV1 _).mono ?_
        rintro e w1 ⟨rfl, hb1⟩
        have hb1 := hide (((unhide hbel).alloc hzb _).trans (hb1.mono (by simp; omega)))
        go_wp2
        go_ret2
        exact ⟨rfl, unhide hb1⟩
      · have H := hide (unhide hst hx)
        have hvs := valueR_size hx
        have hsm := goodV_small hx
        obtain ⟨q1, q2, q3, q4, q5⟩ := (goodV_iff _ _).1 hx
        have hcv := fun w h => valueText_gen x token w ⟨by omega, by omega⟩ ⟨q2, q3⟩ (fun h => ⟨by have := q5 h; omega, (q5 h).2⟩) h
        clear q1 q2 q3 q4 q5 hsm
        rw [hx] at hcal
        have HV1 := hide hcal
        clear hcal hst hbd hx
        generalize valueR x token = v at hvs hcv htl
        have HV2 := hide hcv
        have hnew : Hid (t ++ v = told token (its.take (k + 1))) := by show t ++ v = _; rw [unhide htl, unhide ht]
        clear hcv htl
        obtain ⟨bx, hbx⟩ : ∃ bx, bx = wr.heap.size := ⟨_, rfl⟩
        obtain ⟨k0, k1, k2, k3, k4⟩ := bx5' wr 71 (.string x.key) (.int .i64 x.flags) (.string x.data) (.int .i64 x.upto) (.int .i64 x.token)
        go_wp2_with fail
        refine (unhide HV1 _).mono ?_
        rintro e w1 ⟨rfl, hb1⟩
        simp only [World.size_alloc] at hb1
        have e0 : w1.cell? ⟨wr.heap.size, 0, none⟩ = some (.string x.key) := (hb1.cell (by simp)).trans k0
        have e1 : w1.cell? ⟨wr.heap.size, 1, none⟩ = some (.int .i64 x.flags) := (hb1.cell (by simp)).trans k1
        have e2 : w1.cell? ⟨wr.heap.size, 2, none⟩ = some (.string x.data) := (hb1.cell (by simp)).trans k2
        have e3 : w1.cell? ⟨wr.heap.size, 3, none⟩ = some (.int .i64 x.upto) := (hb1.cell (by simp)).trans k3
        have e4 : w1.cell? ⟨wr.heap.size, 4, none⟩ = some (.int .i64 x.token) := (hb1.cell (by simp)).trans k4
        have hb1' := hide (((unhide hbel).alloc hzb (.cells #[.string x.key, .int .i64 x.flags, .string x.data, .int .i64 x.upto, .int .i64 x.token] 71)).trans (hb1.mono (by omega)))
        have I2 := hide (isB_bel (isB_bel (unhide I1) (bel1 wr (.cells #[.string x.key, .int .i64 x.flags, .string x.data, .int .i64 x.upto, .int .i64 x.token] 71))) (by simpa using hb1))
        clear hb1 k0 k1 k2 k3 k4 c0 c1 c2 c3 c4
        go_wp2_with fail
        refine (unhide HV2 _ ((unhide HV).below (unhide hb1'))).mono ?_
        rintro e w2 ⟨rfl, hb2⟩
        have hb2' := hide ((unhide hb1').trans (hb2.mono (unhide hb1').size))
        have I3 := hide (isB_bel (unhide I2) hb2)
        clear hb2 e0 e1 e2 e3 e4
        have hlen : t.data.toList.length = t.size := by simp
        go_wp2_with fail
        refine (Bld.write_any w.heap.size w.heap.size t.data.toList v _ (unhide I3) (by omega) (unhide hb2').size).mono ?_
        rintro e w3 ⟨rfl, hI3, hb3⟩
        have I4 : Hid (Bld.IsB w.heap.size w.heap.size (t ++ v).data.toList w3) := by
          have e : (t ++ v).data.toList = t.data.toList ++ v.data.toList := by simp
          rw [e]; exact hI3
        have hb3' := hide ((unhide hb2').trans hb3)
        clear hI3 hb3
        go_wp2
        go_roundw
        case rel => exact ⟨k + 1, t ++ v, by omega, by rw [ByteArray.size_append]; omega, by go_num, hnew, H, I4, hb3'⟩
        case measure => simp [intOf]; omega
    · obtain rfl : k = its.length := by omega
      have hall := goodTo_all (unhide hgo)
      have H := unhide HO hall
      have HT : Hid (t = told token its) := by show t = _; rw [unhide ht, List.take_length]
      rw [← unhide HT] at H
      clear hall
      subst H
      have hlen : t.data.toList.length = t.size := by simp
      have hls : ({ data := #[69, 78, 68, 13, 10] } : ByteArray).size = 5 := rfl
      go_wp2_with fail
      refine (Bld.write_any w.heap.size w.heap.size t.data.toList _ _ (unhide I1) (by rw [hls]; omega) (unhide hbel).size).mono ?_
      rintro e w2 ⟨rfl, hI2, hb2⟩
      have hb2' := hide ((unhide hbel).trans hb2)
      have I2 := hide hI2
      clear hb2 hI2
      go_wp2_with fail
      refine (Bld.string_any w.heap.size w.heap.size _ _ (unhide I2) (unhide hb2').size).mono ?_
      rintro e w3 ⟨rfl, hb3⟩
      have hb3' := hide ((unhide hb2').trans hb3)
      clear hb3
      go_wp2
      go_ret2
      refine ⟨?_, unhide hb3'⟩
      have e : (⟨(t.data.toList ++ ({ data := #[69, 78, 68, 13, 10] } : ByteArray).data.toList).toArray⟩ : ByteArray) = t ++ lastS := by
        apply Go.WideShapes.bytes_inj; simp [lastS]
      rw [e]; rfl
end Vals
end Go.Proofs.YtjlmhkclokjpnaaDoor
