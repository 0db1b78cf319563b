/-
  strings.Builder at this dump: WriteString puts a text behind what is there; String tells what is there.
-/
import Derived.Test.YtghckjmpcokhcaaGreatDoorBase
import Derived.Test.YtghckjmpcokhcaaGreatDoorRows
import Derived.Test.YtghckjmpcokhcaaGreatDoorBldC
import Derived.Shelf.Strings.Builder1
import Derived.WalkLawsBesides
import Derived.Test.YtghckjmpcokhcaaGreatDoorValZ
import Derived.Test.YtghckjmpcokhcaaGreatDoorTabZ
import Derived.Test.YtghckjmpcokhcaaGreatDoorItemZ
import Derived.Test.YtghckjmpcokhcaaGreatDoorMarkZ
namespace Go.Proofs.YtghckjmpcokhcaaGreatDoor
namespace Bld
open Go.RowKit Base
set_option linter.unusedVariables false

def IsB (B b : Nat) (l : List UInt8) (w : World) : Prop := Lib.IsBuilder 67 5 B b (Lib.byteCells l) w
theorem size_ex : ∃ j, Tryz.prog.info? 67 = some j ∧ j.size = 2 := by
  have h : (Tryz.prog.info? 67).map (·.size) = some 2 := by kernel_rfl
  exact Option.map_eq_some_iff.1 h

set_option maxHeartbeats 1000000 in
set_option maxRecDepth 100000 in
theorem check_used (b : Nat) (w : World) (h0 : w.cell? ⟨b, 0, none⟩ = some (.pointer (some ⟨b, 0, none⟩))) :
    Calls Tryz.prog 62 #[.pointer (some ⟨b, 0, none⟩)] w fun e w' => e = .returned (.tuple #[]) ∧ w' = w := by
  obtain ⟨j, hj, _⟩ := size_ex
  have hne := Lib.run_neq_ptr_same (P := Tryz.prog) w ⟨b, 0, none⟩ Tryz.underlying65 hj
  go_enter Tryz.func62, Tryz.ntmps62
  go_wp2
  go_end0
  exact ⟨rfl, rfl⟩

set_option maxHeartbeats 1000000 in
set_option maxRecDepth 100000 in
theorem check_fresh (b : Nat) (w : World) (h0 : w.cell? ⟨b, 0, none⟩ = some (.pointer none)) (hsh : w.shape? b = some (67, 2)) (hfz : w.frozen? ⟨b, 0, none⟩ = false) :
    Calls Tryz.prog 62 #[.pointer (some ⟨b, 0, none⟩)] w fun e w' => e = .returned (.tuple #[]) ∧ w' = w.setCell ⟨b, 0, none⟩ (.pointer (some ⟨b, 0, none⟩)) := by
  obtain ⟨j, hj, hjs⟩ := size_ex
  go_enter Tryz.func62, Tryz.ntmps62
  go_wp2
  rw [Lib.run_to_unsafe w ⟨b, 0, none⟩ Tryz.underlying65 Tryz.underlying126 hj (by rw [hjs]; decide) hsh (Nat.zero_lt_succ 1)]
  simp only [Result.andThen]
  rw [Oper.upon_value]
  go_wp2
  rw [run_callFunc_extern Tryz.func83 (by kernel_rfl) (by kernel_rfl) (by kernel_rfl) (e := Extern.AbiNoEscape.same) (by kernel_rfl)]
  rw [Lib.run_noEscape]
  simp only [Result.andThen]
  rw [Oper.upon_value]
  go_wp2
  rw [Lib.run_from_unsafe w ⟨b, 0, none⟩ Tryz.underlying126 Tryz.underlying65 hj hsh (by kernel_rfl)]
  simp only [Result.andThen]
  rw [Oper.upon_value]
  go_wp2
  go_end0
  exact ⟨rfl, rfl⟩

theorem check_any (B b : Nat) (bs : List Value) (w : World) (h : Lib.IsBuilder 67 5 B b bs w) :
    Calls Tryz.prog 62 #[.pointer (some ⟨b, 0, none⟩)] w fun e w' => e = .returned (.tuple #[]) ∧ Lib.BuilderAt 67 5 B b (.pointer (some ⟨b, 0, none⟩)) bs w' ∧ Below B w w' := by
  rcases h with h | h
  · refine (check_fresh b w h.cell0 h.shape h.frozen0).mono ?_
    rintro e w' ⟨rfl, rfl⟩
    exact ⟨rfl, h.used _, (Below.refl B w).setCell (p := ⟨b, 0, none⟩) h.1 _⟩
  · refine (check_used b w h.cell0).mono ?_
    rintro e w' ⟨rfl, rfl⟩
    exact ⟨rfl, h, Below.refl B _⟩

theorem byte_ex : ∃ i, Tryz.prog.info? 5 = some i ∧ i.zero = some (.int .u8 0) ∧ i.size = 1 ∧ i.bytes = 1 := by
  have h : (Tryz.prog.info? 5).map (fun i => (i.zero, i.size, i.bytes)) = some (some (.int .u8 0), 1, 1) := by kernel_rfl
  obtain ⟨i, hi, hz⟩ := Option.map_eq_some_iff.1 h
  simp only [Prod.mk.injEq] at hz
  exact ⟨i, hi, hz.1, hz.2.1, hz.2.2⟩

set_option maxHeartbeats 2000000 in
set_option maxRecDepth 100000 in
theorem write_any (B b : Nat) (l : List UInt8) (s : ByteArray) (w : World) (h : IsB B b l w) (hlen : l.length + s.size ≤ 1000000000) (hBw : B ≤ w.heap.size) :
    Calls Tryz.prog 30 #[.pointer (some ⟨b, 0, none⟩), .string s] w fun e w' => e = .returned (.tuple #[.int .i64 s.size, .nilIface]) ∧ IsB B b (l ++ s.data.toList) w' ∧ Below B w w' := by
  obtain ⟨i0, hi, hz0, hz1, hz2⟩ := byte_ex
  have HC := hide (check_any B b (Lib.byteCells l) w h)
  have hbl := Lib.byteCells_length l
  clear h
  go_enter Tryz.func30, Tryz.ntmps30
  go_wp2_with fail
  refine (unhide HC).mono ?_
  rintro e w1 ⟨rfl, h1, hb1⟩
  obtain ⟨hB, v, hbk, hown, hne⟩ := h1
  have c0 : w1.cell? ⟨b, 0, none⟩ = some (.pointer (some ⟨b, 0, none⟩)) := by rw [Lib.cell_of_heap hbk]; rfl
  have c1 : w1.cell? ⟨b, 1, none⟩ = some v := by rw [Lib.cell_of_heap hbk]; rfl
  have HB1 := hide hb1
  clear HC
  go_wp2_with (at_builtin; refine Lib.wpList_append_own_string _ rfl _ _ 22 9 rfl B 5 i0 Tryz.underlying22 Tryz.underlying9 hi hz0 hz1 hz2 _ _ _ rfl hown s rfl ?c3 ?c4 ?c5 ?_)
  case c3 => unfold maxLen; omega
  case c4 => omega
  case c5 => have := hb1.size; omega
  intro v' w2 hown' hgrow _
  have hlt : b < w1.heap.size := by
    rcases Nat.lt_or_ge b w1.heap.size with h' | h'
    · exact h'
    · simp [Array.getElem?_eq_none h'] at hbk
  have hb2 : w2.heap[b]? = some (.cells #[.pointer (some ⟨b, 0, none⟩), v] 67 (0, 0)) := by
    rw [hgrow.block b hlt (fun e => hne e.symm)]
    exact hbk
  have d0 : w2.cell? ⟨b, 0, none⟩ = some (.pointer (some ⟨b, 0, none⟩)) := by rw [Lib.cell_of_heap hb2]; rfl
  have d1 : w2.cell? ⟨b, 1, none⟩ = some v := by rw [Lib.cell_of_heap hb2]; rfl
  have f1 : w2.frozen? ⟨b, 1, none⟩ = false := Lib.frozen_of_heap hb2 1
  obtain ⟨ao, n', cap, rfl⟩ : ∃ ao n' cap, v' = .slice ao n' cap := by
    rcases hown'.2 with ⟨hv, _⟩ | ⟨g, cap, cur, hv, _⟩
    · exact ⟨_, _, _, hv⟩
    · exact ⟨_, _, _, hv⟩
  have HP : Hid (Lib.BuilderAt 67 5 B b (.pointer (some ⟨b, 0, none⟩)) (Lib.byteCells (l ++ s.data.toList)) (w2.setCell ⟨b, 1, none⟩ (.slice ao n' cap))) := by
    have e : Lib.byteCells (l ++ s.data.toList) = Lib.byteCells l ++ Lib.strCells s := by simp [Lib.byteCells, Lib.strCells]
    rw [e]
    exact Lib.BuilderAt.put hB hb2 (by simpa [Lib.strCells_length, Lib.byteCells_length] using hown') (by decide)
  have HB2 := hide ((hb1.grown hgrow (by have := hb1.size; omega) (fun k hk => (hown.lt k hk).1)).setCell (p := ⟨b, 1, none⟩) hB (.slice ao n' cap))
  clear hown' hgrow hb2 hbk hown hne hb1 c0 c1
  go_wp2
  go_ret2
  exact ⟨rfl, .inr (unhide HP), unhide HB2⟩
theorem string_any (B b : Nat) (l : List UInt8) (w : World) (h : IsB B b l w) (hBw : B ≤ w.heap.size) :
    Calls Tryz.prog 32 #[.pointer (some ⟨b, 0, none⟩)] w fun e w' => e = .returned (.string ⟨l.toArray⟩) ∧ Below B w w' := Tryz.Builder_String_any B b l w h hBw
theorem fresh (w : World) : IsB w.heap.size w.heap.size [] (w.alloc (.cells #[.pointer none, .slice none 0 0] 67)) := Lib.fresh_isBuilder _ _ w
theorem IsB.lt {B b : Nat} {l : List UInt8} {w : World} (h : IsB B b l w) : B ≤ b ∧ b < w.heap.size := by
  have go : ∀ p, Lib.BuilderAt 67 5 B b p (Lib.byteCells l) w → B ≤ b ∧ b < w.heap.size := fun p ⟨hB, v, hbk, _⟩ => ⟨hB, (Array.getElem?_eq_some_iff.1 hbk).1⟩
  rcases h with h | h
  · exact go _ h
  · exact go _ h
/-- It stands while only an elder block turns. -/
theorem IsB.gb {B b : Nat} {l : List UInt8} {w w' : World} {r : Option Nat} (h : IsB B b l w) (hg : w.grownBy w' r) (hr : ∀ k, r = some k → k < B) : IsB B b l w' := by
  have go : ∀ p, Lib.BuilderAt 67 5 B b p (Lib.byteCells l) w → Lib.BuilderAt 67 5 B b p (Lib.byteCells l) w' := by
    rintro p ⟨hB, v, hbk, hown, hne⟩
    refine ⟨hB, v, ?_, ⟨hown.1, hown.2.elim Or.inl ?_⟩, hne⟩
    · rw [hg.block b (Array.getElem?_eq_some_iff.1 hbk).1 (fun e => by have := hr b e.symm; omega)]
      exact hbk
    · rintro ⟨g, cap, cur, hv, hgB, hh, rest⟩
      exact Or.inr ⟨g, cap, cur, hv, hgB, by rw [hg.block g (Array.getElem?_eq_some_iff.1 hh).1 (fun e => by have := hr g e.symm; omega)]; exact hh, rest⟩
  rcases h with h | h
  · exact .inl (go _ h)
  · exact .inr (go _ h)
end Bld
end Go.Proofs.YtghckjmpcokhcaaGreatDoor
/-
  Contracts of the program's goodValue and ValuesText: they answer by plain functions of the items.
-/
namespace Go.Proofs.YtghckjmpcokhcaaGreatDoor
namespace Vals
open Go.RowKit Base GoodKey Items Store NumText _root_.Go.Proofs.YtghckjmpcokhcaaGreatDoor.Shelf
set_option linter.unusedVariables false

theorem at_k' {w : World} {a : Option Addr} {its : List Itm} (h : ItemsAt w a its) (k : Nat) (hk : k < its.length) : ∃ b off, a = some ⟨b, off, none⟩ ∧ b < w.heap.size ∧ At w b (off + k * 5) (its.getD k zero) := by
  obtain ⟨b, off, ha, hb, hc⟩ := h (fun e => by rw [e] at hk; simp at hk)
  exact ⟨b, off, ha, hb, hc k hk⟩
def vtW (r : Res) : Value := .tuple #[.string r.s, .bool r.ok]
theorem told_list (token : Bool) (its : List Itm) (k : Nat) (h : k < its.length) : (told token (its.take k)).data.toList ++ (valueR (its.getD k zero) token).data.toList = (told token (its.take (k + 1))).data.toList := by
  rw [told_step token its k h]; simp
theorem isB_bel {B b : Nat} {l : List UInt8} {w w' : World} (h : Bld.IsB B b l w) (hb : Below w.heap.size w w') : Bld.IsB B b l w' := h.gb (r := none) (Marks.gb_below hb (Nat.le_refl _)) (by simp)

set_option maxRecDepth 10000 in
set_option maxHeartbeats 2000000 in
theorem impl_any (a : Option Addr) (cap : Nat) (its : List Itm) (token : Bool) (w : World) (hc : ItemsAt w a its) (hl : its.length ≤ 1048576) (hs : ∀ x ∈ its, Fits x) (hv : Tab.Has w) :
    Calls Tryz.prog 9 #[.slice a its.length cap, .bool token] w fun e w' => e = .returned (vtW (vtR its token)) ∧ Below w.heap.size w w' := by
  have HC := hide hc
  have HS := hide hs
  have HV := hide hv
  clear hc hs hv
  by_cases g1 : 60 < (its.length : Int)
  · rw [vt_long g1]
    go_enter Tryz.func9, Tryz.ntmps9
    go_wp2
    go_ret2
    exact ⟨rfl, Below.refl _ _⟩
  have HB := hide (@vt_bad its token)
  have HO := hide (@vt_ok its token g1)
  obtain ⟨R, HR⟩ : ∃ R, Hid (vtR its token = R) := ⟨_, hide rfl⟩
  rw [unhide HR] at HB HO ⊢
  clear HR
  have HF : Hid (Bld.IsB w.heap.size w.heap.size [] (w.alloc (.cells #[.pointer none, .slice none 0 0] 67))) := Bld.fresh w
  go_enter Tryz.func9, Tryz.ntmps9
  go_wp2
  go_loopw [14] (fun i wr => ∃ (k : Nat) (t : ByteArray), k ≤ its.length ∧ t.size ≤ 300 * k ∧ i = .int .i64 k ∧ Hid (t = told token (its.take k)) ∧ Hid (goodTo token its k = true) ∧ Hid (Bld.IsB w.heap.size w.heap.size t.data.toList wr) ∧ Hid (Below w.heap.size w wr)) (fun i _ => its.length - (intOf i).toNat)
  case atStart => exact ⟨0, ByteArray.empty, Nat.zero_le _, by simp, rfl, hide (by simp [told]), hide (by simp [goodTo]), HF, hide (bel1 w _)⟩
  case round =>
    obtain ⟨k, t, hk, htz, rfl, ht, hgo, I1, hbel⟩ := hrel
    by_cases hlt : k < its.length
    · obtain ⟨b, off, ha, hbb, hat⟩ := at_k' ((unhide HC).below (unhide hbel) (Nat.le_refl _)) k hlt
      subst ha
      obtain ⟨c0, c1, c2, c3, c4⟩ := hat
      have hcal := fun w => goodValue_any (its.getD k zero) token w (fits_getD (unhide HS) k hlt)
      have hst := hide (@goodTo_step token its k hlt (unhide hgo))
      have hbd := hide (fun h => unhide HB (@goodTo_bad token its k hlt h))
      have htl := hide (told_step token its k hlt)
      generalize its.getD k zero = x at c0 c1 c2 c3 c4 hst hbd hcal htl
      have hzb := (unhide hbel).size
      cases hx : goodV x token
      · have H := unhide (unhide hbd hx)
        rw [hx] at hcal
        have HV1 := hide hcal
        clear hcal hst hbd hx htl
        subst H
        go_wp2_with fail
        refine (unhide HV1 _).mono ?_
        rintro e w1 ⟨rfl, hb1⟩
        have hb1 := hide (((unhide hbel).alloc hzb _).trans (hb1.mono (by simp; omega)))
        go_wp2
        go_ret2
        exact ⟨rfl, unhide hb1⟩
      · have H := hide (unhide hst hx)
        have hvs := valueR_size hx
        have hsm := goodV_small hx
        obtain ⟨q1, q2, q3, q4, q5⟩ := (goodV_iff _ _).1 hx
        have hcv := fun w h => valueText_gen x token w ⟨by omega, by omega⟩ ⟨q2, q3⟩ (fun h => ⟨by have := q5 h; omega, (q5 h).2⟩) h
        clear q1 q2 q3 q4 q5 hsm
        rw [hx] at hcal
        have HV1 := hide hcal
        clear hcal hst hbd hx
        generalize valueR x token = v at hvs hcv htl
        have HV2 := hide hcv
        have hnew : Hid (t ++ v = told token (its.take (k + 1))) := by show t ++ v = _; rw [unhide htl, unhide ht]
        clear hcv htl
        obtain ⟨bx, hbx⟩ : ∃ bx, bx = wr.heap.size := ⟨_, rfl⟩
        obtain ⟨k0, k1, k2, k3, k4⟩ := bx5' wr 35 (.string x.key) (.int .i64 x.flags) (.string x.data) (.int .i64 x.upto) (.int .i64 x.token)
        go_wp2_with fail
        refine (unhide HV1 _).mono ?_
        rintro e w1 ⟨rfl, hb1⟩
        simp only [World.size_alloc] at hb1
        have e0 : w1.cell? ⟨wr.heap.size, 0, none⟩ = some (.string x.key) := (hb1.cell (by simp)).trans k0
        have e1 : w1.cell? ⟨wr.heap.size, 1, none⟩ = some (.int .i64 x.flags) := (hb1.cell (by simp)).trans k1
        have e2 : w1.cell? ⟨wr.heap.size, 2, none⟩ = some (.string x.data) := (hb1.cell (by simp)).trans k2
        have e3 : w1.cell? ⟨wr.heap.size, 3, none⟩ = some (.int .i64 x.upto) := (hb1.cell (by simp)).trans k3
        have e4 : w1.cell? ⟨wr.heap.size, 4, none⟩ = some (.int .i64 x.token) := (hb1.cell (by simp)).trans k4
        have hb1' := hide (((unhide hbel).alloc hzb (.cells #[.string x.key, .int .i64 x.flags, .string x.data, .int .i64 x.upto, .int .i64 x.token] 35)).trans (hb1.mono (by omega)))
        have I2 := hide (isB_bel (isB_bel (unhide I1) (bel1 wr (.cells #[.string x.key, .int .i64 x.flags, .string x.data, .int .i64 x.upto, .int .i64 x.token] 35))) (by simpa using hb1))
        clear hb1 k0 k1 k2 k3 k4 c0 c1 c2 c3 c4
        go_wp2_with fail
        refine (unhide HV2 _ ((unhide HV).below (unhide hb1'))).mono ?_
        rintro e w2 ⟨rfl, hb2⟩
        have hb2' := hide ((unhide hb1').trans (hb2.mono (unhide hb1').size))
        have I3 := hide (isB_bel (unhide I2) hb2)
        clear hb2 e0 e1 e2 e3 e4
        have hlen : t.data.toList.length = t.size := by simp
        go_wp2_with fail
        refine (Bld.write_any w.heap.size w.heap.size t.data.toList v _ (unhide I3) (by omega) (unhide hb2').size).mono ?_
        rintro e w3 ⟨rfl, hI3, hb3⟩
        have I4 : Hid (Bld.IsB w.heap.size w.heap.size (t ++ v).data.toList w3) := by
          have e : (t ++ v).data.toList = t.data.toList ++ v.data.toList := by simp
          rw [e]; exact hI3
        have hb3' := hide ((unhide hb2').trans hb3)
        clear hI3 hb3
        go_wp2
        go_roundw
        case rel => exact ⟨k + 1, t ++ v, by omega, by rw [ByteArray.size_append]; omega, by go_num, hnew, H, I4, hb3'⟩
        case measure => simp [intOf]; omega
    · obtain rfl : k = its.length := by omega
      have hall := goodTo_all (unhide hgo)
      have H := unhide HO hall
      have HT : Hid (t = told token its) := by show t = _; rw [unhide ht, List.take_length]
      rw [← unhide HT] at H
      clear hall
      subst H
      have hlen : t.data.toList.length = t.size := by simp
      have hls : ({ data := #[69, 78, 68, 13, 10] } : ByteArray).size = 5 := rfl
      go_wp2_with fail
      refine (Bld.write_any w.heap.size w.heap.size t.data.toList _ _ (unhide I1) (by rw [hls]; omega) (unhide hbel).size).mono ?_
      rintro e w2 ⟨rfl, hI2, hb2⟩
      have hb2' := hide ((unhide hbel).trans hb2)
      have I2 := hide hI2
      clear hb2 hI2
      go_wp2_with fail
      refine (Bld.string_any w.heap.size w.heap.size _ _ (unhide I2) (unhide hb2').size).mono ?_
      rintro e w3 ⟨rfl, hb3⟩
      have hb3' := hide ((unhide hb2').trans hb3)
      clear hb3
      go_wp2
      go_ret2
      refine ⟨?_, unhide hb3'⟩
      have e : (⟨(t.data.toList ++ ({ data := #[69, 78, 68, 13, 10] } : ByteArray).data.toList).toArray⟩ : ByteArray) = t ++ lastS := by
        apply Go.WideShapes.bytes_inj; simp [lastS]
      rw [e]; rfl
end Vals
end Go.Proofs.YtghckjmpcokhcaaGreatDoor
