/-
  The program's readNumber, over what the library's variables hold: what they answer, by the plain functions.
-/
import Derived.Test.YtghckjmpcokhcaaGreatDoorCntZ
import Derived.Test.YtghckjmpcokhcaaGreatDoorShelf
import Derived.Test.YtghckjmpcokhcaaGreatDoorRows
namespace Go.Proofs.YtghckjmpcokhcaaGreatDoor
namespace Count
open Go.RowKit Base GoodKey NumText
set_option linter.unusedVariables false

/-- What the library's variables hold. -/
structure Vars (w : World) : Prop where
  tab : Lib.TabIs Tryz.prog w "internal/strconv.uint64pow10" .u64 Lib.pow10Tab
  syn : ∃ tp p, w.var? Tryz.prog "strconv.ErrSyntax" = some #[.iface tp p]
  rng : ∃ tp p, w.var? Tryz.prog "strconv.ErrRange" = some #[.iface tp p]
theorem var_below {P : Program} {w w' : World} {name : String} {cs : Array Value} (h : w.var? P name = some cs) (hb : Below w.heap.size w w') : w'.var? P name = some cs := by
  unfold World.var? at *
  cases e : P.globalNamed name with
  | none => rw [e] at h; simp at h
  | some g =>
    rw [e] at h
    simp only [Option.bind_some] at h ⊢
    by_cases hg : g < w.heap.size
    · rw [hb.block g hg]; exact h
    · rw [Array.getElem?_eq_none (by omega)] at h; simp at h
theorem Vars.below {w w' : World} (h : Vars w) (hb : Below w.heap.size w w') : Vars w' := by
  obtain ⟨t, ⟨tp, p, hs⟩, ⟨tq, q, hr⟩⟩ := h
  exact ⟨var_below t hb, ⟨tp, p, var_below hs hb⟩, ⟨tq, q, var_below hr hb⟩⟩

theorem grow_below (w : World) (k : Nat) (os : Array Obj) : Below w.heap.size w (Go.Sort.grow (w.drewN k) os) :=
  ⟨rfl, rfl, rfl, by show w.heap.size ≤ (w.heap ++ os).size; simp, fun i hi => by show (w.heap ++ os)[i]? = w.heap[i]?; rw [Array.getElem?_append_left hi]⟩
theorem itoa_any (n : Int) (w : World) (h0 : 0 ≤ n) (h1 : n ≤ 9223372036854775807) (hv : Vars w) : Calls Tryz.prog 63 #[.int .i64 n] w fun e w' => e = .returned (.string (txt n.toNat)) ∧ Below w.heap.size w w' := by
  refine (Tryz.strconv_Itoa n (by omega) h1 w hv.tab).mono ?_
  rintro e w' ⟨rfl, k, os, rfl⟩
  refine ⟨?_, grow_below w k os⟩
  have e1 : Lib.itoa n = Lib.decDigits n.toNat := by unfold Lib.itoa; rw [if_neg (by omega)]
  rw [e1]
  rfl
/-- Atoi: the number and whether there is an error. -/
theorem atoi_any (s : ByteArray) (w : World) (hs : s.size ≤ 1048576) (hv : Vars w) : Calls Tryz.prog 112 #[.string s] w fun e w' => Below w.heap.size w w' ∧
    ((∃ v, Lib.atoiAll s.data.toList = .ok v ∧ e = .returned (.tuple #[.int .i64 v, .nilIface])) ∨ (∃ v tp q, (∀ u, Lib.atoiAll s.data.toList ≠ .ok u) ∧ e = .returned (.tuple #[.int .i64 v, .iface tp q]))) := by
  obtain ⟨t, ⟨tp, p, hsy⟩, ⟨tq, q, hr⟩⟩ := hv
  cases e : Lib.atoiAll s.data.toList with
  | ok v =>
    refine (Tryz.strconv_Atoi_ok s (by omega) v e w).mono ?_
    rintro e' w' ⟨rfl, h⟩
    refine ⟨?_, .inl ⟨v, rfl, rfl⟩⟩
    rcases h with rfl | ⟨t, rfl⟩
    · exact Below.refl _ _
    · exact Lib.bytesWorld_below w _ t
  | «syntax» =>
    refine (Tryz.strconv_Atoi_syntax_var s (by omega) e tp p w hsy).mono ?_
    rintro e' w' ⟨N, rfl, _, _, hb⟩
    exact ⟨hb, .inr ⟨_, _, _, by simp, rfl⟩⟩
  | range =>
    refine (Tryz.strconv_Atoi_range_var s (by omega) e tq q w hr).mono ?_
    rintro e' w' ⟨N, rfl, _, _, hb⟩
    exact ⟨hb, .inr ⟨_, _, _, by simp, rfl⟩⟩

def rdV : Option Int → Value
  | some v => .tuple #[.int .i64 v, .bool true]
  | none => .tuple #[.int .i64 0, .bool false]
theorem rd_no {l : List UInt8} {most : Int} (h : ∀ u, Lib.atoiAll l ≠ .ok u) : rdB l most = none := by
  unfold rdB
  cases e : Lib.atoiAll l with
  | ok v => exact absurd e (h v)
  | «syntax» => rfl
  | range => rfl
theorem rd_cond {l : List UInt8} {most v : Int} (h : Lib.atoiAll l = .ok v) : rdB l most = if 0 ≤ v ∧ v ≤ most ∧ Lib.itoa v = l then some v else none := by
  unfold rdB; rw [h]
theorem itoa_txt {v : Int} (h : 0 ≤ v) (s : ByteArray) : txt v.toNat = s ↔ Lib.itoa v = s.data.toList := by
  have e : Lib.itoa v = Lib.decDigits v.toNat := by unfold Lib.itoa; rw [if_neg (by omega)]
  rw [e]
  constructor
  · intro h; rw [← h]; rfl
  · intro h; apply Go.WideShapes.bytes_inj; rw [← h]; rfl

set_option maxRecDepth 10000 in
set_option maxHeartbeats 1000000 in
theorem readNumber_any (s : ByteArray) (most : Int) (w : World) (hs : s.size ≤ 1048576) (h0 : 0 ≤ most) (h1 : most ≤ 9000000000000000000) (hv : Vars w) :
    Calls Tryz.prog 102 #[.string s, .int .i64 most] w fun e w' => e = .returned (rdV (rdB s.data.toList most)) ∧ Below w.heap.size w w' := by
  have HV := hide hv
  clear hv
  go_enter Tryz.func102, Tryz.ntmps102
  go_wp2_with fail
  refine (atoi_any s _ hs (unhide HV)).mono ?_
  rintro e w1 ⟨hb1, h⟩
  have HB1 := hide hb1
  have HV1 := hide ((unhide HV).below hb1)
  clear hb1
  rcases h with ⟨v, ha, rfl⟩ | ⟨v, tp, q, ha, rfl⟩
  · have HC := hide (rd_cond (most := most) ha)
    obtain ⟨b1, b2⟩ := Lib.atoiAll_bounds ha
    clear ha
    by_cases g0 : v < 0
    · have H : Hid (rdB s.data.toList most = none) := by show _ = _; rw [unhide HC, if_neg (by omega)]
      clear HC
      go_wp2_with fail
      go_ret2
      exact ⟨by rw [unhide H]; rfl, unhide HB1⟩
    by_cases g1 : most < v
    · have H : Hid (rdB s.data.toList most = none) := by show _ = _; rw [unhide HC, if_neg (by omega)]
      clear HC
      go_wp2_with fail
      go_ret2
      exact ⟨by rw [unhide H]; rfl, unhide HB1⟩
    have hit := itoa_any v w1 (by omega) (by omega) (unhide HV1)
    have hiff := itoa_txt (show 0 ≤ v by omega) s
    by_cases g2 : txt v.toNat = s
    · have H : Hid (rdB s.data.toList most = some v) := by show _ = _; rw [unhide HC, if_pos ⟨by omega, by omega, hiff.1 g2⟩]
      have HI := hide hit
      have heq := str_eq g2
      generalize txt v.toNat = t at HI heq
      clear HC hit hiff g2
      go_wp2_with fail
      refine (unhide HI).mono ?_
      rintro e w2 ⟨rfl, hb2⟩
      have HB2 := hide ((unhide HB1).trans (hb2.mono (unhide HB1).size))
      clear hb2
      go_wp2
      go_ret2
      exact ⟨by rw [unhide H]; rfl, unhide HB2⟩
    · have H : Hid (rdB s.data.toList most = none) := by show _ = _; rw [unhide HC, if_neg (fun hh => g2 (hiff.2 hh.2.2))]
      have HI := hide hit
      have heq := str_ne g2
      generalize txt v.toNat = t at HI heq
      clear HC hit hiff g2
      go_wp2_with fail
      refine (unhide HI).mono ?_
      rintro e w2 ⟨rfl, hb2⟩
      have HB2 := hide ((unhide HB1).trans (hb2.mono (unhide HB1).size))
      clear hb2
      go_wp2
      go_ret2
      exact ⟨by rw [unhide H]; rfl, unhide HB2⟩
  · have H := hide (rd_no (most := most) ha)
    clear ha
    go_wp2_with fail
    go_ret2
    exact ⟨by rw [unhide H]; rfl, unhide HB1⟩

theorem ret_cnt {o p : Option ByteArray} (h : o = p) : Ending.returned (countV o) = .returned (countV p) := by rw [h]
theorem wf_bounds {m : Int} (h : (Lit.int .i64 m).wf = true) : -9223372036854775808 ≤ m ∧ m ≤ 9223372036854775807 := by
  simp only [Lit.wf, Bool.and_eq_true, decide_eq_true_eq] at h
  exact h
end Count
end Go.Proofs.YtghckjmpcokhcaaGreatDoor
