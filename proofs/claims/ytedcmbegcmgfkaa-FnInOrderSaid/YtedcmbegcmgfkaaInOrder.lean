/-
  FnInOrder returns true for every slice of bytes: for the orders and answers that are drawn from it the program's PlaySession answers as the model's, what goes out is a beginning of all answers in order, and all of them once none is left. No condition.
-/
import Derived.Test.YtedcmbegcmgfkaaPlayS
import Derived.Test.YtedcmbegcmgfkaaOrderP
import Derived.Test.YtedcmbegcmgfkaaCurD
import Derived.Test.YtedcmbegcmgfkaaCurO
import Derived.OpenShut
import Derived.ChangeOld
namespace Go.Proofs.Ytedcmbegcmgfkaa
namespace InOrderL
open Go.ChangeShapes Go.WideShapes Go.ChangeAt Go.RowKit Base Rnd
set_option linter.unusedVariables false

theorem nat_below {w w' : World} {a : Option Addr} {l : List Int} {B : Nat} (h : Ints.NAt w a l) (hb : Below B w w') (hB : w.heap.size ≤ B) : Ints.NAt w' a l := by
  intro hne
  obtain ⟨b, off, ha, hlt, hc⟩ := h hne
  refine ⟨b, off, ha, Nat.lt_of_lt_of_le hlt hb.size, fun i hi => ?_⟩
  rw [hb.cell (p := ⟨b, off + i, none⟩) (Nat.lt_of_lt_of_le hlt hB)]
  exact hc i hi

set_option maxRecDepth 100000 in
set_option maxHeartbeats 4000000 in
theorem walk (a : Option Addr) (cap n : Nat) (z : Nat → Int) (w : World) (hc : Cur.BAt w a n z) (hl : n ≤ maxLen) :
    Calls Try.prog 3 #[.slice a n cap] w fun e w' => e = .returned (.bool true) ∧ Below w.heap.size w w' := by
  by_cases hbig : 1048576 < (n : Int)
  · clear hc
    go_enter Try.func3, Try.ntmps3
    go_wp2
    go_ret
    exact ⟨rfl, Below.refl _ _⟩
  have HD := hide (Cur.drawPlay_any a n cap z w hc (by omega))
  clear hc
  go_enter Try.func3, Try.ntmps3
  go_wp2_with fail
  refine (unhide HD).mono ?_
  rintro e w2 ⟨order, ts, a2, ca, b2, cb, rfl, q1, q2, q3, N2, S2, za, zb, B2⟩
  have him := play_any a2 ca order b2 cb ts w2 (by omega) N2 S2 za zb
  have hsp := fun w' (hb : Below w2.heap.size w2 w') => playS_any a2 ca order b2 cb ts w' (by omega) (nat_below N2 hb (Nat.le_refl _)) (S2.below hb (Nat.le_refl _))
  have hio := in_order order ts
  have hno := @no_out order ts
  generalize playR order ts = T at him hsp hio hno
  obtain ⟨ps, pn, pok⟩ := T
  dsimp only at hio hno
  have HIM := hide him
  have HSP := hide hsp
  have HS2 := hide S2
  have HB2 := hide B2
  have HQ3 := hide q3
  clear him hsp N2 S2 za zb B2 q3 HD
  go_wp2_with fail
  refine (unhide HIM).mono ?_
  rintro e w3 ⟨rfl, hb3⟩
  have B3 := hide hb3
  clear hb3
  go_wp2_with fail
  refine (unhide HSP _ (unhide B3)).mono ?_
  rintro e w4 ⟨rfl, hb4⟩
  have B4 := hide ((unhide B3).trans (hb4.mono (unhide B3).size))
  clear hb4
  have BE := hide ((unhide HB2).trans ((unhide B4).mono (unhide HB2).size))
  cases pok
  · have e0 : ps = ByteArray.empty := hno rfl
    subst e0
    clear hio hno
    go_wp2
    go_ret
    exact ⟨rfl, unhide BE⟩
  · obtain ⟨r, hr, hz⟩ := hio rfl
    have HR := hide hr
    have HZ := hide hz
    have HC := hide (cat_take ts)
    have HSZ : Hid (∀ k, k ≤ ts.length → (catL (ts.take k)).size ≤ 100 * k) := by
      show ∀ k, k ≤ ts.length → (catL (ts.take k)).size ≤ 100 * k
      intro k hk
      induction k with
      | zero => simp [catL]
      | succ k ih =>
        rw [cat_take ts k (by omega), ByteArray.size_append]
        have := ih (by omega)
        have := unhide HQ3 k (by omega)
        omega
    clear hr hz hno
    go_wp2
    go_loop [11, 55] (fun av iv => ∃ (k : Nat) (acc : ByteArray), k ≤ ts.length ∧ acc.size ≤ 100 * k ∧ av = .string acc ∧ iv = .int .i64 k ∧ Hid (acc = catL (ts.take k))) (fun _ iv => ts.length - (intOf iv).toNat)
    case atStart => exact ⟨0, ByteArray.empty, Nat.zero_le _, by simp, rfl, rfl, hide rfl⟩
    case round =>
      obtain ⟨k, acc, hk, hacc, rfl, rfl, ha⟩ := hrel
      by_cases hkl : k < ts.length
      · obtain ⟨c, off, hb2, hcz, hcc⟩ := ((unhide HS2).below (unhide B4) (Nat.le_refl _)) (fun e => by rw [e] at hkl; simp at hkl)
        subst hb2
        have c0 := hcc k hkl
        have hs := unhide HQ3 k hkl
        have HN := unhide HC k hkl
        rw [← unhide ha] at HN
        generalize ts.getD k ByteArray.empty = t at c0 hs HN
        have HN1 := hide HN
        have hsum : (acc ++ t).size ≤ 100 * (k + 1) := by rw [ByteArray.size_append]; omega
        clear HN hcc
        go_wp2
        go_round
        case rel => exact ⟨k + 1, acc ++ t, by omega, hsum, rfl, by go_num, hide (unhide HN1).symm⟩
        case measure => simp [intOf]; omega
      · obtain rfl : k = ts.length := by omega
        have ea : acc = ps ++ r := by rw [unhide ha, List.take_length]; exact unhide HR
        have hA1 : ps.size ≤ acc.size := by rw [ea, ByteArray.size_append]; omega
        have hA2 : acc.extract 0 ps.size = ps := by
          rw [ea]
          apply Go.WideShapes.bytes_inj
          simp only [ByteArray.data_extract, ByteArray.data_append, Array.toList_extract, Array.toList_append, List.extract_eq_take_drop, List.drop_zero, Nat.sub_zero]
          rw [List.take_append_of_le_length (by simp), List.take_of_length_le (by simp)]
        have hA3 : pn = 0 → acc = ps := fun h => by rw [ea, unhide HZ h]; simp
        have hle : (ps.size : Int) ≤ (acc.size : Int) := by omega
        have hle' : decide ((ps.size : Int) ≤ (acc.size : Int)) = true := decide_eq_true hle
        clear ea HR HZ ha
        by_cases q : pn = 0
        · have e1 := hA3 q
          subst e1
          have q' : (pn != 0) = false := by simp [q]
          clear hA3
          go_wp2
          go_ret
          exact ⟨rfl, unhide BE⟩
        · have q' : (pn != 0) = true := by simp [q]
          have HA2 := hide hA2
          clear hA3
          go_wp2
          go_ret
          exact ⟨rfl, unhide BE⟩

theorem own : ownKnob Try.prog.godebug = none := by kernel_rfl
theorem laidOut : laidOutB Try.prog = true := by kernel_rfl

set_option maxRecDepth 100000 in
theorem lifted (os : Os) (started : os.Started) (H : Type) (enc : TypeId × Value → H) :
    ReturnsInHanded {} Try.checked os 3 .any (Rows.fnInOrderSpec.pre6 enc Try.prog Try.f3 Rows.fnInOrderRow.domain false) (Rows.fnInOrderSpec.post enc Try.prog Try.f3 false true false false) := by
  refine returnsInHanded_of_change (C := Try.checked) own started (by kernel_rfl) Try.func3
    (ChangeSpec.witness6 (enc := enc) (C := Try.checked) false ⟨#[], #[.slice none 0 0], []⟩ 8 (by kernel_rfl) (by kernel_rfl) (by kernel_rfl) (by kernel_rfl)) ?_
  intro W base args ds gs before hval0 hW hcnd _
  have hval : ∀ (j : Nat) t v, Try.f3.params[j]? = some t → args[j]? = some v → Value.okWide Try.prog W .any base t v := hval0
  have hW' := hW
  obtain ⟨p, q, hA0, hV, rfl, hfz, hnd⟩ := hW
  have hA : DataW.TrodAll enc Try.prog W 0 (fun _ => true) true Try.f3.params.toList args.toList ds p := hA0
  rw [Try.params3] at hA hval
  obtain ⟨v0, vs0, d0, ds0, p0, q0, hargs, rfl, rfl, h0, r0⟩ := trodAll_cons hA
  obtain ⟨rfl, rfl, rfl⟩ := trodAll_nil r0
  obtain rfl : args = #[v0] := by cases args; simp_all
  obtain ⟨rfl, rfl⟩ := trodVars_none hV
  have k0 := h0
  have lt0 : ∀ x ∈ p0, x.block < W.heap.size := by obtain ⟨m, hm⟩ := k0; exact DataW.trod_lt m _ _ _ hm
  obtain ⟨x0, y0, z0, rfl⟩ := okWide_slice Try.underlying22 (hval 0 22 v0 rfl rfl)
  obtain ⟨P0, C0, L0, Z0, e0, f0, i0⟩ : ∃ (a : Option Addr) (cap n : Nat) (z : Nat → Int), Value.slice x0 y0 z0 = .slice a n cap ∧ Cur.BAt W a n z ∧ n ≤ maxLen := by
    obtain ⟨fuel, hf⟩ := h0
    exact Cur.open_of Try.underlying22 Try.underlying5 (by kernel_rfl) hf
  simp only [Value.slice.injEq] at e0
  obtain ⟨ex0, ey0, ez0⟩ := e0
  subst x0 y0 z0
  clear hA0 hval0
  refine (walk P0 C0 L0 Z0 W f0 i0).mono fun e W' ⟨he, bel⟩ => ?_
  subst he
  exact ⟨_, rfl, _, _, _, [], _, [], hW', trodAll_mk1 (shut_bool Try.underlying4 _), (trodAll_cons_mk (Below.trod laidOut (by kernel_rfl) (of_decide_eq_true (by kernel_rfl)) k0 bel lt0) trodAll_mk0), rfl, bel.frame _, fun h => by cases h⟩

theorem over : Rows.fnInOrderRow.holds Try.pinned (OpenSpec.ofChange Rows.fnInOrderSpec) :=
  OpenClaim.holds_of_wide 3 Try.f3 rfl rfl rfl rfl rfl rfl rfl ⟨rfl, rfl, rfl, rfl, rfl⟩ rfl rfl rfl rfl rfl (by kernel_rfl) Try.func3 (by kernel_rfl)
    (of_decide_eq_true (by kernel_rfl)) (by unfold Func.isWrapper; first | (rw [if_pos (by decide +kernel)]; kernel_rfl) | (rw [if_neg (by decide +kernel)]; exact ⟨rfl, rfl⟩))
    (fun os started H enc _ => lifted os started H enc)
end InOrderL
theorem inOrder_holds : Rows.FnInOrderSaid := InOrderL.over
end Go.Proofs.Ytedcmbegcmgfkaa
