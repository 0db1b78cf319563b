/-
  FnExactPlaySession returns true for every slice of numbers and every slice of texts, given the contract of the program's PlaySession.
-/
import Derived.Test.YtmbkdejlbeailaaPlayS
import Derived.Test.YtmbkdejlbeailaaIntT
import Derived.Test.YtmbkdejlbeailaaStrsB
import Derived.OpenShut
import Derived.ChangeOld
namespace Go.Proofs.Ytmbkdejlbeailaa
namespace PlaySessionL
open Go.ChangeShapes Go.WideShapes Go.ChangeAt Go.RowKit Base Rnd
set_option linter.unusedVariables false

/-- What the program's PlaySession must be shown to do. -/
def Impl : Prop := ∀ (a : Option Addr) (cap : Nat) (order : List Int) (a' : Option Addr) (cap' : Nat) (ts : List ByteArray) (w : World), order.length ≤ 1048576 → Ints.NAt w a order → StrsAt w a' ts →
  (∀ c off, a = some ⟨c, off, none⟩ → c < w.heap.size) → (∀ c off, a' = some ⟨c, off, none⟩ → c < w.heap.size) →
  Calls Try.prog 28 #[.slice a order.length cap, .slice a' ts.length cap'] w (PlayEnd (playR order ts) w)

set_option maxRecDepth 100000 in
set_option maxHeartbeats 4000000 in
theorem walk (himpl : Impl) (a : Option Addr) (cap : Nat) (l : List Int) (ak : Option Addr) (kcap : Nat) (ks : List ByteArray) (w : World)
    (hc : Ints.NAt w a l) (hl : l.length ≤ maxLen) (hck : StrsAt w ak ks) (hkl : ks.length ≤ maxLen) (hks : ∀ s ∈ ks, s.size ≤ maxLen) :
    Calls Try.prog 7 #[.slice a l.length cap, .slice ak ks.length kcap] w fun e w' => e = .returned (.bool true) ∧ Below w.heap.size w w' := by
  have HC := hide hc
  have HCK := hide hck
  have HKM := hide hkl
  have HLM := hide hl
  by_cases hbig : 1048576 < (l.length : Int)
  · clear hc hck hks
    go_enter Try.func7, Try.ntmps7
    go_wp2
    go_ret
    exact ⟨rfl, Below.refl _ _⟩
  have hlen : l.length ≤ 1048576 := by omega
  have hzk := szS_len ks 1048576
  have hszk := Strs.sz_bel ak kcap ks 1048576 w hck hkl hks (by omega) (by omega)
  generalize szS ks 1048576 = zk at hzk hszk
  have HSZ := hide hszk
  clear hszk hc hck hks hkl hl
  by_cases hzk0 : zk < 0
  · clear hzk
    go_enter Try.func7, Try.ntmps7
    go_wp2_with fail
    refine (unhide HSZ).mono ?_
    rintro e w2 ⟨rfl, hb2⟩
    have hB2 := hide hb2
    clear hb2
    go_wp2
    go_ret
    exact ⟨rfl, unhide hB2⟩
  have hlenk : ks.length ≤ 1048576 := by have := (hzk (by omega)).1; omega
  clear hzk
  have hsp := fun b b' w h1 h2 => playS_any (some ⟨b, 0, none⟩) l.length l (some ⟨b', 0, none⟩) ks.length ks w hlen h1 h2
  have him := fun b b' w h1 h2 (q1 : b < w.heap.size) (q2 : b' < w.heap.size) => himpl (some ⟨b, 0, none⟩) l.length l (some ⟨b', 0, none⟩) ks.length ks w hlen h1 h2 (fun c off e => by simp at e; omega) (fun c off e => by simp at e; omega)
  generalize playR l ks = T at hsp him
  obtain ⟨ts, tn, tok⟩ := T
  have HSP := hide hsp
  have HIM := hide him
  clear hsp him
  have hok : (tok != tok) = false := by cases tok <;> rfl
  go_enter Try.func7, Try.ntmps7
  go_wp2_with fail
  refine (unhide HSZ).mono ?_
  rintro e w2 ⟨rfl, hb2⟩
  have B2 := hide hb2
  have z2 : w.heap.size ≤ w2.heap.size := hb2.size
  clear hb2
  go_wp2_with fail
  refine (Ints.to_any a cap l _ ((unhide HC).below (unhide B2) (Nat.le_refl _)) hlen).mono ?_
  rintro e w3 ⟨rfl, hrow, hb3⟩
  have ra3 := hide hrow
  have ya : w2.heap.size < w3.heap.size := hrow.lt
  clear hrow
  have B3 := hide ((unhide B2).trans (hb3.mono (unhide B2).size))
  have z3 : w2.heap.size ≤ w3.heap.size := hb3.size
  clear hb3
  go_wp2_with fail
  refine (Strs.to_bel ak kcap ks _ ((unhide HCK).below (unhide B3) (Nat.le_refl _)) hlenk).mono ?_
  rintro e w4 ⟨rfl, hrow, hb4⟩
  have rk4 := hide hrow
  have yk : w3.heap.size < w4.heap.size := hrow.lt
  clear hrow
  have ra4 := hide ((unhide ra3).of_block (hb4.block _ (unhide ra3).lt))
  have B4 := hide ((unhide B3).trans (hb4.mono (unhide B3).size))
  have z4 : w3.heap.size ≤ w4.heap.size := hb4.size
  clear hb4
  go_wp2_with fail
  refine (unhide HSP _ _ _ (Ints.NAt.row (unhide ra4)) (StrsAt.row (unhide rk4))).mono ?_
  rintro e w5 ⟨rfl, hb5⟩
  have B5 := hide ((unhide B4).trans (hb5.mono (unhide B4).size))
  have z5 : w4.heap.size ≤ w5.heap.size := hb5.size
  clear hb5
  go_wp2_with fail
  refine (Ints.to_any a cap l _ ((unhide HC).below (unhide B5) (Nat.le_refl _)) hlen).mono ?_
  rintro e w6 ⟨rfl, hrow, hb6⟩
  have xa6 := hide hrow
  have ua : w5.heap.size < w6.heap.size := hrow.lt
  clear hrow
  have B6 := hide ((unhide B5).trans (hb6.mono (unhide B5).size))
  have z6 : w5.heap.size ≤ w6.heap.size := hb6.size
  clear hb6
  go_wp2_with fail
  refine (Strs.to_bel ak kcap ks _ ((unhide HCK).below (unhide B6) (Nat.le_refl _)) hlenk).mono ?_
  rintro e w7 ⟨rfl, hrow, hb7⟩
  have xk7 := hide hrow
  have uk : w6.heap.size < w7.heap.size := hrow.lt
  clear hrow
  have xa7 := hide ((unhide xa6).of_block (hb7.block _ (unhide xa6).lt))
  have B7 := hide ((unhide B6).trans (hb7.mono (unhide B6).size))
  have z7 : w6.heap.size ≤ w7.heap.size := hb7.size
  clear hb7
  go_wp2_with fail
  refine (unhide HIM _ _ _ (Ints.NAt.row (unhide xa7)) (StrsAt.row (unhide xk7)) (unhide xa7).lt (unhide xk7).lt).mono ?_
  rintro e w8 ⟨rfl, hb8⟩
  have xa8 := hide ((unhide xa7).of_block (hb8.block _ (unhide xa7).lt))
  have xk8 := hide ((unhide xk7).of_block (hb8.block _ (unhide xk7).lt))
  have B8 := hide ((unhide B7).trans (hb8.mono (unhide B7).size))
  have z8 : w7.heap.size ≤ w8.heap.size := hb8.size
  clear hb8
  go_wp2_with fail
  refine (Ints.to_any a cap l _ ((unhide HC).below (unhide B8) (Nat.le_refl _)) hlen).mono ?_
  rintro e w9 ⟨rfl, hrow, hb9⟩
  have va9 := hide hrow
  have qa : w8.heap.size < w9.heap.size := hrow.lt
  clear hrow
  have xa9 := hide ((unhide xa8).of_block (hb9.block _ (unhide xa8).lt))
  have xk9 := hide ((unhide xk8).of_block (hb9.block _ (unhide xk8).lt))
  have B9 := hide ((unhide B8).trans (hb9.mono (unhide B8).size))
  have z9 : w8.heap.size ≤ w9.heap.size := hb9.size
  clear hb9
  go_wp2_with fail
  refine (Ints.eq_same _ _ _ _ l _ (Ints.NAt.row (unhide xa9)) (Ints.NAt.row (unhide va9)) (unhide HLM)).mono ?_
  rintro e w10 ⟨rfl, hb10⟩
  have xk10 := hide ((unhide xk9).of_block (hb10.block _ (unhide xk9).lt))
  have B10 := hide ((unhide B9).trans (hb10.mono (unhide B9).size))
  have z10 : w9.heap.size ≤ w10.heap.size := hb10.size
  clear hb10
  go_wp2_with fail
  refine (Strs.to_bel ak kcap ks _ ((unhide HCK).below (unhide B10) (Nat.le_refl _)) hlenk).mono ?_
  rintro e w11 ⟨rfl, hrow, hb11⟩
  have vk11 := hide hrow
  have qk : w10.heap.size < w11.heap.size := hrow.lt
  clear hrow
  have xk11 := hide ((unhide xk10).of_block (hb11.block _ (unhide xk10).lt))
  have B11 := hide ((unhide B10).trans (hb11.mono (unhide B10).size))
  have z11 : w10.heap.size ≤ w11.heap.size := hb11.size
  clear hb11
  go_wp2_with fail
  refine (Strs.eq_bel _ _ ks _ _ _ (StrsAt.row (unhide xk11)) (StrsAt.row (unhide vk11)) (unhide HKM)).mono ?_
  rintro e w12 ⟨rfl, hb12⟩
  have B12 := hide ((unhide B11).trans (hb12.mono (unhide B11).size))
  have z12 : w11.heap.size ≤ w12.heap.size := hb12.size
  clear hb12
  go_wp2
  go_ret
  exact ⟨rfl, unhide B12⟩

theorem own : ownKnob Try.prog.godebug = none := by kernel_rfl
theorem laidOut : laidOutB Try.prog = true := by kernel_rfl

set_option maxRecDepth 100000 in
theorem lifted (himpl : Impl) (os : Os) (started : os.Started) (H : Type) (enc : TypeId × Value → H) :
    ReturnsInHanded {} Try.checked os 7 .any (Rows.fnExactPlaySessionSpec.pre6 enc Try.prog Try.f7 Rows.fnExactPlaySessionRow.domain false) (Rows.fnExactPlaySessionSpec.post enc Try.prog Try.f7 false true false false) := by
  refine returnsInHanded_of_change (C := Try.checked) own started (by kernel_rfl) Try.func7
    (ChangeSpec.witness6 (enc := enc) (C := Try.checked) false ⟨#[], #[.slice none 0 0, .slice none 0 0], []⟩ 8 (by kernel_rfl) (by kernel_rfl) (by kernel_rfl) (by kernel_rfl)) ?_
  intro W base args ds gs before hval0 hW hcnd _
  have hval : ∀ (j : Nat) t v, Try.f7.params[j]? = some t → args[j]? = some v → Value.okWide Try.prog W .any base t v := hval0
  have hW' := hW
  obtain ⟨p, q, hA0, hV, rfl, hfz, hnd⟩ := hW
  have hA : DataW.TrodAll enc Try.prog W 0 (fun _ => true) true Try.f7.params.toList args.toList ds p := hA0
  rw [Try.params7] at hA hval
  obtain ⟨v0, vs0, d0, ds0, p0, q0, hargs, rfl, rfl, h0, r0⟩ := trodAll_cons hA
  obtain ⟨v1, vs1, d1, ds1, p1, q1, rfl, rfl, rfl, h1, r1⟩ := trodAll_cons r0
  obtain ⟨rfl, rfl, rfl⟩ := trodAll_nil r1
  obtain rfl : args = #[v0, v1] := by cases args; simp_all
  obtain ⟨rfl, rfl⟩ := trodVars_none hV
  have k0 := h0
  have lt0 : ∀ x ∈ p0, x.block < W.heap.size := by obtain ⟨m, hm⟩ := k0; exact DataW.trod_lt m _ _ _ hm
  obtain ⟨x0, y0, z0, rfl⟩ := okWide_slice Try.underlying39 (hval 0 39 v0 rfl rfl)
  obtain ⟨P0, C0, L0, e0, f0, g0⟩ : ∃ (a : Option Addr) (cap : Nat) (l : List Int), Value.slice x0 y0 z0 = .slice a l.length cap ∧ Ints.NAt W a l ∧ l.length ≤ maxLen := by
    obtain ⟨fuel, hf⟩ := h0
    exact Ints.open_of Try.underlying39 Try.underlying3 (by kernel_rfl) hf
  simp only [Value.slice.injEq] at e0
  obtain ⟨ex0, ey0, ez0⟩ := e0
  subst x0 y0 z0
  have k1 := h1
  have lt1 : ∀ x ∈ p1, x.block < W.heap.size := by obtain ⟨m, hm⟩ := k1; exact DataW.trod_lt m _ _ _ hm
  obtain ⟨x1, y1, z1, rfl⟩ := okWide_slice Try.underlying44 (hval 1 44 v1 rfl rfl)
  obtain ⟨P1, C1, L1, e1, f1, g1, i1⟩ : ∃ (a : Option Addr) (cap : Nat) (ss : List ByteArray), Value.slice x1 y1 z1 = .slice a ss.length cap ∧ StrsAt W a ss ∧ ss.length ≤ maxLen ∧ ∀ s ∈ ss, s.size ≤ maxLen := by
    obtain ⟨fuel, hf⟩ := h1
    exact Open.strs_of Try.underlying44 Try.underlying9 (by kernel_rfl) hf
  simp only [Value.slice.injEq] at e1
  obtain ⟨ex1, ey1, ez1⟩ := e1
  subst x1 y1 z1
  clear hA0 hval0
  refine (walk himpl P0 C0 L0 P1 C1 L1 W f0 g0 f1 g1 i1).mono fun e W' ⟨he, bel⟩ => ?_
  subst he
  exact ⟨_, rfl, _, _, _, [], _, [], hW', trodAll_mk1 (shut_bool Try.underlying4 _), (trodAll_cons_mk (Below.trod laidOut (by kernel_rfl) (of_decide_eq_true (by kernel_rfl)) k0 bel lt0) (trodAll_cons_mk (Below.trod laidOut (by kernel_rfl) (of_decide_eq_true (by kernel_rfl)) k1 bel lt1) trodAll_mk0)), rfl, bel.frame _, fun h => by cases h⟩

theorem over (himpl : Impl) : Rows.fnExactPlaySessionRow.holds Try.pinned (OpenSpec.ofChange Rows.fnExactPlaySessionSpec) :=
  OpenClaim.holds_of_wide 7 Try.f7 rfl rfl rfl rfl rfl rfl rfl ⟨rfl, rfl, rfl, rfl, rfl⟩ rfl rfl rfl rfl rfl (by kernel_rfl) Try.func7 (by kernel_rfl)
    (of_decide_eq_true (by kernel_rfl)) (by unfold Func.isWrapper; first | (rw [if_pos (by decide +kernel)]; kernel_rfl) | (rw [if_neg (by decide +kernel)]; exact ⟨rfl, rfl⟩))
    (fun os started H enc _ => lifted himpl os started H enc)

end PlaySessionL
end Go.Proofs.Ytmbkdejlbeailaa
