/-
  FnExactGoodNodes returns true for every slice of nodes, given the contract of the program's GoodNodes.
-/
import Derived.Test.YtcbmdloapmmghaaNodesS
import Derived.Test.YtcbmdloapmmghaaNodeO
import Derived.OpenShut
import Derived.ChangeOld
import Derived.Deep.RegionWith
namespace Go.Proofs.Ytcbmdloapmmghaa
namespace GoodNodesL
open Go.ChangeShapes Go.WideShapes Go.ChangeAt Go.RowKit Base Nodes NodesM
set_option linter.unusedVariables false

/-- What the program's GoodNodes must be shown to do. -/
def Impl : Prop := ∀ (b off cap : Nat) (l : List D) (w : World), b < w.heap.size → (∀ i, i < l.length → At w b (off + i * 2) (l.getD i zero)) → l.length ≤ 1048576 → l.length ≤ cap → (∀ x ∈ l, Fits x) →
  Calls Try.prog 10 #[.slice (some ⟨b, off, none⟩) l.length cap] w fun e w' => e = .returned (.bool (gnB l)) ∧ Below w.heap.size w w'

set_option maxHeartbeats 1000000 in
theorem walk (himpl : Impl) (a : Option Addr) (cap : Nat) (l : List D) (w : World) (hc : LAt w a l) (hcap : l.length ≤ cap) (hl : l.length ≤ maxLen) (hs : ∀ x ∈ l, Fits x) :
    Calls Try.prog 4 #[.slice a l.length cap] w fun e w' => e = .returned (.bool true) ∧ Below w.heap.size w w' := by
  have HC := hide hc
  have HS := hide hs
  have hzl := @szL_len l 1048576
  have hsz := sz_any a cap l 1048576 w hc hl hs (by omega) (by omega)
  generalize szL l 1048576 = z at hzl hsz
  have HSZ := hide hsz
  clear hc hs hsz
  by_cases hz : z < 0
  · clear hzl
    go_enter Try.func4, Try.ntmps4
    go_wp2_with fail
    refine (unhide HSZ).mono ?_
    rintro e w2 ⟨rfl, hb2⟩
    have hB2 := hide hb2
    clear hb2
    go_wp2
    go_ret
    exact ⟨rfl, unhide hB2⟩
  have hlen : l.length ≤ 1048576 := by have := hzl hz; omega
  clear hzl
  have hsp := fun b w hb hc => nodes_some b 0 l.length l w hb hc hl (unhide HS)
  have him := fun b w hb hc => himpl b 0 l.length l w hb hc hlen (Nat.le_refl _) (unhide HS)
  generalize gnB l = gd at hsp him
  have HSP := hide hsp
  have HIM := hide him
  clear hsp him
  cases gd
  all_goals
    go_enter Try.func4, Try.ntmps4
    go_wp2_with fail
    refine (unhide HSZ).mono ?_
    rintro e w2 ⟨rfl, hb2⟩
    have B2 := hide hb2
    clear hb2
    go_wp2_with fail
    refine (to_any a cap l _ ((unhide HC).below (unhide B2) (Nat.le_refl _)) hlen).mono ?_
    rintro e w3 ⟨rfl, hrow3, hb3⟩
    have hrow3 := hide hrow3
    have B3 := hide ((unhide B2).trans (hb3.mono (unhide B2).size))
    clear hb3
    go_wp2_with fail
    refine (unhide HSP _ _ (unhide hrow3).lt (at_row (unhide hrow3))).mono ?_
    rintro e w4 ⟨rfl, hb4⟩
    have B4 := hide ((unhide B3).trans (hb4.mono (unhide B3).size))
    clear hb4
    go_wp2_with fail
    refine (to_any a cap l _ ((unhide HC).below (unhide B4) (Nat.le_refl _)) hlen).mono ?_
    rintro e w5 ⟨rfl, hrow5, hb5⟩
    have hrow5 := hide hrow5
    have B5 := hide ((unhide B4).trans (hb5.mono (unhide B4).size))
    clear hb5
    go_wp2_with fail
    refine (unhide HIM _ _ (unhide hrow5).lt (at_row (unhide hrow5))).mono ?_
    rintro e w6 ⟨rfl, hb6⟩
    have hrow6 := hide ((unhide hrow5).of_block (hb6.block _ (unhide hrow5).lt))
    have B6 := hide ((unhide B5).trans (hb6.mono (unhide B5).size))
    clear hb6
    go_wp2_with fail
    refine (to_any a cap l _ ((unhide HC).below (unhide B6) (Nat.le_refl _)) hlen).mono ?_
    rintro e w7 ⟨rfl, hrow7, hb7⟩
    have hrow7 := hide hrow7
    have hrow8 := hide ((unhide hrow6).of_block (hb7.block _ (unhide hrow6).lt))
    have B7 := hide ((unhide B6).trans (hb7.mono (unhide B6).size))
    clear hb7
    go_wp2_with fail
    refine (eq_same _ _ _ _ l _ (LAt.row (unhide hrow8)) (LAt.row (unhide hrow7)) hl).mono ?_
    rintro e w8 ⟨rfl, hb8⟩
    have B8 := hide ((unhide B7).trans (hb8.mono (unhide B7).size))
    clear hb8
    go_wp2
    go_ret
    exact ⟨rfl, unhide B8⟩

theorem own : ownKnob Try.prog.godebug = none := by kernel_rfl
theorem laidOut : laidOutB Try.prog = true := by kernel_rfl

set_option maxRecDepth 100000 in
theorem lifted (himpl : Impl) (os : Os) (started : os.Started) (H : Type) (enc : TypeId × Value → H) :
    ReturnsInHanded {} Try.checked os 4 .any (Rows.fnExactGoodNodesSpec.pre6 enc Try.prog Try.f4 Rows.fnExactGoodNodesRow.domain false) (Rows.fnExactGoodNodesSpec.post enc Try.prog Try.f4 false true false false) := by
  refine returnsInHanded_of_change (C := Try.checked) own started (by kernel_rfl) Try.func4
    (ChangeSpec.witness6 (enc := enc) (C := Try.checked) false ⟨#[], #[.slice none 0 0], []⟩ 8 (by kernel_rfl) (by kernel_rfl) (by kernel_rfl) (by kernel_rfl)) ?_
  intro W base args ds gs before hval0 hW hcnd _
  have hval : ∀ (j : Nat) t v, Try.f4.params[j]? = some t → args[j]? = some v → Value.okWide Try.prog W .any base t v := hval0
  have hW' := hW
  obtain ⟨p, q, hA0, hV, rfl, hfz, hnd⟩ := hW
  have hA : DataW.TrodAll enc Try.prog W 0 (fun _ => true) true Try.f4.params.toList args.toList ds p := hA0
  rw [Try.params4] at hA hval
  obtain ⟨v0, vs0, d0, ds0, p0, q0, hargs, rfl, rfl, h0, r0⟩ := trodAll_cons hA
  obtain ⟨rfl, rfl, rfl⟩ := trodAll_nil r0
  obtain rfl : args = #[v0] := by cases args; simp_all
  obtain ⟨rfl, rfl⟩ := trodVars_none hV
  have k0 := h0
  have lt0 : ∀ x ∈ p0, x.block < W.heap.size := by obtain ⟨m, hm⟩ := k0; exact DataW.trod_lt m _ _ _ hm
  obtain ⟨x0, y0, z0, rfl⟩ := okWide_slice Try.underlying25 (hval 0 25 v0 rfl rfl)
  obtain ⟨P0, C0, L0, e0, f0, g0, i0, u0⟩ : ∃ (a : Option Addr) (cap : Nat) (l : List Nodes.D), Value.slice x0 y0 z0 = .slice a l.length cap ∧ Nodes.LAt W a l ∧ l.length ≤ cap ∧ l.length ≤ maxLen ∧ ∀ x ∈ l, Nodes.Fits x := by
    obtain ⟨fuel, hf⟩ := h0
    exact Nodes.open_of Try.underlying25 Try.underlying35 (by kernel_rfl) (by kernel_rfl) Try.underlying9 Try.underlying3 hf
  simp only [Value.slice.injEq] at e0
  obtain ⟨ex0, ey0, ez0⟩ := e0
  subst x0 y0 z0
  clear hA0 hval0
  refine (walk himpl P0 C0 L0 W f0 g0 i0 u0).mono fun e W' ⟨he, bel⟩ => ?_
  subst he
  exact ⟨_, rfl, _, _, _, [], _, [], hW', trodAll_mk1 (shut_bool Try.underlying4 _), (trodAll_cons_mk (Below.trod laidOut (by kernel_rfl) (of_decide_eq_true (by kernel_rfl)) k0 bel lt0) trodAll_mk0), rfl, bel.frame _, fun h => by cases h⟩

theorem over (himpl : Impl) : Rows.fnExactGoodNodesRow.holds Try.pinned (OpenSpec.ofChange Rows.fnExactGoodNodesSpec) :=
  OpenClaim.holds_of_wide 4 Try.f4 rfl rfl rfl rfl rfl rfl rfl ⟨rfl, rfl, rfl, rfl, rfl⟩ rfl rfl rfl rfl rfl (by kernel_rfl) Try.func4 (by kernel_rfl)
    (of_decide_eq_true (by kernel_rfl)) (by unfold Func.isWrapper; first | (rw [if_pos (by decide +kernel)]; kernel_rfl) | (rw [if_neg (by decide +kernel)]; exact ⟨rfl, rfl⟩))
    (fun os started H enc _ => lifted himpl os started H enc)
end GoodNodesL
end Go.Proofs.Ytcbmdloapmmghaa
