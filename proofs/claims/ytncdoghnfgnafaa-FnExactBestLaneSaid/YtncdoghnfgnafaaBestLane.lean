/-
  FnExactBestLane returns true for every slice of lanes and every key: the program's BestLane answers as the model's, and leaves its arguments alone. No condition.
-/
import Derived.Test.YtncdoghnfgnafaaLnH
import Derived.Test.YtncdoghnfgnafaaLnO
import Derived.Test.YtncdoghnfgnafaaLnS
import Derived.Test.YtncdoghnfgnafaaLnI
import Derived.OpenShut
import Derived.ShutString
import Derived.ChangeOld
namespace Go.Proofs.Ytncdoghnfgnafaa
namespace BestLaneL
open Go.ChangeShapes Go.WideShapes Go.ChangeAt Go.RowKit Base Lanes
open Go.ChangeMaps (open_string shut_string)
set_option linter.unusedVariables false

set_option maxRecDepth 100000 in
set_option maxHeartbeats 4000000 in
theorem walk (a : Option Addr) (cap : Nat) (L : List Ln) (key : ByteArray) (w : World) (hc : LsAt w a L) (hcap : L.length ≤ cap) (hl : L.length ≤ maxLen) (hs : ∀ x ∈ L, x.ws.length ≤ maxLen) (hk : key.size ≤ maxLen) :
    Calls Try.prog 8 #[.slice a L.length cap, .string key] w fun e w' => e = .returned (.bool true) ∧ Below w.heap.size w w' := by
  by_cases g : 1048576 < (key.size : Int)
  · clear hc hs
    unfold maxLen at hk hl
    go_enter Try.func8, Try.ntmps8
    go_wp2
    go_ret
    exact ⟨rfl, Below.refl _ _⟩
  have HC := hide hc
  have HKS := hide hk
  have hzl := @szLs_len L 1048576
  have hsz := szs_any a cap L 1048576 w hc hl hs (by omega) (by omega)
  generalize szLs L 1048576 = z at hzl hsz
  have HSZ := hide hsz
  clear hc hs hsz
  unfold maxLen at hk
  by_cases hz : z < 0
  · clear hzl
    go_enter Try.func8, Try.ntmps8
    go_wp2_with fail
    refine (unhide HSZ).mono ?_
    rintro e w2 ⟨rfl, hb2⟩
    have hB2 := hide hb2
    clear hb2
    go_wp2
    go_ret
    exact ⟨rfl, unhide hB2⟩
  have hlen : L.length ≤ 1048576 := by have := (hzl hz).1; omega
  have HS : Hid (∀ x ∈ L, x.ws.length ≤ 1048576) := fun x hx => by have := (hzl hz).2 x hx; omega
  clear hzl hl
  have HM : Hid (∀ M : List Ln, M.map core = L.map core → ∀ x ∈ M, x.ws.length ≤ 1048576) := fun M h x hx => by
    have h2 : core x ∈ L.map core := by rw [← h]; exact List.mem_map.2 ⟨x, hx, rfl⟩
    obtain ⟨y, hy, e⟩ := List.mem_map.1 h2
    have := unhide HS y hy
    have e2 : y.ws = x.ws := congrArg Core.ws e
    rw [← e2]
    exact this
  have hsp := fun b M w' (hR : RAt w' b M) (h : M.map core = L.map core) => best_spec b L.length M key w' hR (map_len h) hlen (unhide HM M h) (unhide HKS)
  have him := fun b M w' (hR : RAt w' b M) (h : M.map core = L.map core) => best_impl b L.length M key w' hR (map_len h) hlen (unhide HM M h) (unhide HKS)
  have hsp2 : ∀ b M w' (hR : RAt w' b M) (h : M.map core = L.map core), Calls Try.prog 28 #[.slice (some ⟨b, 0, none⟩) L.length L.length, .string key] w' fun e w'' => e = .returned (.tuple #[.int .i64 (bestR (L.map core) key).1, .bool (bestR (L.map core) key).2]) ∧ Below w'.heap.size w' w'' := fun b M w' hR h => by have := hsp b M w' hR h; rw [h] at this; exact this
  have him2 : ∀ b M w' (hR : RAt w' b M) (h : M.map core = L.map core), Calls Try.prog 30 #[.slice (some ⟨b, 0, none⟩) L.length L.length, .string key] w' fun e w'' => e = .returned (.tuple #[.int .i64 (bestR (L.map core) key).1, .bool (bestR (L.map core) key).2]) ∧ Below w'.heap.size w' w'' := fun b M w' hR h => by have := him b M w' hR h; rw [h] at this; exact this
  clear hsp him
  generalize bestR (L.map core) key = T at hsp2 him2
  obtain ⟨t0, tok⟩ := T
  dsimp only at hsp2 him2
  have HSP := hide hsp2
  have HIM := hide him2
  clear hsp2 him2
  have hok : (tok != tok) = false := by cases tok <;> rfl
  go_enter Try.func8, Try.ntmps8
  go_wp2_with fail
  refine (unhide HSZ).mono ?_
  rintro e w2 ⟨rfl, hb2⟩
  have B2 := hide hb2
  clear hb2
  go_wp2_with fail
  refine (tos_any a cap L _ ((unhide HC).below (unhide B2) (Nat.le_refl _)) hlen (unhide HS)).mono ?_
  rintro e w3 ⟨rfl, ⟨L3, e3, hR3⟩, hb3⟩
  have B3 := hide ((unhide B2).trans (hb3.mono (unhide B2).size))
  have E3 := hide e3
  have R3 := hide hR3
  clear hb3 e3 hR3
  go_wp2_with fail
  refine (unhide HSP _ L3 _ (unhide R3) (unhide E3)).mono ?_
  rintro e w4 ⟨rfl, hb4⟩
  have B4 := hide ((unhide B3).trans (hb4.mono (unhide B3).size))
  clear hb4 R3 E3
  go_wp2_with fail
  refine (tos_any a cap L _ ((unhide HC).below (unhide B4) (Nat.le_refl _)) hlen (unhide HS)).mono ?_
  rintro e w5 ⟨rfl, ⟨L5, e5, hR5⟩, hb5⟩
  have B5 := hide ((unhide B4).trans (hb5.mono (unhide B4).size))
  have E5 := hide e5
  have R5 := hide hR5
  clear hb5 e5 hR5
  go_wp2_with fail
  refine (unhide HIM _ L5 _ (unhide R5) (unhide E5)).mono ?_
  rintro e w6 ⟨rfl, hb6⟩
  have B6 := hide ((unhide B5).trans (hb6.mono (unhide B5).size))
  have R6 := hide ((unhide R5).below hb6 (Nat.le_refl _))
  clear hb6 R5
  go_wp2_with fail
  refine (tos_any a cap L _ ((unhide HC).below (unhide B6) (Nat.le_refl _)) hlen (unhide HS)).mono ?_
  rintro e w7 ⟨rfl, ⟨L7, e7, hR7⟩, hb7⟩
  have B7 := hide ((unhide B6).trans (hb7.mono (unhide B6).size))
  have R7 := hide ((unhide R6).below hb7 (Nat.le_refl _))
  have E7 := hide e7
  have Q7 := hide hR7
  clear hb7 e7 hR7 R6
  go_wp2_with fail
  refine (eqs_same _ _ L.length L5 L7 _ (unhide R7) (unhide Q7) ((unhide E5).trans (unhide E7).symm) (map_len (unhide E5)) hlen (unhide HM L5 (unhide E5))).mono ?_
  rintro e w8 ⟨rfl, hb8⟩
  have B8 := hide ((unhide B7).trans (hb8.mono (unhide B7).size))
  clear hb8
  go_wp2
  go_ret
  exact ⟨rfl, unhide B8⟩

theorem own : ownKnob Try.prog.godebug = none := by kernel_rfl
theorem laidOut : laidOutB Try.prog = true := by kernel_rfl

set_option maxRecDepth 100000 in
theorem lifted (os : Os) (started : os.Started) (H : Type) (enc : TypeId × Value → H) :
    ReturnsInHanded {} Try.checked os 8 .any (Rows.fnExactBestLaneSpec.pre6 enc Try.prog Try.f8 Rows.fnExactBestLaneRow.domain false) (Rows.fnExactBestLaneSpec.post enc Try.prog Try.f8 false true false false) := by
  refine returnsInHanded_of_change (C := Try.checked) own started (by kernel_rfl) Try.func8
    (ChangeSpec.witness6 (enc := enc) (C := Try.checked) false ⟨#[], #[.slice none 0 0, .string ByteArray.empty], []⟩ 8 (by kernel_rfl) (by kernel_rfl) (by kernel_rfl) (by kernel_rfl)) ?_
  intro W base args ds gs before hval0 hW hcnd _
  have hval : ∀ (j : Nat) t v, Try.f8.params[j]? = some t → args[j]? = some v → Value.okWide Try.prog W .any base t v := hval0
  have hW' := hW
  obtain ⟨p, q, hA0, hV, rfl, hfz, hnd⟩ := hW
  have hA : DataW.TrodAll enc Try.prog W 0 (fun _ => true) true Try.f8.params.toList args.toList ds p := hA0
  rw [Try.params8] at hA hval
  obtain ⟨v0, vs0, d0, ds0, p0, q0, hargs, rfl, rfl, h0, r0⟩ := trodAll_cons hA
  obtain ⟨v1, vs1, d1, ds1, p1, q1, rfl, rfl, rfl, h1, r1⟩ := trodAll_cons r0
  obtain ⟨rfl, rfl, rfl⟩ := trodAll_nil r1
  obtain rfl : args = #[v0, v1] := by cases args; simp_all
  obtain ⟨rfl, rfl⟩ := trodVars_none hV
  have k0 := h0
  have lt0 : ∀ x ∈ p0, x.block < W.heap.size := by obtain ⟨m, hm⟩ := k0; exact DataW.trod_lt m _ _ _ hm
  obtain ⟨x0, y0, z0, rfl⟩ := okWide_slice Try.underlying47 (hval 0 47 v0 rfl rfl)
  obtain ⟨P0, C0, L0, e0, f0, g0, i0, u0⟩ : ∃ (a : Option Addr) (cap : Nat) (L : List Lanes.Ln), Value.slice x0 y0 z0 = .slice a L.length cap ∧ Lanes.LsAt W a L ∧ L.length ≤ cap ∧ L.length ≤ maxLen ∧ ∀ x ∈ L, x.ws.length ≤ maxLen := by
    obtain ⟨fuel, hf⟩ := h0
    exact Lanes.open_of Try.underlying47 Try.underlying24 (by kernel_rfl) (by kernel_rfl) Try.underlying3 Try.underlying3 Try.underlying22 Try.underlying71 (by kernel_rfl) (by kernel_rfl) Try.underlying3 Try.underlying3 hf
  simp only [Value.slice.injEq] at e0
  obtain ⟨ex0, ey0, ez0⟩ := e0
  subst x0 y0 z0
  have k1 := h1
  have lt1 : ∀ x ∈ p1, x.block < W.heap.size := by obtain ⟨m, hm⟩ := k1; exact DataW.trod_lt m _ _ _ hm
  obtain ⟨s1, rfl, rfl, rfl, b1⟩ := open_string Try.underlying9 (hval 1 9 v1 rfl rfl) h1
  clear hA0 hval0
  refine (walk P0 C0 L0 s1 W f0 g0 i0 u0 b1).mono fun e W' ⟨he, bel⟩ => ?_
  subst he
  exact ⟨_, rfl, _, _, _, [], _, [], hW', trodAll_mk1 (shut_bool Try.underlying4 _), (trodAll_cons_mk (Below.trod laidOut (by kernel_rfl) (of_decide_eq_true (by kernel_rfl)) k0 bel lt0) (trodAll_cons_mk (Below.trod laidOut (by kernel_rfl) (of_decide_eq_true (by kernel_rfl)) k1 bel lt1) trodAll_mk0)), rfl, bel.frame _, fun h => by cases h⟩

theorem over : Rows.fnExactBestLaneRow.holds Try.pinned (OpenSpec.ofChange Rows.fnExactBestLaneSpec) :=
  OpenClaim.holds_of_wide 8 Try.f8 rfl rfl rfl rfl rfl rfl rfl ⟨rfl, rfl, rfl, rfl, rfl⟩ rfl rfl rfl rfl rfl (by kernel_rfl) Try.func8 (by kernel_rfl)
    (of_decide_eq_true (by kernel_rfl)) (by unfold Func.isWrapper; first | (rw [if_pos (by decide +kernel)]; kernel_rfl) | (rw [if_neg (by decide +kernel)]; exact ⟨rfl, rfl⟩))
    (fun os started H enc _ => lifted os started H enc)

end BestLaneL
end Go.Proofs.Ytncdoghnfgnafaa
