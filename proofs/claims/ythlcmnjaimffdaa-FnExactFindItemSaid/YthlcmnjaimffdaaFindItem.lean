/-
  FnExactFindItem returns true for every store, time and key, given the contract of the program's FindItem.
-/
import Derived.Test.YthlcmnjaimffdaaItems
import Derived.Test.YthlcmnjaimffdaaStoreF
import Derived.Test.YthlcmnjaimffdaaOpenItems
import Derived.OpenShut
import Derived.ShutString
import Derived.ChangeOld
import Derived.Deep.RegionWith
namespace Go.Proofs.Ythlcmnjaimffdaa
namespace FindItemL
open Go.ChangeShapes Go.WideShapes Go.ChangeAt Go.RowKit Base Items Store
open Go.ChangeMaps (open_string shut_string)
set_option linter.unusedVariables false

/-- What the program's FindItem must be shown to do. -/
def Impl : Prop := ∀ (lim nx : Int) (b off cap : Nat) (its : List Itm) (now : Int) (key : ByteArray) (w : World), b < w.heap.size → (∀ i, i < its.length → At w b (off + i * 5) (its.getD i zero)) →
  its.length ≤ 1048576 → its.length ≤ cap → (∀ x ∈ its, Fits x) → key.size ≤ 1048576 →
  Calls Try.prog 19 #[.agg #[.int .i64 lim, .int .i64 nx, .slice (some ⟨b, off, none⟩) its.length cap], .int .i64 now, .string key] w fun e w' => e = .returned (findV (findB lim nx its now key)) ∧ Below w.heap.size w w'

/-- What findV says, the item and the bool apart. -/
theorem findV_eq (o : Option Itm) : ∃ (x : Itm) (c : Bool), findV o = .tuple #[.agg #[.string x.key, .int .i64 x.flags, .string x.data, .int .i64 x.upto, .int .i64 x.token], .bool c] := by
  cases o
  · exact ⟨zero, false, rfl⟩
  · exact ⟨_, true, rfl⟩

set_option maxHeartbeats 2000000 in
theorem walk (himpl : Impl) (lim nx : Int) (a : Option Addr) (cap : Nat) (its : List Itm) (now : Int) (key : ByteArray) (w : World) (hc : ItemsAt w a its) (hcap : its.length ≤ cap) (hl : its.length ≤ maxLen) (hs : ∀ x ∈ its, Fits x)
    (_hnow : (Lit.int .i64 now).wf = true) (hkey : key.size ≤ maxLen) :
    Calls Try.prog 6 #[.agg #[.int .i64 lim, .int .i64 nx, .slice a its.length cap], .int .i64 now, .string key] w fun e w' => e = .returned (.bool true) ∧ Below w.heap.size w w' := by
  clear _hnow
  unfold maxLen at hkey
  have HC := hide hc
  have HS := hide hs
  have hzl := @szIs_len its 1048576
  have hsz := fun w' (h : ItemsAt w' a its) => szStore_any lim nx a cap its 1048576 w' h hl hs (by omega) (by omega)
  generalize szIs its 1048576 = z at hzl hsz
  have HSZ := hide hsz
  clear hc hs hsz
  by_cases hk : 1048576 < (key.size : Int)
  · clear hzl
    go_enter Try.func6, Try.ntmps6
    go_wp2
    go_ret
    exact ⟨rfl, bel1 w _⟩
  by_cases hz : z < 0
  · clear hzl
    go_enter Try.func6, Try.ntmps6
    go_wp2_with fail
    refine (unhide HSZ _ ((unhide HC).below (bel1 w _) (Nat.le_refl _))).mono ?_
    rintro e w2 ⟨rfl, hb2⟩
    have hB2 := hide ((bel1 w _).trans (hb2.mono (by simp)))
    clear hb2
    go_wp2
    go_ret
    exact ⟨rfl, unhide hB2⟩
  have hlen : its.length ≤ 1048576 := by have := hzl hz; omega
  clear hzl
  have hsp := fun b w hb hc => find_some lim nx b 0 its.length its now key w hb hc hl (Nat.le_refl _) (unhide HS)
  have him := fun b w hb hc => himpl lim nx b 0 its.length its now key w hb hc hlen (Nat.le_refl _) (unhide HS) (by omega)
  obtain ⟨x, c, hxc⟩ := findV_eq (findB lim nx its now key)
  rw [hxc] at hsp him
  clear hxc
  have HSP := hide hsp
  have HIM := hide him
  clear hsp him
  go_enter Try.func6, Try.ntmps6
  go_wp2_with fail
  refine (unhide HSZ _ ((unhide HC).below (bel1 w _) (Nat.le_refl _))).mono ?_
  rintro e w2 ⟨rfl, hb2⟩
  simp only [World.size_alloc] at hb2
  have hx2 := boxcell hb2
  have H2 := hide hb2
  have hz2 : w.heap.size + 1 ≤ w2.heap.size := by have := hb2.size; simp at this; omega
  clear hb2
  go_wp2_with fail
  refine (toStore_any lim nx a cap its _ ((unhide HC).below ((bel1 w _).trans ((unhide H2).mono (by omega))) (Nat.le_refl _)) hlen).mono ?_
  rintro e w3 ⟨b3, rfl, hb3, hrow3, hbel3⟩
  have hrow3 := hide hrow3
  have H3 := hide ((unhide H2).trans (hbel3.mono hz2))
  have hx3 := boxcell (unhide H3)
  have hz3 : w.heap.size + 1 ≤ w3.heap.size := by have := hbel3.size; omega
  clear hx2 hbel3
  go_wp2_with fail
  refine (unhide HSP b3 _ (unhide hrow3).lt (at_row (unhide hrow3))).mono ?_
  rintro e w4 ⟨rfl, hb4⟩
  have H4 := hide ((unhide H3).trans (hb4.mono hz3))
  have hx4 := boxcell (unhide H4)
  have hz4 : w.heap.size < w4.heap.size := by have := hb4.size; omega
  clear hx3 hb4
  go_wp2_with fail
  refine (toStore_any lim nx a cap its _ ((unhide HC).below (((bel1 w _).trans ((unhide H4).mono (by omega))).alloc (by omega) _) (Nat.le_refl _)) hlen).mono ?_
  rintro e w5 ⟨b5, rfl, hb5, hrow5, hbel5⟩
  simp only [World.size_alloc] at hbel5
  have hw5 := boxcell hbel5
  have hrow5 := hide hrow5
  have H5 := hide (((unhide H4).alloc hz4 _).trans (hbel5.mono (by omega)))
  have hx5 := boxcell (unhide H5)
  have hz5 : w4.heap.size < w5.heap.size := by have := hbel5.size; simp at this; omega
  clear hx4 hbel5
  go_wp2_with fail
  refine (unhide HIM b5 _ ?_ (at_row ((unhide hrow5).alloc _))).mono ?_
  · have := (unhide hrow5).lt; simp; omega
  rintro e w6 ⟨rfl, hb6⟩
  simp only [World.size_alloc] at hb6
  have hrow6 := hide (((unhide hrow5).alloc _).of_block (hb6.block b5 (by have := (unhide hrow5).lt; omega)))
  have H6 := hide (((unhide H5).alloc (by omega) _).trans (hb6.mono (by omega)))
  have hx6 := boxcell (unhide H6)
  have hX6 := boxcell hb6
  have hw6 : ∀ o, w6.cell? ⟨w4.heap.size, o, none⟩ = w5.cell? ⟨w4.heap.size, o, none⟩ := fun o => (hb6.cell (p := ⟨w4.heap.size, o, none⟩) (by simp; omega)).trans (World.cell?_alloc_past _ _ _ (by omega))
  have hz6 : w5.heap.size < w6.heap.size := by have := hb6.size; simp at this; omega
  have hz46 : w4.heap.size < w6.heap.size := by omega
  clear hx5 hb6
  go_wp2_with fail
  refine (eqItem_same x _).mono ?_
  rintro e w7 ⟨rfl, hb7⟩
  have H7 := hide (((unhide H6).alloc (by omega) _).trans (hb7.mono (by simp; omega)))
  have hx7 := boxcell (unhide H7)
  have hX7 : ∀ o, w7.cell? ⟨w5.heap.size, o, none⟩ = (w5.alloc (.cells #[.int .i64 lim, .int .i64 nx, .slice (some ⟨b5, 0, none⟩) its.length its.length] 29)).cell? ⟨w5.heap.size, o, none⟩ := fun o => ((hb7.cell (p := ⟨w5.heap.size, o, none⟩) (by simp; omega)).trans (World.cell?_alloc_past _ _ _ (by omega))).trans (hX6 o)
  have hrow7 := hide (((unhide hrow6).alloc _).of_block (hb7.block b5 (by have := (unhide hrow6).lt; simp; omega)))
  have hz7 : w6.heap.size < w7.heap.size := by have := hb7.size; simp at this; omega
  clear hx6 hb7 hX6 hw6
  go_wp2_with fail
  have HS0 : Hid (ItemsAt w7.drew a its) := (unhide HC).below (((bel1 w _).trans ((unhide H7).mono (by omega))).drew) (Nat.le_refl _)
  have HS6 : Hid (ItemsAt w7.drew (some ⟨b5, 0, none⟩) its) := ItemsAt.row (unhide hrow7).drew
  have HB6 : Hid (Below w.heap.size w w7.drew) := ((bel1 w _).trans ((unhide H7).mono (by omega))).drew
  go_region_with (first | (go_at_call 9; refine (toStore_any lim nx a cap its _ (unhide HS0) hlen).mono ?_; rintro e w8 ⟨b8, rfl, hb8, hrow8, hbel8⟩; have hX8 := fun o => hbel8.cell (p := ⟨w5.heap.size, o, none⟩) (by simp; omega); have hrow8 := hide hrow8; have hbel8 := hide hbel8) | (go_at_call 11; refine (eqStore_same lim nx (some ⟨b5, 0, none⟩) (some ⟨b8, 0, none⟩) its.length its.length its _ ((unhide HS6).below (unhide hbel8) (Nat.le_refl _)) (ItemsAt.row (unhide hrow8)) hl).mono ?_; rintro e w9 ⟨rfl, hbel9⟩; have hbel9 := hide hbel9))
  all_goals go_wp2
  all_goals
    go_ret
    exact ⟨rfl, ((unhide HB6).trans ((unhide hbel8).mono (unhide HB6).size)).trans ((unhide hbel9).mono (Nat.le_trans (unhide HB6).size (unhide hbel8).size))⟩

theorem own : ownKnob Try.prog.godebug = none := by kernel_rfl
theorem laidOut : laidOutB Try.prog = true := by kernel_rfl

set_option maxRecDepth 100000 in
theorem lifted (himpl : Impl) (os : Os) (started : os.Started) (H : Type) (enc : TypeId × Value → H) :
    ReturnsInHanded {} Try.checked os 6 .any (Rows.fnExactFindItemSpec.pre6 enc Try.prog Try.f6 Rows.fnExactFindItemRow.domain false) (Rows.fnExactFindItemSpec.post enc Try.prog Try.f6 false true false false) := by
  refine returnsInHanded_of_change (C := Try.checked) own started (by kernel_rfl) Try.func6
    (ChangeSpec.witness6 (enc := enc) (C := Try.checked) false ⟨#[], #[.agg #[.int .i64 0, .int .i64 0, .slice none 0 0], .int .i64 0, .string ByteArray.empty], []⟩ 8 (by kernel_rfl) (by kernel_rfl) (by kernel_rfl) (by kernel_rfl)) ?_
  intro W base args ds gs before hval0 hW hcnd _
  have hval : ∀ (j : Nat) t v, Try.f6.params[j]? = some t → args[j]? = some v → Value.okWide Try.prog W .any base t v := hval0
  have hW' := hW
  obtain ⟨p, q, hA0, hV, rfl, hfz, hnd⟩ := hW
  have hA : DataW.TrodAll enc Try.prog W 0 (fun _ => true) true Try.f6.params.toList args.toList ds p := hA0
  rw [Try.params6] at hA hval
  obtain ⟨v0, vs0, d0, ds0, p0, q0, hargs, rfl, rfl, h0, r0⟩ := trodAll_cons hA
  obtain ⟨v1, vs1, d1, ds1, p1, q1, rfl, rfl, rfl, h1, r1⟩ := trodAll_cons r0
  obtain ⟨v2, vs2, d2, ds2, p2, q2, rfl, rfl, rfl, h2, r2⟩ := trodAll_cons r1
  obtain ⟨rfl, rfl, rfl⟩ := trodAll_nil r2
  obtain rfl : args = #[v0, v1, v2] := by cases args; simp_all
  obtain ⟨rfl, rfl⟩ := trodVars_none hV
  have k0 := h0
  have lt0 : ∀ x ∈ p0, x.block < W.heap.size := by obtain ⟨m, hm⟩ := k0; exact DataW.trod_lt m _ _ _ hm
  obtain ⟨cs0, rfl, sz0⟩ := okWide_struct Try.underlying24 (hval 0 24 v0 rfl rfl)
  obtain ⟨ca0, cb0, cc0, rfl⟩ := Open.array3 (sz0.trans (show Try.prog.cellsOf 24 = 3 by kernel_rfl))
  obtain ⟨_, _, g0a⟩ := Open.field_at Try.underlying24 (by kernel_rfl) h0 0 _ rfl _ rfl
  obtain ⟨_, _, g0b⟩ := Open.field_at Try.underlying24 (by kernel_rfl) h0 1 _ rfl _ rfl
  obtain ⟨_, _, g0c⟩ := Open.field_at Try.underlying24 (by kernel_rfl) h0 2 _ rfl _ rfl
  obtain ⟨lim0, e0a, _, _⟩ := DataW.trod_int Try.underlying3 g0a
  obtain ⟨nx0, e0b, _, _⟩ := DataW.trod_int Try.underlying3 g0b
  obtain ⟨P0, C0, L0, e0c, f0, u0, i0, t0⟩ := Open.items_of Try.underlying22 Try.underlying75 (by kernel_rfl) (by kernel_rfl) Try.underlying9 Try.underlying3 Try.underlying9 Try.underlying3 Try.underlying3 g0c
  simp only [List.cons.injEq, and_true] at e0a e0b
  subst e0a e0b e0c
  have k1 := h1
  have lt1 : ∀ x ∈ p1, x.block < W.heap.size := by obtain ⟨m, hm⟩ := k1; exact DataW.trod_lt m _ _ _ hm
  obtain ⟨a1, rfl, rfl, rfl, w1⟩ := open_int Try.underlying3 (hval 1 3 v1 rfl rfl) h1
  have k2 := h2
  have lt2 : ∀ x ∈ p2, x.block < W.heap.size := by obtain ⟨m, hm⟩ := k2; exact DataW.trod_lt m _ _ _ hm
  obtain ⟨s2, rfl, rfl, rfl, b2⟩ := open_string Try.underlying9 (hval 2 9 v2 rfl rfl) h2
  clear hA0 hval0
  refine (walk himpl lim0 nx0 P0 C0 L0 a1 s2 W f0 u0 i0 t0 w1 b2).mono fun e W' ⟨he, bel⟩ => ?_
  subst he
  exact ⟨_, rfl, _, _, _, [], _, [], hW', trodAll_mk1 (shut_bool Try.underlying4 _), (trodAll_cons_mk (Below.trod laidOut (by kernel_rfl) (of_decide_eq_true (by kernel_rfl)) k0 bel lt0) (trodAll_cons_mk (Below.trod laidOut (by kernel_rfl) (of_decide_eq_true (by kernel_rfl)) k1 bel lt1) (trodAll_cons_mk (Below.trod laidOut (by kernel_rfl) (of_decide_eq_true (by kernel_rfl)) k2 bel lt2) trodAll_mk0))), rfl, bel.frame _, fun h => by cases h⟩

theorem over (himpl : Impl) : Rows.fnExactFindItemRow.holds Try.pinned (OpenSpec.ofChange Rows.fnExactFindItemSpec) :=
  OpenClaim.holds_of_wide 6 Try.f6 rfl rfl rfl rfl rfl rfl rfl ⟨rfl, rfl, rfl, rfl, rfl⟩ rfl rfl rfl rfl rfl (by kernel_rfl) Try.func6 (by kernel_rfl)
    (of_decide_eq_true (by kernel_rfl)) (by unfold Func.isWrapper; first | (rw [if_pos (by decide +kernel)]; kernel_rfl) | (rw [if_neg (by decide +kernel)]; exact ⟨rfl, rfl⟩))
    (fun os started H enc _ => lifted himpl os started H enc)
end FindItemL
end Go.Proofs.Ythlcmnjaimffdaa
