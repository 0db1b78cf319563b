/-
  FnExactChargeOf returns true for every store: the program's ChargeOf answers as the model's, and leaves its argument alone. No condition.
-/
import Derived.Test.YthlcmnjaimffdaaChargeOf
import Derived.Test.YthlcmnjaimffdaaShelfG
namespace Go.Proofs.Ythlcmnjaimffdaa
namespace Shelf
open Go.RowKit Base Items Keep Own Chain Store
set_option linter.unusedVariables false

set_option maxRecDepth 10000 in
set_option maxHeartbeats 1000000 in
theorem chargeOf_some (lim nx : Int) (b off cap : Nat) (its : List Itm) (w : World) (hb : b < w.heap.size) (hc : ∀ i, i < its.length → At w b (off + i * 5) (its.getD i zero))
    (hl : its.length ≤ 1048576) (hcap : its.length ≤ cap) (hs : ∀ x ∈ its, Fits x) :
    Calls Try.prog 13 #[.agg #[.int .i64 lim, .int .i64 nx, .slice (some ⟨b, off, none⟩) its.length cap]] w fun e w' =>
      e = .returned (.tuple #[.int .i64 (ChargeOfL.chB lim nx its), .bool (gsB lim nx its)]) ∧ Below w.heap.size w w' := by
  have hgood := fun w' (hb' : Below w.heap.size w w') => Store.impl_some lim nx b off cap its w' (Nat.lt_of_lt_of_le hb hb'.size) (fun i hi => (hc i hi).below hb' hb) (by unfold maxLen; omega) hcap hs
  have hshelf := fun w' (hb' : Below w.heap.size w w') hl' hs' hk' => shelfOf_some lim nx b off cap its w' (Nat.lt_of_lt_of_le hb hb'.size) (fun i hi => (hc i hi).below hb' hb) hl' hs' hk'
  have HSH := hide hshelf
  clear hc hs hshelf
  cases g1 : gsB lim nx its
  · have H : Hid (ChargeOfL.chB lim nx its = 0) := by show ChargeOfL.chB lim nx its = 0; rw [ChargeOfL.chB, g1]; rfl
    rw [g1] at hgood
    have HG := hide hgood
    clear hgood g1
    go_enter Try.func13, Try.ntmps13
    go_wp2_with fail
    refine (unhide HG _ (bel1 w _)).mono ?_
    rintro e w1 ⟨rfl, hb1⟩
    have hb1 := hide ((bel1 w _).trans (hb1.mono (by simp)))
    go_wp2
    go_ret2
    exact ⟨ChargeOfL.ret_ib (unhide H).symm, unhide hb1⟩
  · have H : Hid (ChargeOfL.chB lim nx its = total its) := by show ChargeOfL.chB lim nx its = _; rw [ChargeOfL.chB, g1]; rfl
    have HK := hide (good_keys g1)
    rw [g1] at hgood
    have HG := hide hgood
    clear hgood g1
    go_enter Try.func13, Try.ntmps13
    go_wp2_with fail
    refine (unhide HG _ (bel1 w _)).mono ?_
    rintro e w1 ⟨rfl, hb1⟩
    simp only [World.size_alloc] at hb1
    have hx1 := boxcell hb1
    have hb1 := hide ((bel1 w _).trans (hb1.mono (by simp)))
    go_wp2_with fail
    refine (unhide HSH _ (unhide hb1) (by have := (unhide HK).1; omega) (unhide HK).2.1 (unhide HK).2.2).mono ?_
    rintro e w2 ⟨h, S, rfl, hsh, hS, hb2⟩
    obtain ⟨gl, gf, bm, ls, free, order, cl, vf, D, hp⟩ := hsh
    obtain ⟨c0, c1, c2, c3, c4, c5, c6⟩ := hp.mem.box.cells
    have HB2 := hide ((unhide hb1).trans (hb2.mono (unhide hb1).size))
    clear c0 c1 c3 c4 c5 c6 hp hS hb2 hx1
    go_wp2
    go_ret2
    exact ⟨ChargeOfL.ret_ib (unhide H).symm, unhide HB2⟩
end Shelf
theorem chargeOf_holds : Rows.FnExactChargeOfSaid := ChargeOfL.over Shelf.chargeOf_some
end Go.Proofs.Ythlcmnjaimffdaa
