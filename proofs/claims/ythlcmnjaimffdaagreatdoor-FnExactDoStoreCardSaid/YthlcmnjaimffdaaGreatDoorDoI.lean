/-
  The program's DoStore: what it answers, and what it leaves in memory.
-/
import Derived.Test.YthlcmnjaimffdaaGreatDoorShelfBC
import Derived.Test.YthlcmnjaimffdaaGreatDoorVarsF
import Derived.Test.YthlcmnjaimffdaaGreatDoorGoodCmds
import Derived.Test.YthlcmnjaimffdaaGreatDoorSets
import Derived.Test.YthlcmnjaimffdaaGreatDoorMarked
namespace Go.Proofs.YthlcmnjaimffdaaGreatDoor
namespace Shelf
open Go.RowKit Base Items Keep Own Chain Store GoodKey NumText
set_option linter.unusedVariables false

theorem sh_mk {w0 w : World} {hb : Nat} {S : List Nat} {lim nx lost : Int} {its : List Itm} (h : Shelf w hb S lim nx lost its) (hS : ∀ b ∈ S, w0.heap.size ≤ b) (hb0 : Below w0.heap.size w0 w) (h0 : 0 < w0.heap.size) : Shx w0 w hb lim nx lost its := by
  exact ⟨[], S, h, fun b hm => ⟨hS b hm, fun g hg => absurd hg (by simp)⟩, hb0, fun g hg => absurd hg (by simp)⟩
theorem Shx.step {w0 w w' : World} {hb : Nat} {S : List Nat} {lim nx lost : Int} {its : List Itm} (hS : ∀ b ∈ S, w0.heap.size ≤ b) (hb0 : Below w0.heap.size w0 w) (h0 : 0 < w0.heap.size) (hst : Step w w' hb S lim nx lost its) : Shx w0 w' hb lim nx lost its := by
  obtain ⟨S', hs', hS', hk⟩ := hst
  exact sh_mk hs' (fun b h => (hS' b h).elim (hS b) (fun h => Nat.le_trans hb0.size h)) (hb0.trans (hk.below hS hb0.size)) h0
theorem Shx.bel {w0 w : World} {hb : Nat} {lim nx lost : Int} {its : List Itm} (h : Shx w0 w hb lim nx lost its) : Below w0.heap.size w0 w := by
  obtain ⟨G, h⟩ := h
  exact h.bel
theorem Shx.lost {w0 w : World} {hb : Nat} {lim nx lost : Int} {its : List Itm} (h : Shx w0 w hb lim nx lost its) : hb < w.heap.size ∧ w.cell? ⟨hb, 3, none⟩ = some (.int .i64 lost) := by
  obtain ⟨G, S, ⟨gl, gf, bm, ls, free, order, cl, vf, D, hp⟩, _⟩ := h
  obtain ⟨c0, c1, c2, c3, c4, c5, c6⟩ := hp.mem.box.cells
  exact ⟨hp.mem.box.lt, c3⟩
theorem Shx.store {w0 w : World} {hb : Nat} {lim nx lost : Int} {its : List Itm} (h : Shx w0 w hb lim nx lost its) (hl : its.length ≤ 100) (w' : World) (hb' : Below w.heap.size w w') :
    Calls Tryz.prog 29 #[.pointer (some ⟨hb, 0, none⟩)] w' fun e w'' => ∃ a cap, e = .returned (.agg #[.int .i64 lim, .int .i64 nx, .slice a its.length cap]) ∧
      w''.ownsRow w'.heap.size 71 5 (.slice a its.length cap) its.length (flat its) ∧ Below w'.heap.size w' w'' := by
  obtain ⟨G, S, hs, _⟩ := h
  exact store_shelf w' hb S lim nx lost its (hs.below hb') hl

theorem Vars_below {w w' : World} (h : Count.Vars w) (hb : Below w.heap.size w w') : Count.Vars w' := h.below hb

set_option maxRecDepth 10000 in
set_option maxHeartbeats 4000000 in
theorem doStore_impl (lim nx : Int) (b off cap : Nat) (its : List Itm) (now : Int) (nm : ByteArray) (kb ko kc : Nat) (ks : List ByteArray) (f x n : Int) (dt : ByteArray) (q : Bool) (w : World)
    (hb : b < w.heap.size) (hc : ∀ i, i < its.length → At w b (off + i * 5) (its.getD i zero)) (hl : its.length ≤ 1048576) (hcap : its.length ≤ cap) (hs : ∀ x ∈ its, Fits x)
    (hkb : kb < w.heap.size) (hkc : ∀ i, i < ks.length → w.cell? ⟨kb, ko + i, none⟩ = some (.string (ks.getD i ByteArray.empty))) (hkl : ks.length ≤ maxLen) (hks : ∀ s ∈ ks, s.size ≤ maxLen) (hd : dt.size ≤ maxLen) (hvf : VarsF w) :
    Calls Tryz.prog 9 #[.agg #[.int .i64 lim, .int .i64 nx, .slice (some ⟨b, off, none⟩) its.length cap], .int .i64 now, .agg #[.string nm, .slice (some ⟨kb, ko, none⟩) ks.length kc, .int .i64 f, .int .i64 x, .int .i64 n, .string dt, .bool q]] w
      (DoEnd (doR lim nx its now nm.toList ks f x n dt q) w) := by
  obtain ⟨hv, p, hF⟩ := hvf
  have HFU := hide hF
  clear hF
  have hgood := fun w' (hb' : Below w.heap.size w w') => Store.impl_some lim nx b off cap its w' (Nat.lt_of_lt_of_le hb hb'.size) (fun i hi => (hc i hi).below hb' hb) (by unfold maxLen; omega) hcap hs
  have hcm := fun w' (hb' : Below w.heap.size w w') => GoodCmdI.impl_any nm kb ko kc ks f x n dt q w' (Nat.lt_of_lt_of_le hkb hb'.size) (fun i hi => (hb'.cell (p := ⟨kb, ko + i, none⟩) hkb).trans (hkc i hi)) hkl hks hd
  have hshelf := fun w' (hb' : Below w.heap.size w w') hl' hs' hk' => shelfOf_some lim nx b off cap its w' (Nat.lt_of_lt_of_le hb hb'.size) (fun i hi => (hc i hi).below hb' hb) hl' hs' hk'
  have HSH := hide hshelf
  have HKC := hide hkc
  have HV := hide hv
  clear hc hs hshelf hkc hks hd hv
  have hno : ∀ (w1 : World), Below w.heap.size w w1 → doR lim nx its now nm.toList ks f x n dt q = noDone → DoEnd (doR lim nx its now nm.toList ks f x n dt q) w (.returned (.tuple #[.agg #[.int .i64 0, .int .i64 0, .slice none 0 0], .string ⟨#[]⟩, .int .i64 0, .bool false])) w1 := by
    intro w1 hb1 e
    rw [e]
    exact ⟨none, 0, none, rfl, .inl ⟨rfl, rfl⟩, fun g h => by simp at h, hb1⟩
  have HNO := hide hno
  clear hno
  cases g1 : gsB lim nx its
  · have H : Hid (doR lim nx its now nm.toList ks f x n dt q = noDone) := by show doR lim nx its now nm.toList ks f x n dt q = _; simp [doR, g1]
    rw [g1] at hgood
    have HG := hide hgood
    clear hgood g1 hcm
    generalize doR lim nx its now nm.toList ks f x n dt q = T at H HNO ⊢
    go_enter Tryz.func9, Tryz.ntmps9
    go_wp2_with fail
    refine (unhide HG _ (bel3 w _ _ _)).mono ?_
    rintro e w1 ⟨rfl, hb1⟩
    simp only [World.size_alloc] at hb1
    have hB1 := hide ((bel3 w _ _ _).trans (hb1.mono (by omega)))
    have hr := fun o => hb1.cell (p := ⟨w.heap.size + 1 + 1, o, none⟩) (by simp)
    have hrf := fun o => hb1.frozen (p := ⟨w.heap.size + 1 + 1, o, none⟩) (by simp)
    clear hb1
    go_wp2
    refine bodyPost_ret (v := .tuple #[.agg #[.int .i64 0, .int .i64 0, .slice none 0 0], .string ⟨#[]⟩, .int .i64 0, .bool false]) (by simp [results, Tryz.results9, go_sem, hr]; done) rfl (unhide HNO _ ?_ (unhide H))
    repeat (refine Below.setCell ?_ (by first | (simp; done) | (simp; omega)) _)
    exact unhide hB1
  have HK := hide (good_keys g1)
  have HOK := hide (store_ok g1)
  rw [g1] at hgood
  have HG := hide hgood
  clear hgood
  cases g2 : inB now 0 1000000000
  · have H : Hid (doR lim nx its now nm.toList ks f x n dt q = noDone) := by show doR lim nx its now nm.toList ks f x n dt q = _; simp [doR, g1, g2]
    clear g1 hcm
    generalize doR lim nx its now nm.toList ks f x n dt q = T at H HNO ⊢
    go_enter Tryz.func9, Tryz.ntmps9
    go_wp2_with fail
    refine (unhide HG _ (bel3 w _ _ _)).mono ?_
    rintro e w1 ⟨rfl, hb1⟩
    simp only [World.size_alloc] at hb1
    have hB1 := hide ((bel3 w _ _ _).trans (hb1.mono (by omega)))
    have hr := fun o => hb1.cell (p := ⟨w.heap.size + 1 + 1, o, none⟩) (by simp)
    have hrf := fun o => hb1.frozen (p := ⟨w.heap.size + 1 + 1, o, none⟩) (by simp)
    clear hb1
    go_wp2_with (go_at_call 24; refine (goodNow_any _ _).mono ?_; rintro e w2 ⟨rfl, rfl⟩)
    refine bodyPost_ret (v := .tuple #[.agg #[.int .i64 0, .int .i64 0, .slice none 0 0], .string ⟨#[]⟩, .int .i64 0, .bool false]) (by simp [results, Tryz.results9, go_sem, hr]; done) rfl (unhide HNO _ ?_ (unhide H))
    repeat (refine Below.setCell ?_ (by first | (simp; done) | (simp; omega)) _)
    exact unhide hB1
  cases g3 : GoodCmd.gcB (Kind.kindN nm.toList) ks f x n dt q
  · have H : Hid (doR lim nx its now nm.toList ks f x n dt q = noDone) := by show doR lim nx its now nm.toList ks f x n dt q = _; simp [doR, g1, g2, g3]
    rw [g3] at hcm
    have HCM := hide hcm
    clear g1 hcm g3
    generalize doR lim nx its now nm.toList ks f x n dt q = T at H HNO ⊢
    go_enter Tryz.func9, Tryz.ntmps9
    go_wp2_with fail
    refine (unhide HG _ (bel3 w _ _ _)).mono ?_
    rintro e w1 ⟨rfl, hb1⟩
    simp only [World.size_alloc] at hb1
    have hB1 := hide ((bel3 w _ _ _).trans (hb1.mono (by omega)))
    have hr := fun o => hb1.cell (p := ⟨w.heap.size + 1 + 1, o, none⟩) (by simp)
    have hrf := fun o => hb1.frozen (p := ⟨w.heap.size + 1 + 1, o, none⟩) (by simp)
    have hs1 := fun o => hb1.cell (p := ⟨w.heap.size + 1, o, none⟩) (by first | (simp; done) | (simp; omega))
    have hz1 : w.heap.size + 1 + 1 + 1 ≤ w1.heap.size := by have := hb1.size; simp at this; omega
    clear hb1
    go_wp2_with (go_at_call 24; refine (goodNow_any _ _).mono ?_; rintro e w2 ⟨rfl, rfl⟩)
    refine (unhide HCM _ (unhide hB1)).mono ?_
    rintro e w2 ⟨rfl, hb2⟩
    have hB2 := hide ((unhide hB1).trans (hb2.mono (unhide hB1).size))
    have hr2 := fun o => (hb2.cell (p := ⟨w.heap.size + 1 + 1, o, none⟩) (by simp; omega)).trans (hr o)
    have hrf2 := fun o => (hb2.frozen (p := ⟨w.heap.size + 1 + 1, o, none⟩) (by simp; omega)).trans (hrf o)
    clear hr hrf hs1 hb2
    go_wp2
    refine bodyPost_ret (v := .tuple #[.agg #[.int .i64 0, .int .i64 0, .slice none 0 0], .string ⟨#[]⟩, .int .i64 0, .bool false]) (by simp [results, Tryz.results9, go_sem, hr2]; done) rfl (unhide HNO _ ?_ (unhide H))
    repeat (refine Below.setCell ?_ (by first | (simp; done) | (simp; omega)) _)
    exact unhide hB2
  have H : Hid (doR lim nx its now nm.toList ks f x n dt q = yesDone lim q (ansO lim nx (keepB its now) now nm.toList ks f x n dt)) := by show doR lim nx its now nm.toList ks f x n dt q = _; simp only [doR, g1, g2, g3, if_true]
  have hnow := inB_iff g2
  have HC := hide (cmd_ok g3)
  have htl := keep_ok now (unhide HOK).2.2
  have hal := @ans_len lim nx (keepB its now) now nm.toList ks f x n dt htl
  have HDO := hide (fun G w0 w1 hb1 (h : Sh G w0 w1 hb1 lim nx 0 (keepB its now)) (h0 : FullIs w0 p) h1 h2 h3 => do_shelf G w0 w1 hb1 lim nx 0 (keepB its now) now nm kb ko kc ks f x n dt q p h h0 htl h1 h2 h3 (unhide HC) htl.1 (unhide HOK).1 (unhide HOK).2.1 (by omega) hnow)
  have hkl60 : its.length ≤ 60 := (unhide HK).1
  generalize ansO lim nx (keepB its now) now nm.toList ks f x n dt = O at H HDO hal
  generalize doR lim nx its now nm.toList ks f x n dt q = T at H HNO ⊢
  generalize hkp : keepB its now = kp at HDO htl
  rw [g3] at hcm
  have HCM := hide hcm
  have HKP := hide hkp
  clear g1 hcm g3 htl hkp HNO HC
  obtain rfl : T = yesDone lim q O := unhide H
  obtain ⟨Oi, On, Ol, Oa⟩ := O
  unfold yesDone
  dsimp only at hal HDO ⊢
  clear H
  generalize (if q = true then (⟨#[]⟩ : ByteArray) else Oa) = A at HDO ⊢
  go_enter Tryz.func9, Tryz.ntmps9
  go_wp2_with fail
  refine (unhide HG _ (bel3 w _ _ _)).mono ?_
  rintro e w1 ⟨rfl, hb1⟩
  simp only [World.size_alloc] at hb1
  have hB1 := hide ((bel3 w _ _ _).trans (hb1.mono (by omega)))
  have hr := fun o => hb1.cell (p := ⟨w.heap.size + 1 + 1, o, none⟩) (by simp)
  have hrf := fun o => hb1.frozen (p := ⟨w.heap.size + 1 + 1, o, none⟩) (by simp)
  have hs1 := fun o => hb1.cell (p := ⟨w.heap.size + 1, o, none⟩) (by first | (simp; done) | (simp; omega))
  have hs0 := fun o => hb1.cell (p := ⟨w.heap.size, o, none⟩) (by simp; omega)
  have hz1 : w.heap.size + 1 + 1 + 1 ≤ w1.heap.size := by have := hb1.size; simp at this; omega
  clear hb1
  go_wp2_with (go_at_call 24; refine (goodNow_any _ _).mono ?_; rintro e w2 ⟨rfl, rfl⟩)
  refine (unhide HCM _ (unhide hB1)).mono ?_
  rintro e w2 ⟨rfl, hb2⟩
  have hB2 := hide ((unhide hB1).trans (hb2.mono (unhide hB1).size))
  have hr2 := fun o => (hb2.cell (p := ⟨w.heap.size + 1 + 1, o, none⟩) (by simp; omega)).trans (hr o)
  have hrf2 := fun o => (hb2.frozen (p := ⟨w.heap.size + 1 + 1, o, none⟩) (by simp; omega)).trans (hrf o)
  have hs12 := fun o => (hb2.cell (p := ⟨w.heap.size + 1, o, none⟩) (by simp; omega)).trans (hs1 o)
  have hs02 := fun o => (hb2.cell (p := ⟨w.heap.size, o, none⟩) (by simp; omega)).trans (hs0 o)
  have hz2 : w.heap.size + 1 + 1 + 1 ≤ w2.heap.size := by have := hb2.size; omega
  clear hr hrf hs1 hs0 hb2
  go_wp2_with fail
  refine (unhide HSH _ (unhide hB2) (by omega) (unhide HK).2.1 (unhide HK).2.2).mono ?_
  rintro e w3 ⟨h, S, rfl, hsh, hS, hb3⟩
  have HSS := hide hS
  have HS3 := hide hsh
  have HB3 := hide hb3
  have hz3 : w2.heap.size ≤ w3.heap.size := hb3.size
  clear hsh hS hb3 hs02
  go_wp2_with fail
  refine (dropOld_shelf _ h S lim nx 0 its now (unhide HS3) (by omega)).mono ?_
  rintro e w4 ⟨rfl, hst4⟩
  rw [unhide HKP] at hst4
  have HX4 := hide (Shx.step (unhide HSS) (unhide HB3) (by omega) hst4)
  have hc14 := fun o => ((unhide HX4).bel.cell (p := ⟨w.heap.size + 1, o, none⟩) (by simp; omega)).trans (hs12 o)
  clear hst4 hs12 HS3 HSS HB3
  go_wp2_with fail
  obtain ⟨G4, hsh4⟩ := unhide HX4
  refine (unhide HDO G4 w2 _ h hsh4 ((unhide HFU).below (unhide hB2)) (Vars_below (unhide HV) (unhide hB2)) (Nat.lt_of_lt_of_le hkb (unhide hB2).size) (fun i hi => ((unhide hB2).cell (p := ⟨kb, ko + i, none⟩) hkb).trans (unhide HKC i hi))).mono ?_
  rintro e w5 ⟨rfl, hsh5⟩
  rw [Int.zero_add] at hsh5
  have hl5 := hsh5.lost
  have HST := hide (fun w' hb' => hsh5.store (by omega) w' hb')
  have hr5 := fun o => (hsh5.bel.cell (p := ⟨w.heap.size + 1 + 1, o, none⟩) (by simp; omega)).trans (hr2 o)
  have hrf5 := fun o => (hsh5.bel.frozen (p := ⟨w.heap.size + 1 + 1, o, none⟩) (by simp; omega)).trans (hrf2 o)
  have hB5 := hide ((unhide hB2).trans (hsh5.bel.mono (unhide hB2).size))
  have hz5 : w.heap.size + 1 + 1 + 1 ≤ w5.heap.size := by have := hsh5.bel.size; omega
  obtain ⟨hlh, hl5⟩ := hl5
  have hz50 : w.heap.size ≤ w5.heap.size := by omega
  have hz51 : w.heap.size + 1 + 1 < w5.heap.size := by omega
  clear hsh4 hsh5 hc14 hr2 hrf2 HX4
  go_wp2_with fail
  go_region_with (first | (go_at_call 29; (refine (unhide HST _ (Below.refl _ _).drew).mono ?_; rintro e w6 ⟨a, cap6, rfl, hown, hb6⟩; have hl6 := (hb6.cell (p := ⟨h, 3, none⟩) hlh).trans hl5; have hr6 := fun o => (hb6.cell (p := ⟨w.heap.size + 1 + 1, o, none⟩) (show w.heap.size + 1 + 1 < w5.heap.size by omega)).trans (hr5 o); have hrf6 := fun o => (hb6.frozen (p := ⟨w.heap.size + 1 + 1, o, none⟩) (show w.heap.size + 1 + 1 < w5.heap.size by omega)).trans (hrf5 o); have hB6 := hide ((unhide hB5).drew.trans (hb6.mono hz50)); have HO := hide (own_le hown hz5); have hz6 : w.heap.size + 1 + 1 < w6.heap.size := Nat.lt_of_lt_of_le hz51 hb6.size; clear hb6 hown)))
  all_goals
    go_wp2
    refine bodyPost_ret (v := .tuple #[.agg #[.int .i64 lim, .int .i64 On, .slice a Oi.length cap6], .string A, .int .i64 Ol, .bool true]) (by simp [results, Tryz.results9, go_sem, hr6]; done) rfl ?_
    have own2 := ownsRow_setCell_below (ownsRow_setCell_below (ownsRow_setCell_below (unhide HO) (a := ⟨w.heap.size + 1 + 1, 0, none⟩) (show w.heap.size + 1 + 1 < w.heap.size + 1 + 1 + 1 by omega) (.int .i64 lim)) (a := ⟨w.heap.size + 1 + 1, 1, none⟩) (show w.heap.size + 1 + 1 < w.heap.size + 1 + 1 + 1 by omega) (.int .i64 On)) (a := ⟨w.heap.size + 1 + 1, 2, none⟩) (show w.heap.size + 1 + 1 < w.heap.size + 1 + 1 + 1 by omega) (.slice a Oi.length cap6)
    obtain ⟨r, hou, hge⟩ := own_ours own2
    refine ⟨a, cap6, r, rfl, hou, fun g hg => Nat.le_trans (by omega) (hge g hg), ?_⟩
    repeat (refine Below.setCell ?_ (by first | (simp; done) | (simp; omega)) _)
    exact unhide hB6
end Shelf
end Go.Proofs.YthlcmnjaimffdaaGreatDoor
