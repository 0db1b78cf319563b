/-
  FnStored returns true for all bytes: for every store, time and command that they draw the program's DoStore answers as the model's, leaves a good store with no more than its limit, and what was set stands in it as it was set. Where the variables of strconv and math/bits and the program's own errFull lie as the program laid them.
-/
import Derived.Test.YtkdcofmpbmiloaaGreatDoorY15
import Derived.Test.YtkdcofmpbmiloaaGreatDoorY14
import Derived.Deep.RegionWith
import Derived.Deep.DeepCutAuto
namespace Go.Proofs.YtkdcofmpbmiloaaGreatDoor
namespace FnStoredL
open Go.RowKit Base Items Store GoodKey Cur
set_option linter.unusedVariables false

abbrev stB (lim nx : Int) (ia : Option Addr) (n ic : Nat) : Obj := .cells #[.int .i64 lim, .int .i64 nx, .slice ia n ic] 25
abbrev cmB (nm : ByteArray) (ka : Option Addr) (n kc : Nat) (f x m : Int) (dt : ByteArray) (q : Bool) : Obj := .cells #[.string nm, .slice ka n kc, .int .i64 f, .int .i64 x, .int .i64 m, .string dt, .bool q] 28
theorem st_cells {w : World} {S : Nat} {lim nx : Int} {ia : Option Addr} {n ic : Nat} (h : w.heap[S]? = some (stB lim nx ia n ic)) : w.cell? ⟨S, 0, none⟩ = some (.int .i64 lim) ∧ w.cell? ⟨S, 1, none⟩ = some (.int .i64 nx) ∧ w.cell? ⟨S, 2, none⟩ = some (.slice ia n ic) ∧ S < w.heap.size := by
  refine ⟨?_, ?_, ?_, lt_of_heap h⟩ <;> (rw [Lib.cell_of_heap h]; rfl)
theorem cm_cells {w : World} {C : Nat} {nm : ByteArray} {ka : Option Addr} {n kc : Nat} {f x m : Int} {dt : ByteArray} {q : Bool} (h : w.heap[C]? = some (cmB nm ka n kc f x m dt q)) : w.cell? ⟨C, 0, none⟩ = some (.string nm) ∧ w.cell? ⟨C, 1, none⟩ = some (.slice ka n kc) ∧ w.cell? ⟨C, 2, none⟩ = some (.int .i64 f) ∧ w.cell? ⟨C, 3, none⟩ = some (.int .i64 x) ∧ w.cell? ⟨C, 4, none⟩ = some (.int .i64 m) ∧ w.cell? ⟨C, 5, none⟩ = some (.string dt) ∧ w.cell? ⟨C, 6, none⟩ = some (.bool q) ∧ C < w.heap.size := by
  refine ⟨?_, ?_, ?_, ?_, ?_, ?_, ?_, lt_of_heap h⟩ <;> (rw [Lib.cell_of_heap h]; rfl)
theorem it_cells {w : World} {I : Nat} {k d : ByteArray} {f u t : Int} (h : w.heap[I]? = some (.cells #[.string k, .int .i64 f, .string d, .int .i64 u, .int .i64 t] 37 (0, 0))) : w.cell? ⟨I, 0, none⟩ = some (.string k) ∧ w.cell? ⟨I, 1, none⟩ = some (.int .i64 f) ∧ w.cell? ⟨I, 2, none⟩ = some (.string d) ∧ w.cell? ⟨I, 3, none⟩ = some (.int .i64 u) ∧ w.cell? ⟨I, 4, none⟩ = some (.int .i64 t) ∧ I < w.heap.size := by
  refine ⟨?_, ?_, ?_, ?_, ?_, lt_of_heap h⟩ <;> (rw [Lib.cell_of_heap h]; rfl)
theorem set5 {w : World} {I : Nat} {a0 a1 a2 a3 a4 : Value} {t : TypeId} (h : w.heap[I]? = some (.cells #[a0, a1, a2, a3, a4] t (0, 0))) (v0 v1 v2 v3 v4 : Value) : (((((w.setCell ⟨I, 0, none⟩ v0).setCell ⟨I, 1, none⟩ v1).setCell ⟨I, 2, none⟩ v2).setCell ⟨I, 3, none⟩ v3).setCell ⟨I, 4, none⟩ v4).heap[I]? = some (.cells #[v0, v1, v2, v3, v4] t (0, 0)) := by
  simp [World.setCell, Array.getElem?_modify, h]
theorem far5 {w : World} {I Y : Nat} {o : Obj} (h : w.heap[Y]? = some o) (hne : Y ≠ I) (v0 v1 v2 v3 v4 : Value) : (((((w.setCell ⟨I, 0, none⟩ v0).setCell ⟨I, 1, none⟩ v1).setCell ⟨I, 2, none⟩ v2).setCell ⟨I, 3, none⟩ v3).setCell ⟨I, 4, none⟩ v4).heap[Y]? = some o := by
  rw [Below.heap_setCell _ _ _ _ (show Y ≠ I from hne), Below.heap_setCell _ _ _ _ (show Y ≠ I from hne), Below.heap_setCell _ _ _ _ (show Y ≠ I from hne), Below.heap_setCell _ _ _ _ (show Y ≠ I from hne), Below.heap_setCell _ _ _ _ (show Y ≠ I from hne)]
  exact h
theorem bel5 {w0 w : World} {B I : Nat} (h : Below B w0 w) (hI : B ≤ I) (v0 v1 v2 v3 v4 : Value) : Below B w0 (((((w.setCell ⟨I, 0, none⟩ v0).setCell ⟨I, 1, none⟩ v1).setCell ⟨I, 2, none⟩ v2).setCell ⟨I, 3, none⟩ v3).setCell ⟨I, 4, none⟩ v4) :=
  ((((h.setCell (p := ⟨I, 0, none⟩) hI v0).setCell (p := ⟨I, 1, none⟩) hI v1).setCell (p := ⟨I, 2, none⟩) hI v2).setCell (p := ⟨I, 3, none⟩) hI v3).setCell (p := ⟨I, 4, none⟩) hI v4
theorem nodrew {B : Nat} {a b : World} (h : Below B a.drew b) : Below B a b := ⟨h.os, h.tape, h.output, h.size, h.block⟩
theorem go_on {w w' : World} {Y : Nat} {o : Obj} (h : w.heap[Y]? = some o) (hb : Below w.heap.size w w') : w'.heap[Y]? = some o := (hb.block Y (lt_of_heap h)).trans h

set_option maxRecDepth 100000 in
set_option maxHeartbeats 8000000 in
theorem walk (a0 : Option Addr) (cap0 n0 : Nat) (z : Nat → Int) (w : World) (hc : Cur.BAt w a0 n0 z) (hl0 : n0 ≤ maxLen) (hv : _root_.Go.Proofs.YtkdcofmpbmiloaaGreatDoor.Shelf.VarsF w) :
    Calls Tryz.prog 3 #[.slice a0 n0 cap0] w fun e w' => e = .returned (.bool true) ∧ Below w.heap.size w w' := by
  by_cases hbig : 1048576 < n0
  · clear hc hv
    unfold maxLen at hl0
    have hg : (1048576 : Int) < (n0 : Int) := by omega
    go_enter Tryz.func3, Tryz.ntmps3
    go_wp2
    go_ret
    exact ⟨rfl, Below.refl _ _⟩
  have hsm : ¬ (1048576 : Int) < (n0 : Int) := by omega
  have HDR := hide (drawDo_any a0 n0 cap0 z w hc (by omega))
  have HV := hide hv
  clear hc hv hl0 hbig
  go_enter Tryz.func3, Tryz.ntmps3
  go_wp2_with fail
  refine (unhide HDR).mono ?_
  rintro e w1 ⟨lim, nx, ia, ic, its, nw, nm, ka, kc, ks, f, x, m, dt, q, rfl, hI, hil, hic, hiz, hK, hkl, hkz, hdz, hk7, hnw, hb1⟩
  have hfit : ∀ y ∈ its, Fits y := fun y hy => by have := hiz y hy; unfold Fits maxLen; omega
  have hkz' : ∀ s ∈ ks, s.size ≤ maxLen := fun s hs => by have := hkz s hs; unfold maxLen; omega
  have HIM := hide (fun w' (hb : Below w1.heap.size w1 w') (hv : _root_.Go.Proofs.YtkdcofmpbmiloaaGreatDoor.Shelf.VarsF w') => _root_.Go.Proofs.YtkdcofmpbmiloaaGreatDoor.Shelf.doStore_any lim nx ia ic its nw nm ka kc ks f x m dt q w' (hI.below hb (Nat.le_refl _)) (by omega) hic hfit (hK.below hb (Nat.le_refl _)) (by unfold maxLen; omega) hkz' hk7 (by unfold maxLen; omega) hv)
  have HSP := hide (fun w' (hb : Below w1.heap.size w1 w') => Rw.doStore_any lim nx ia ic its nw nm ka kc ks f x m dt q w' (hI.below hb (Nat.le_refl _)) (by omega) hic hfit (hK.below hb (Nat.le_refl _)) (by unfold maxLen; omega) hkz' hk7 (by unfold maxLen; omega))
  have HKS := hide (fun w' (hb : Below w1.heap.size w1 w') => hK.below hb (Nat.le_refl _))
  have HKZ := hide hkz
  have HK7 := hide hk7
  have B1 := hide hb1
  obtain ⟨T, hT⟩ : ∃ T, T = _root_.Go.Proofs.YtkdcofmpbmiloaaGreatDoor.Shelf.doR lim nx its nw nm.toList ks f x m dt q := ⟨_, rfl⟩
  have HDN : Hid (T.ok = false → T.ans = ⟨#[]⟩) := fun h => by rw [hT] at h ⊢; exact Stk.do_no h
  have HDG : Hid (T.ok = true → gsB T.lim T.nx T.its = true ∧ T.lim = lim) := fun h => by rw [hT] at h ⊢; exact ⟨(Stk.do_gs h).1, (Stk.do_gs h).2.1⟩
  have HST : Hid (T.ok = true → nm.toList = [115, 101, 116] → q = false → T.ans = _root_.Go.Proofs.YtkdcofmpbmiloaaGreatDoor.Shelf.storedT → ∃ y, findB T.lim T.nx T.its nw (ks.getD 0 ByteArray.empty) = some y ∧ y.data = dt ∧ y.flags = f ∧ y.token = nx ∧ (y.upto = 0 ↔ x = 0)) := fun h1 h2 h3 h4 => by
    subst h3
    rw [h2] at hT
    have hl := (Stk.do_gs (by rw [← hT]; exact h1)).2.1
    have h := Stk.set_there (by rw [← hT]; exact h1) (by rw [← hT]; exact h4)
    rw [← hT] at h hl
    rw [hl]
    exact h
  rw [← hT] at HIM HSP
  clear hT hI hiz hfit hK hkz hkz' hk7 hb1 HDR
  -- the two boxes
  have hz2 : ((w1.alloc (stB lim nx ia its.length ic)).alloc (cmB nm ka ks.length kc f x m dt q)).heap.size = w1.heap.size + 2 := by simp
  have S2 := hide (((bel1 (w1.alloc (stB lim nx ia its.length ic)) (cmB nm ka ks.length kc f x m dt q)).block w1.heap.size (by simp)).trans (heap_alloc_new w1 (stB lim nx ia its.length ic)))
  have C2 : Hid (((w1.alloc (stB lim nx ia its.length ic)).alloc (cmB nm ka ks.length kc f x m dt q)).heap[w1.heap.size + 1]? = some (cmB nm ka ks.length kc f x m dt q)) := by
    have e := heap_alloc_new (w1.alloc (stB lim nx ia its.length ic)) (cmB nm ka ks.length kc f x m dt q)
    rwa [World.size_alloc] at e
  have L2 := hide (bel2 w1 (stB lim nx ia its.length ic) (cmB nm ka ks.length kc f x m dt q))
  go_upto_region 4 with fail
  generalize (w1.alloc (stB lim nx ia its.length ic)).alloc (cmB nm ka ks.length kc f x m dt q) = w2 at S2 C2 L2 hz2 ⊢
  generalize w1.heap.size + 1 = C at C2 ⊢
  obtain ⟨S, hS⟩ : ∃ S, S = w1.heap.size := ⟨_, rfl⟩
  rw [← hS] at S2 ⊢
  have B2 := hide ((unhide B1).trans ((unhide L2).mono (unhide B1).size))
  clear hS hz2
  obtain ⟨s0, s1, s2, sl⟩ := st_cells (unhide S2)
  obtain ⟨c0, c1, c2, c3, c4, c5, c6, cl⟩ := cm_cells (unhide C2)
  go_wp2_with fail
  refine (unhide HIM _ (unhide L2) ((unhide HV).below (unhide B2))).mono ?_
  rintro e w3 ⟨a3, k3, rfl, hown3, hb3⟩
  have hit3 : ItemsAt w3 a3 T.its := Own.own_at hown3
  have hcap3 : T.its.length ≤ k3 := own_cap hown3
  have X4 := hide (heap_alloc_new w3 (stB T.lim T.nx a3 T.its.length k3))
  have b34 := bel1 w3 (stB T.lim T.nx a3 T.its.length k3)
  have IT4 := hide (hit3.below b34 (Nat.le_refl _))
  have S4 := hide (go_on (go_on (unhide S2) hb3) b34)
  have C4 := hide (go_on (go_on (unhide C2) hb3) b34)
  have L4 := hide (((unhide L2).trans (hb3.mono (unhide L2).size)).trans (b34.mono (Nat.le_trans (unhide L2).size hb3.size)))
  have B4 := hide (((unhide B2).trans (hb3.mono (unhide B2).size)).trans (b34.mono (Nat.le_trans (unhide B2).size hb3.size)))
  clear hown3 hit3 hb3 b34 S2 C2 L2 B2 s0 s1 s2 sl c0 c1 c2 c3 c4 c5 c6 cl HIM
  go_upto_region 5 with fail
  generalize w3.alloc (stB T.lim T.nx a3 T.its.length k3) = w4 at X4 IT4 S4 C4 L4 B4 ⊢
  generalize w3.heap.size = X at X4 ⊢
  obtain ⟨s0, s1, s2, sl⟩ := st_cells (unhide S4)
  obtain ⟨c0, c1, c2, c3, c4, c5, c6, cl⟩ := cm_cells (unhide C4)
  go_wp2_with fail
  refine (unhide HSP _ (unhide L4)).mono ?_
  rintro e w5 ⟨a5, k5, rfl, hown5, hb5⟩
  have b56 := bel1 w5 (stB T.lim T.nx a5 T.its.length k5)
  have b46 : Below w4.heap.size w4 (w5.alloc (stB T.lim T.nx a5 T.its.length k5)) := hb5.trans (b56.mono hb5.size)
  have X6 := hide (go_on (unhide X4) b46)
  have S6 := hide (go_on (unhide S4) b46)
  have C6 := hide (go_on (unhide C4) b46)
  have IT6 := hide ((unhide IT4).below b46 (Nat.le_refl _))
  have L6 := hide ((unhide L4).trans (b46.mono (unhide L4).size))
  have B6 := hide ((unhide B4).trans (b46.mono (unhide B4).size))
  clear hown5 hb5 b56 b46 X4 S4 C4 IT4 L4 B4 s0 s1 s2 sl c0 c1 c2 c3 c4 c5 c6 cl HSP
  have HCH := hide (fun w' (h : ItemsAt w' a3 T.its) (h1 : T.its.length ≤ 1048576) (h2 : ∀ y ∈ T.its, Fits y) => _root_.Go.Proofs.YtkdcofmpbmiloaaGreatDoor.Shelf.chargeOf_opt T.lim T.nx a3 k3 T.its w' h h1 hcap3 h2)
  have HGS := hide (fun w' (h : ItemsAt w' a3 T.its) (h1 : T.its.length ≤ maxLen) (h2 : ∀ y ∈ T.its, Fits y) => Store.impl_opt T.lim T.nx a3 k3 T.its w' h h1 hcap3 h2)
  have HFI := hide (fun w' key (h : ItemsAt w' a3 T.its) (h1 : T.its.length ≤ 1048576) (h2 : ∀ y ∈ T.its, Fits y) (h3 : key.size ≤ 1048576) => _root_.Go.Proofs.YtkdcofmpbmiloaaGreatDoor.Shelf.findItem_opt T.lim T.nx a3 k3 T.its nw key w' h h1 hcap3 h2 h3)
  clear hcap3
  obtain ⟨Tl, Tn, Ti, Ta, To, ok⟩ := T
  dsimp only at *
  go_upto_region 6 with fail
  generalize w5.alloc (stB Tl Tn a5 Ti.length k5) = w6 at X6 S6 C6 IT6 L6 B6 ⊢
  generalize w5.heap.size = Y
  have ha1 : (Ta.toList == Ta.toList) = true := by simp
  cases ok
  · have hans : Ta = ⟨#[]⟩ := unhide HDN rfl
    subst hans
    go_wp2
    go_ret
    exact ⟨rfl, unhide B6⟩
  obtain ⟨hg, hlim⟩ := unhide HDG rfl
  have hgs := (Stk.gs_iff _ _ _).1 hg
  have hszz := gs_sz hg
  have hfit : ∀ y ∈ Ti, Fits y := fun y hy => by have := hszz.2 y hy; unfold Fits maxLen; omega
  have h60 : Ti.length ≤ 60 := hgs.2.2.1
  have htot : ChargeOfL.chB Tl Tn Ti ≤ lim := by unfold ChargeOfL.chB; rw [if_pos hg, ← hlim]; exact hgs.2.2.2.2
  have HCH2 := hide (fun w' h => unhide HCH w' h (by omega) hfit)
  have HGS2 := hide (fun w' h => unhide HGS w' h (by unfold maxLen; omega) hfit)
  have HFI2 := hide (fun w' key h h3 => unhide HFI w' key h (by omega) hfit h3)
  rw [hg] at HCH2 HGS2
  generalize ChargeOfL.chB Tl Tn Ti = ch at HCH2 htot
  clear hg hlim hgs hszz hfit HCH HGS HFI HDN HDG
  obtain ⟨x0, x1, x2, xl⟩ := st_cells (unhide X6)
  have hch : ¬ lim < ch := by omega
  go_wp2_with fail
  refine (unhide HCH2 _ (unhide IT6)).mono ?_
  rintro e w7 ⟨rfl, hb7⟩
  have X7 := hide (go_on (unhide X6) hb7)
  have S7 := hide (go_on (unhide S6) hb7)
  have C7 := hide (go_on (unhide C6) hb7)
  have IT7 := hide ((unhide IT6).below hb7 (Nat.le_refl _))
  have L7 := hide ((unhide L6).trans (hb7.mono (unhide L6).size))
  have B7 := hide ((unhide B6).trans (hb7.mono (unhide B6).size))
  clear hb7 X6 S6 C6 IT6 L6 B6 x0 x1 x2 xl HCH2
  obtain ⟨x0, x1, x2, xl⟩ := st_cells (unhide X7)
  go_wp2_with fail
  refine (unhide HGS2 _ (unhide IT7)).mono ?_
  rintro e w8 ⟨rfl, hb8⟩
  have X8 := hide (go_on (unhide X7) hb8)
  have S8 := hide (go_on (unhide S7) hb8)
  have C8 := hide (go_on (unhide C7) hb8)
  have IT8 := hide ((unhide IT7).below hb8 (Nat.le_refl _))
  have L8 := hide ((unhide L7).trans (hb8.mono (unhide L7).size))
  have B8 := hide ((unhide B7).trans (hb8.mono (unhide B7).size))
  clear hb8 X7 S7 C7 IT7 L7 B7 x0 x1 x2 xl HGS2
  obtain ⟨x0, x1, x2, xl⟩ := st_cells (unhide X8)
  obtain ⟨s0, s1, s2, sl⟩ := st_cells (unhide S8)
  obtain ⟨c0, c1, c2, c3, c4, c5, c6, cl⟩ := cm_cells (unhide C8)
  by_cases hset : nm.toList = [115, 101, 116]
  case neg =>
    have hs1 : (nm.toList == [115, 101, 116]) = false := by simp [hset]
    go_wp2
    go_ret
    exact ⟨rfl, unhide B8⟩
  have hs1 : (nm.toList == [115, 101, 116]) = true := by simp [hset]
  have hne : ks ≠ [] := fun e => by have := unhide HK7 e; rw [hset] at this; exact absurd this (by decide)
  obtain ⟨kb, ko, hka, hkb, hkc⟩ := unhide HKS _ (unhide L8) hne
  have hkp : 0 < ks.length := List.length_pos_iff.2 hne
  have hk0 := hkc 0 hkp
  rw [Nat.add_zero] at hk0
  have hkey : (ks.getD 0 ByteArray.empty).size ≤ 1048576 := by
    have := unhide HKZ (ks.getD 0 ByteArray.empty) (by rw [List.getD_eq_getElem?_getD, List.getElem?_eq_getElem hkp]; exact List.getElem_mem _)
    omega
  subst hka
  clear hkc
  have HFX : Hid (q = false → Ta = _root_.Go.Proofs.YtkdcofmpbmiloaaGreatDoor.Shelf.storedT → ∃ y, findB Tl Tn Ti nw (ks.getD 0 ByteArray.empty) = some y ∧ y.data = dt ∧ y.flags = f ∧ y.token = nx ∧ (y.upto = 0 ↔ x = 0)) := fun h1 h2 => unhide HST trivial hset h1 h2
  have HFW := hide (fun w' h => unhide HFI2 w' (ks.getD 0 ByteArray.empty) h hkey)
  have hkI : (0 : Int) < (ks.length : Int) := by omega
  generalize ks.getD 0 ByteArray.empty = key at hk0 HFX HFW
  clear HST HFI2 hkey hset hne HKS HKZ HK7
  obtain ⟨fo, hfo⟩ : ∃ fo, fo = findB Tl Tn Ti nw key := ⟨_, rfl⟩
  rw [← hfo] at HFX HFW
  clear hfo
  have DD := hide ((unhide IT8).below ((Below.refl w8.heap.size w8).drew) (Nat.le_refl _))
  have hbA := bel1 w8 (.cells #[.string ⟨#[]⟩, .int .i64 0, .string ⟨#[]⟩, .int .i64 0, .int .i64 0] 37)
  have hzA : (w8.alloc (.cells #[.string ⟨#[]⟩, .int .i64 0, .string ⟨#[]⟩, .int .i64 0, .int .i64 0] 37)).heap.size = w8.heap.size + 1 := World.size_alloc _ _
  have DE := hide (((unhide IT8).below hbA (Nat.le_refl _)).below ((Below.refl (w8.alloc (.cells #[.string ⟨#[]⟩, .int .i64 0, .string ⟨#[]⟩, .int .i64 0, .int .i64 0] 37)).heap.size (w8.alloc (.cells #[.string ⟨#[]⟩, .int .i64 0, .string ⟨#[]⟩, .int .i64 0, .int .i64 0] 37))).drew) (Nat.le_refl _))
  have BA := hide ((unhide B8).trans (hbA.mono (unhide B8).size))
  have SA := hide (go_on (unhide S8) hbA)
  have CA := hide (go_on (unhide C8) hbA)
  have AH := hide (heap_alloc_new w8 (.cells #[.string ⟨#[]⟩, .int .i64 0, .string ⟨#[]⟩, .int .i64 0, .int .i64 0] 37))
  have hwb := (unhide B8).size
  have hlt9 : w8.heap.size < (w8.alloc (.cells #[.string ⟨#[]⟩, .int .i64 0, .string ⟨#[]⟩, .int .i64 0, .int .i64 0] 37)).heap.size := by omega
  clear hbA hzA
  cases q
  · by_cases hst : Ta = _root_.Go.Proofs.YtkdcofmpbmiloaaGreatDoor.Shelf.storedT
    case neg =>
      have hs2 : (Ta.toList == [83, 84, 79, 82, 69, 68, 13, 10]) = false := by
        have h := str_ne hst
        have e : _root_.Go.Proofs.YtkdcofmpbmiloaaGreatDoor.Shelf.storedT.toList = [83, 84, 79, 82, 69, 68, 13, 10] := by rw [Lib.toList_data]; rfl
        rwa [e] at h
      go_wp2
      go_ret
      exact ⟨rfl, unhide B8⟩
    obtain ⟨y, hy, hy1, hy2, hy3, hy4⟩ := unhide HFX rfl hst
    subst hst
    subst hy
    have hfv : findV (some y) = .tuple #[.agg #[.string y.key, .int .i64 y.flags, .string y.data, .int .i64 y.upto, .int .i64 y.token], .bool true] := rfl
    rw [hfv] at HFW
    have hs2 : (_root_.Go.Proofs.YtkdcofmpbmiloaaGreatDoor.Shelf.storedT.toList == [83, 84, 79, 82, 69, 68, 13, 10]) = true := by rw [Lib.toList_data]; rfl
    have HY := hide (And.intro hy1 (And.intro hy2 (And.intro hy3 hy4)))
    clear HFX hfv hy1 hy2 hy3 hy4
    go_upto_region 15 with fail
    go_cut [16, 17] (fun v16 v17 wx => ∃ IB : Nat, v16 = .pointer (some ⟨IB, 0, none⟩) ∧ v17 = .bool true ∧ Hid (wx.heap[IB]? = some (.cells #[.string y.key, .int .i64 y.flags, .string y.data, .int .i64 y.upto, .int .i64 y.token] 37 (0, 0))) ∧ Hid (wx.heap[S]? = some (stB lim nx ia its.length ic)) ∧ Hid (wx.heap[C]? = some (cmB nm (some ⟨kb, ko, none⟩) ks.length kc f x m dt false)) ∧ Hid (Below w.heap.size w wx))
    case first =>
      clear s0 s1 s2 c0 c2 c3 c4 c5 c6 hs1 hs2 ha1 hch HY
      go_region_law (first | (go_simp; go_at_call 9; (refine (unhide HFW _ (unhide DD)).mono ?_; rintro e w9 ⟨rfl, hb9⟩; have q9 := nodrew hb9; have B9 := hide ((unhide B8).trans (q9.mono (unhide B8).size)); have S9 := hide (go_on (unhide S8) q9); have C9 := hide (go_on (unhide C8) q9); clear hb9 q9)) | (go_simp; go_at_call 9; (refine (unhide HFW _ (unhide DE)).mono ?_; rintro e w9 ⟨rfl, hb9⟩; have q9 := nodrew hb9; have B9 := hide ((unhide BA).trans (q9.mono (unhide BA).size)); have S9 := hide (go_on (unhide SA) q9); have C9 := hide (go_on (unhide CA) q9); have H9 := go_on (unhide AH) q9; have j0 : w9.cell? ⟨w8.heap.size, 0, none⟩ = some (.string ⟨#[]⟩) := (by rw [Lib.cell_of_heap H9]; rfl); have j1 : w9.cell? ⟨w8.heap.size, 1, none⟩ = some (.int .i64 0) := (by rw [Lib.cell_of_heap H9]; rfl); have j2 : w9.cell? ⟨w8.heap.size, 2, none⟩ = some (.string ⟨#[]⟩) := (by rw [Lib.cell_of_heap H9]; rfl); have j3 : w9.cell? ⟨w8.heap.size, 3, none⟩ = some (.int .i64 0) := (by rw [Lib.cell_of_heap H9]; rfl); have j4 : w9.cell? ⟨w8.heap.size, 4, none⟩ = some (.int .i64 0) := (by rw [Lib.cell_of_heap H9]; rfl); have jf : ∀ o, w9.frozen? ⟨w8.heap.size, o, none⟩ = false := fun o => Lib.frozen_of_heap H9 o; have H9' := hide H9; clear hb9 q9 H9)))
      all_goals
        go_wp2_with fail
        go_meet
        first
          | with_reducible exact ⟨_, rfl, rfl, hide (heap_alloc_new w9 _), hide (go_on (unhide S9) (bel1 w9 _)), hide (go_on (unhide C9) (bel1 w9 _)), hide ((unhide B9).alloc (unhide B9).size _)⟩
          | with_reducible exact ⟨_, rfl, rfl, hide (set5 (unhide H9') _ _ _ _ _), hide (far5 (unhide S9) (by omega) _ _ _ _ _), hide (far5 (unhide C9) (by omega) _ _ _ _ _), hide (bel5 (unhide B9) hwb _ _ _ _ _)⟩
    case rest =>
    obtain ⟨IB, rfl, rfl, IH, SH, CH, BH⟩ := hcut
    obtain ⟨wq, hname⟩ : ∃ v, v = wc := ⟨_, rfl⟩
    rw [← hname] at IH SH CH BH ⊢
    clear hname wc s0 s1 s2 sl c0 c1 c2 c3 c4 c5 c6 cl x0 x1 x2 xl
    obtain ⟨s0, s1, s2, sl⟩ := st_cells (unhide SH)
    obtain ⟨c0, c1, c2, c3, c4, c5, c6, cl⟩ := cm_cells (unhide CH)
    obtain ⟨i0, i1, i2, i3, i4, il⟩ := it_cells (unhide IH)
    obtain ⟨hy1, hy2, hy3, hy4⟩ := unhide HY
    subst hy1
    subst hy2
    subst hy3
    have hd1 : (y.data.toList == y.data.toList) = true := by simp
    clear HY
    by_cases h0 : x = 0
    · have hu0 := hy4.2 h0
      subst h0
      rw [hu0] at i3
      clear hy4 hu0 IH
      go_wp2
      go_ret
      exact ⟨rfl, unhide BH⟩
    · have hu1 : ¬ y.upto = 0 := fun e => h0 (hy4.1 e)
      have hu2 : (y.upto == 0) = false := beq_eq_false_iff_ne.2 hu1
      have hu3 : (x == 0) = false := beq_eq_false_iff_ne.2 h0
      clear hy4
      go_wp2
      go_ret
      exact ⟨rfl, unhide BH⟩
  · clear HFX
    obtain ⟨y, has, hfv⟩ := FindItemL.findV_eq fo
    rw [hfv] at HFW
    clear hfv
    go_upto_region 15 with fail
    go_cut [16, 17] (fun v16 v17 wx => ∃ IB : Nat, v16 = .pointer (some ⟨IB, 0, none⟩) ∧ v17 = .bool has ∧ Hid (wx.heap[IB]? = some (.cells #[.string y.key, .int .i64 y.flags, .string y.data, .int .i64 y.upto, .int .i64 y.token] 37 (0, 0))) ∧ Hid (wx.heap[S]? = some (stB lim nx ia its.length ic)) ∧ Hid (wx.heap[C]? = some (cmB nm (some ⟨kb, ko, none⟩) ks.length kc f x m dt true)) ∧ Hid (Below w.heap.size w wx))
    case first =>
      clear s0 s1 s2 c0 c2 c3 c4 c5 c6 hs1 ha1 hch
      go_region_law (first | (go_simp; go_at_call 9; (refine (unhide HFW _ (unhide DD)).mono ?_; rintro e w9 ⟨rfl, hb9⟩; have q9 := nodrew hb9; have B9 := hide ((unhide B8).trans (q9.mono (unhide B8).size)); have S9 := hide (go_on (unhide S8) q9); have C9 := hide (go_on (unhide C8) q9); clear hb9 q9)) | (go_simp; go_at_call 9; (refine (unhide HFW _ (unhide DE)).mono ?_; rintro e w9 ⟨rfl, hb9⟩; have q9 := nodrew hb9; have B9 := hide ((unhide BA).trans (q9.mono (unhide BA).size)); have S9 := hide (go_on (unhide SA) q9); have C9 := hide (go_on (unhide CA) q9); have H9 := go_on (unhide AH) q9; have j0 : w9.cell? ⟨w8.heap.size, 0, none⟩ = some (.string ⟨#[]⟩) := (by rw [Lib.cell_of_heap H9]; rfl); have j1 : w9.cell? ⟨w8.heap.size, 1, none⟩ = some (.int .i64 0) := (by rw [Lib.cell_of_heap H9]; rfl); have j2 : w9.cell? ⟨w8.heap.size, 2, none⟩ = some (.string ⟨#[]⟩) := (by rw [Lib.cell_of_heap H9]; rfl); have j3 : w9.cell? ⟨w8.heap.size, 3, none⟩ = some (.int .i64 0) := (by rw [Lib.cell_of_heap H9]; rfl); have j4 : w9.cell? ⟨w8.heap.size, 4, none⟩ = some (.int .i64 0) := (by rw [Lib.cell_of_heap H9]; rfl); have jf : ∀ o, w9.frozen? ⟨w8.heap.size, o, none⟩ = false := fun o => Lib.frozen_of_heap H9 o; have H9' := hide H9; clear hb9 q9 H9)))
      all_goals
        go_wp2_with fail
        go_meet
        first
          | with_reducible exact ⟨_, rfl, rfl, hide (heap_alloc_new w9 _), hide (go_on (unhide S9) (bel1 w9 _)), hide (go_on (unhide C9) (bel1 w9 _)), hide ((unhide B9).alloc (unhide B9).size _)⟩
          | with_reducible exact ⟨_, rfl, rfl, hide (set5 (unhide H9') _ _ _ _ _), hide (far5 (unhide S9) (by omega) _ _ _ _ _), hide (far5 (unhide C9) (by omega) _ _ _ _ _), hide (bel5 (unhide B9) hwb _ _ _ _ _)⟩
    case rest =>
    obtain ⟨IB, rfl, rfl, IH, SH, CH, BH⟩ := hcut
    obtain ⟨wq, hname⟩ : ∃ v, v = wc := ⟨_, rfl⟩
    rw [← hname] at IH SH CH BH ⊢
    clear hname wc s0 s1 s2 sl c0 c1 c2 c3 c4 c5 c6 cl x0 x1 x2 xl
    obtain ⟨s0, s1, s2, sl⟩ := st_cells (unhide SH)
    obtain ⟨c0, c1, c2, c3, c4, c5, c6, cl⟩ := cm_cells (unhide CH)
    obtain ⟨i0, i1, i2, i3, i4, il⟩ := it_cells (unhide IH)
    cases has
    · go_wp2
      go_ret
      exact ⟨rfl, unhide BH⟩
    · go_wp2
      go_ret
      exact ⟨rfl, unhide BH⟩
end FnStoredL
end Go.Proofs.YtkdcofmpbmiloaaGreatDoor
