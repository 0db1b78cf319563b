/-
  The model's DoStore over items and keys that may be nil (written by a program of mine).
-/
import Derived.Test.YtkdcofmpbmiloaaGreatDoorDoF
import Derived.Test.YtkdcofmpbmiloaaGreatDoorY14
import Derived.Test.YtkdcofmpbmiloaaGreatDoorY13
import Derived.Test.YtkdcofmpbmiloaaGreatDoorNilM
namespace Go.Proofs.YtkdcofmpbmiloaaGreatDoor
namespace Rw
open Go.RowKit Base GoodKey Items Store Own
open _root_.Go.Proofs.YtkdcofmpbmiloaaGreatDoor.Shelf
set_option linter.unusedVariables false

set_option maxRecDepth 10000 in
set_option maxHeartbeats 8000000 in
theorem doStore_full (lim nx : Int) (b off cap : Nat) (its : List Itm) (now : Int) (nm : ByteArray) (kb ko kc : Nat) (ks : List ByteArray) (f x n : Int) (dt : ByteArray) (q : Bool) (w : World)
    (hb : b < w.heap.size) (hc : ∀ i, i < its.length → At w b (off + i * 5) (its.getD i zero)) (hl : its.length ≤ 1048576) (hcap : its.length ≤ cap) (hs : ∀ x ∈ its, Fits x)
    (hkb : kb < w.heap.size) (hkc : ∀ i, i < ks.length → w.cell? ⟨kb, ko + i, none⟩ = some (.string (ks.getD i ByteArray.empty))) (hkl : ks.length ≤ maxLen) (hks : ∀ s ∈ ks, s.size ≤ maxLen) (hd : dt.size ≤ maxLen) :
    Calls Tryz.prog 6 #[.agg #[.int .i64 lim, .int .i64 nx, .slice (some ⟨b, off, none⟩) its.length cap], .int .i64 now, .agg #[.string nm, .slice (some ⟨kb, ko, none⟩) ks.length kc, .int .i64 f, .int .i64 x, .int .i64 n, .string dt, .bool q]] w
      (DoRow (doR lim nx its now nm.toList ks f x n dt q) w) := by
  have hgood := fun w' (hb' : Below w.heap.size w w') => Store.spec_some lim nx b off cap its w' (Nat.lt_of_lt_of_le hb hb'.size) (fun i hi => (hc i hi).below hb' hb) (by unfold maxLen; omega) hcap hs
  have hcm := fun w' (hb' : Below w.heap.size w w') => GoodCmd.spec_any nm kb ko kc ks f x n dt q w' (Nat.lt_of_lt_of_le hkb hb'.size) (fun i hi => (hb'.cell (p := ⟨kb, ko + i, none⟩) hkb).trans (hkc i hi)) hkl hks hd
  have HNW := hide (fun w' (hb' : Below w.heap.size w w') => news_at (w := w') (b := b) (off := off) (its := its) (fun i hi => (hc i hi).below hb' hb))
  have HKC := hide hkc
  clear hc hs hkc hks hd
  have hno : ∀ (w1 : World), Below w.heap.size w w1 → doR lim nx its now nm.toList ks f x n dt q = noDone → DoRow (doR lim nx its now nm.toList ks f x n dt q) w (.returned (.tuple #[.agg #[.int .i64 0, .int .i64 0, .slice none 0 0], .string ⟨#[]⟩, .int .i64 0, .bool false])) w1 := by
    intro w1 hb1 e
    rw [e]
    exact ⟨none, 0, rfl, World.ownsRow_nil _ _ _ _, hb1⟩
  have HNO := hide hno
  clear hno
  cases g1 : gsB lim nx its
  · have H : Hid (doR lim nx its now nm.toList ks f x n dt q = noDone) := by show doR lim nx its now nm.toList ks f x n dt q = _; simp [doR, g1]
    rw [g1] at hgood
    have HG := hide hgood
    clear hgood g1 hcm HNW
    generalize doR lim nx its now nm.toList ks f x n dt q = T at H HNO ⊢
    go_enter Tryz.func6, Tryz.ntmps6
    go_wp2_with fail
    refine (unhide HG _ (bel3 w _ _ _)).mono ?_
    rintro e w1 ⟨rfl, hb1⟩
    simp only [World.size_alloc] at hb1
    have hB1 := hide ((bel3 w _ _ _).trans (hb1.mono (by omega)))
    have X1 := hide ((bw_new w lim nx (.slice (some ⟨b, off, none⟩) its.length cap) nm (.slice (some ⟨kb, ko, none⟩) ks.length kc) f x n dt q).below hb1 (by omega))
    have z1 : w.heap.size + 3 ≤ w1.heap.size := (unhide X1).2.2.2.2.2
    clear hb1
    obtain ⟨⟨a0, a1, a2'⟩, ⟨i0, i1, i2, i3, i4, i5, i6⟩, ⟨y0, y1, y2⟩, f0, f2, -⟩ := unhide X1
    go_wp2
    refine bodyPost_ret (v := .tuple #[.agg #[.int .i64 0, .int .i64 0, .slice none 0 0], .string ⟨#[]⟩, .int .i64 0, .bool false]) (by simp [results, Tryz.results6, go_sem, y0, y1, y2]; done) rfl (unhide HNO _ ?_ (unhide H))
    repeat (refine Below.setCell ?_ (by first | (simp; done) | (simp; omega)) _)
    exact unhide hB1
  have HOK := hide (store_ok g1)
  rw [g1] at hgood
  have HG := hide hgood
  clear hgood
  cases g2 : inB now 0 1000000000
  · have H : Hid (doR lim nx its now nm.toList ks f x n dt q = noDone) := by show doR lim nx its now nm.toList ks f x n dt q = _; simp [doR, g1, g2]
    clear g1 hcm HNW
    generalize doR lim nx its now nm.toList ks f x n dt q = T at H HNO ⊢
    go_enter Tryz.func6, Tryz.ntmps6
    go_wp2_with fail
    refine (unhide HG _ (bel3 w _ _ _)).mono ?_
    rintro e w1 ⟨rfl, hb1⟩
    simp only [World.size_alloc] at hb1
    have hB1 := hide ((bel3 w _ _ _).trans (hb1.mono (by omega)))
    have X1 := hide ((bw_new w lim nx (.slice (some ⟨b, off, none⟩) its.length cap) nm (.slice (some ⟨kb, ko, none⟩) ks.length kc) f x n dt q).below hb1 (by omega))
    have z1 : w.heap.size + 3 ≤ w1.heap.size := (unhide X1).2.2.2.2.2
    clear hb1
    obtain ⟨⟨a0, a1, a2'⟩, ⟨i0, i1, i2, i3, i4, i5, i6⟩, ⟨y0, y1, y2⟩, f0, f2, -⟩ := unhide X1
    go_wp2_with (go_at_call 21; refine (l2Now_any _ _).mono ?_; rintro e w2 ⟨rfl, rfl⟩)
    refine bodyPost_ret (v := .tuple #[.agg #[.int .i64 0, .int .i64 0, .slice none 0 0], .string ⟨#[]⟩, .int .i64 0, .bool false]) (by simp [results, Tryz.results6, go_sem, y0, y1, y2]; done) rfl (unhide HNO _ ?_ (unhide H))
    repeat (refine Below.setCell ?_ (by first | (simp; done) | (simp; omega)) _)
    exact unhide hB1
  cases g3 : GoodCmd.gcB (Kind.kindN nm.toList) ks f x n dt q
  · have H : Hid (doR lim nx its now nm.toList ks f x n dt q = noDone) := by show doR lim nx its now nm.toList ks f x n dt q = _; simp [doR, g1, g2, g3]
    rw [g3] at hcm
    have HCM := hide hcm
    clear g1 hcm g3 HNW
    generalize doR lim nx its now nm.toList ks f x n dt q = T at H HNO ⊢
    go_enter Tryz.func6, Tryz.ntmps6
    go_wp2_with fail
    refine (unhide HG _ (bel3 w _ _ _)).mono ?_
    rintro e w1 ⟨rfl, hb1⟩
    simp only [World.size_alloc] at hb1
    have hB1 := hide ((bel3 w _ _ _).trans (hb1.mono (by omega)))
    have X1 := hide ((bw_new w lim nx (.slice (some ⟨b, off, none⟩) its.length cap) nm (.slice (some ⟨kb, ko, none⟩) ks.length kc) f x n dt q).below hb1 (by omega))
    have z1 : w.heap.size + 3 ≤ w1.heap.size := (unhide X1).2.2.2.2.2
    clear hb1
    obtain ⟨⟨a0, a1, a2'⟩, ⟨i0, i1, i2, i3, i4, i5, i6⟩, ⟨y0, y1, y2⟩, f0, f2, -⟩ := unhide X1
    go_wp2_with (go_at_call 21; refine (l2Now_any _ _).mono ?_; rintro e w2 ⟨rfl, rfl⟩)
    refine (unhide HCM _ (unhide hB1)).mono ?_
    rintro e w2 ⟨rfl, hb2⟩
    have hB2 := hide ((unhide hB1).trans (hb2.mono (by omega)))
    have X2 := hide ((unhide X1).below hb2 z1)
    have z2 : w.heap.size + 3 ≤ w2.heap.size := (unhide X2).2.2.2.2.2
    clear hb2 a0 a1 a2' i0 i1 i2 i3 i4 i5 i6 y0 y1 y2 f0 f2
    obtain ⟨⟨a0, a1, a2'⟩, ⟨i0, i1, i2, i3, i4, i5, i6⟩, ⟨y0, y1, y2⟩, f0, f2, -⟩ := unhide X2
    go_wp2
    refine bodyPost_ret (v := .tuple #[.agg #[.int .i64 0, .int .i64 0, .slice none 0 0], .string ⟨#[]⟩, .int .i64 0, .bool false]) (by simp [results, Tryz.results6, go_sem, y0, y1, y2]; done) rfl (unhide HNO _ ?_ (unhide H))
    repeat (refine Below.setCell ?_ (by first | (simp; done) | (simp; omega)) _)
    exact unhide hB2
  have H : Hid (doR lim nx its now nm.toList ks f x n dt q = yesDone lim q (ansO lim nx (keepB its now) now nm.toList ks f x n dt)) := by show doR lim nx its now nm.toList ks f x n dt q = _; simp only [doR, g1, g2, g3, if_true]
  have hnow := inB_iff g2
  obtain ⟨hlim, hnx, hl60, hits⟩ := unhide HOK
  obtain ⟨O, hO⟩ : ∃ O, ansO lim nx (keepB its now) now nm.toList ks f x n dt = O := ⟨_, rfl⟩
  have HDO := hide (fun g cg B' w' (hr' : Row w' B' (.slice (some ⟨g, 0, none⟩) its.length cg) its) (hb' : Below w.heap.size w w') => l2Answer_any lim nx g cg B' its now nm kb ko kc ks f x n dt q w' hr' hl60 hits hlim hnx (Nat.lt_of_lt_of_le hkb hb'.size) (fun i hi => (hb'.cell (p := ⟨kb, ko + i, none⟩) hkb).trans (unhide HKC i hi)) hnow g3 O hO)
  rw [hO] at H
  generalize doR lim nx its now nm.toList ks f x n dt q = T at H HNO ⊢
  rw [g3] at hcm
  have HCM := hide hcm
  have HLE : Hid (0 + its.length = its.length) := Nat.zero_add _
  clear g1 hcm g3 HNO hits hO HOK hlim hnx HKC hnow
  obtain rfl : T = yesDone lim q O := unhide H
  obtain ⟨Oi, On, Ol, Oa⟩ := O
  unfold yesDone
  dsimp only at HDO ⊢
  clear H
  generalize (if q = true then (⟨#[]⟩ : ByteArray) else Oa) = A at HDO ⊢
  go_enter Tryz.func6, Tryz.ntmps6
  go_wp2_with fail
  refine (unhide HG _ (bel3 w _ _ _)).mono ?_
  rintro e w1 ⟨rfl, hb1⟩
  simp only [World.size_alloc] at hb1
  have hB1 := hide ((bel3 w _ _ _).trans (hb1.mono (by omega)))
  have X1 := hide ((bw_new w lim nx (.slice (some ⟨b, off, none⟩) its.length cap) nm (.slice (some ⟨kb, ko, none⟩) ks.length kc) f x n dt q).below hb1 (by omega))
  have z1 : w.heap.size + 3 ≤ w1.heap.size := (unhide X1).2.2.2.2.2
  clear hb1
  obtain ⟨⟨a0, a1, a2'⟩, ⟨i0, i1, i2, i3, i4, i5, i6⟩, ⟨y0, y1, y2⟩, f0, f2, -⟩ := unhide X1
  go_wp2_with (go_at_call 21; refine (l2Now_any _ _).mono ?_; rintro e w2 ⟨rfl, rfl⟩)
  refine (unhide HCM _ (unhide hB1)).mono ?_
  rintro e w2 ⟨rfl, hb2⟩
  have hB2 := hide ((unhide hB1).trans (hb2.mono (by omega)))
  have X2 := hide ((unhide X1).below hb2 z1)
  have z2 : w.heap.size + 3 ≤ w2.heap.size := (unhide X2).2.2.2.2.2
  clear hb2 a0 a1 a2' i0 i1 i2 i3 i4 i5 i6 y0 y1 y2 f0 f2
  obtain ⟨⟨a0, a1, a2'⟩, ⟨i0, i1, i2, i3, i4, i5, i6⟩, ⟨y0, y1, y2⟩, f0, f2, -⟩ := unhide X2
  have q0 : w.heap.size < w2.heap.size := by omega
  have HNV := hide (unhide HNW (w2.alloc (.cells #[] 37)) ((unhide hB2).alloc (by omega) _))
  go_wp2_with (at_builtin; refine list_items _ rfl (.tmp 27) (.tmp 29) rfl w2.heap.size w2.heap.size 0 0 [] rfl (row_empty w2 (Nat.le_refl _)) rfl ⟨b, off, none⟩ its.length cap its rfl rfl (unhide HNV) its.length (unhide HLE) (by omega) (by simp) ?_)
  intro g3 cap3 w3 hrow3 hg3
  have HB3 := hide (((Below.refl w2.heap.size w2).alloc (Nat.le_refl _) _).grown hg3 (by simp) (fun k e => by simp at e; omega))
  have X3 := hide ((unhide X2).below (unhide HB3) z2)
  have z3 : w2.heap.size ≤ w3.heap.size := (unhide HB3).size
  have R3 := hide hrow3
  have B3 := hide ((unhide hB2).trans ((unhide HB3).mono (by omega)))
  clear hrow3 hg3 a0 a1 a2' i0 i1 i2 i3 i4 i5 i6 y0 y1 y2 f0 f2 HNV HNW X1 X2 HB3
  have X4 := hide ((unhide X3).put2 (.slice (some ⟨g3, 0, none⟩) its.length cap3))
  have R4 : Hid (Row (w3.setCell ⟨w.heap.size, 2, none⟩ (.slice (some ⟨g3, 0, none⟩) its.length cap3)) w2.heap.size (.slice (some ⟨g3, 0, none⟩) its.length cap3) its) := ownsRow_setCell_below (unhide R3) (a := ⟨w.heap.size, 2, none⟩) (show w.heap.size < w2.heap.size by omega) _
  have B4 := hide ((unhide B3).setCell (p := ⟨w.heap.size, 2, none⟩) (Nat.le_refl _) (.slice (some ⟨g3, 0, none⟩) its.length cap3))
  obtain ⟨⟨a0, a1, a2'⟩, ⟨i0, i1, i2, i3, i4, i5, i6⟩, ⟨y0, y1, y2⟩, f0, f2, -⟩ := unhide X3
  go_upto_region 4 with fail
  generalize w3.setCell ⟨w.heap.size, 2, none⟩ (.slice (some ⟨g3, 0, none⟩) its.length cap3) = w4 at X4 R4 B4 ⊢
  clear a0 a1 a2' i0 i1 i2 i3 i4 i5 i6 y0 y1 y2 f0 f2 X3 R3 B3
  have z4 : w.heap.size + 3 ≤ w4.heap.size := (unhide X4).2.2.2.2.2
  obtain ⟨⟨a0, a1, a2'⟩, ⟨i0, i1, i2, i3, i4, i5, i6⟩, ⟨y0, y1, y2⟩, f0, f2, -⟩ := unhide X4
  go_wp2_with fail
  refine (unhide HDO _ _ _ _ (unhide R4) (unhide B4)).mono ?_
  rintro e w5 ⟨a5, c5, rfl, hr5, hb5⟩
  have X5 := hide ((unhide X4).below hb5 z4)
  have R5 : Hid (Row w5 (w.heap.size + 3) (.slice a5 Oi.length c5) Oi) := Row.le hr5 z4
  have B5 := hide ((unhide B4).trans (hb5.mono (by omega)))
  have z5 : w.heap.size + 3 ≤ w5.heap.size := (unhide X5).2.2.2.2.2
  have q1 : w.heap.size + 1 < w5.heap.size := by omega
  have q2 : w.heap.size + 1 + 1 < w5.heap.size := by omega
  clear hr5 hb5 a0 a1 a2' i0 i1 i2 i3 i4 i5 i6 y0 y1 y2 f0 f2
  dsimp only
  obtain ⟨⟨a0, a1, a2'⟩, ⟨i0, i1, i2, i3, i4, i5, i6⟩, ⟨y0, y1, y2⟩, f0, f2, -⟩ := unhide X5
  go_wp2
  have rr := fun o => (bel1 (((w5.setCell ⟨w.heap.size + 1 + 1, 0, none⟩ (.int .i64 lim)).setCell ⟨w.heap.size + 1 + 1, 1, none⟩ (.int .i64 On)).setCell ⟨w.heap.size + 1 + 1, 2, none⟩ (.slice a5 Oi.length c5)) (.cells #[.int .i64 lim, .int .i64 On, .slice a5 Oi.length c5] 25)).cell (p := ⟨w.heap.size + 1 + 1, o, none⟩) (by simp; omega)
  refine bodyPost_ret (v := .tuple #[.agg #[.int .i64 lim, .int .i64 On, .slice a5 Oi.length c5], .string A, .int .i64 (Ol : Int), .bool true]) (by simp [results, Tryz.results6, go_sem, rr, y0, y1, y2]; done) rfl ?_
  refine doRow_row (B := w.heap.size + 3) ?_ (by omega) ?_
  · repeat (first | (refine ownsRow_setCell_below ?_ (by first | (simp; done) | (simp; omega)) _) | (refine Row.below ?_ (bel1 _ _) (Nat.le_refl _)))
    exact unhide R5
  · repeat (first | (refine Below.setCell ?_ (by first | (simp; done) | (simp; omega)) _) | (refine Below.alloc ?_ (by first | omega | (simp; omega)) _))
    exact unhide B5

set_option maxRecDepth 10000 in
set_option maxHeartbeats 8000000 in
theorem doStore_nokeys (lim nx : Int) (b off cap : Nat) (its : List Itm) (now : Int) (nm : ByteArray) (ka : Option Addr) (kc : Nat) (f x n : Int) (dt : ByteArray) (q : Bool) (w : World)
    (hb : b < w.heap.size) (hc : ∀ i, i < its.length → At w b (off + i * 5) (its.getD i zero)) (hl : its.length ≤ 1048576) (hcap : its.length ≤ cap) (hs : ∀ x ∈ its, Fits x)
    (hK : Kind.kindN nm.toList = 7) (hd : dt.size ≤ maxLen) :
    Calls Tryz.prog 6 #[.agg #[.int .i64 lim, .int .i64 nx, .slice (some ⟨b, off, none⟩) its.length cap], .int .i64 now, .agg #[.string nm, .slice ka 0 kc, .int .i64 f, .int .i64 x, .int .i64 n, .string dt, .bool q]] w
      (DoRow (doR lim nx its now nm.toList [] f x n dt q) w) := by
  have hgood := fun w' (hb' : Below w.heap.size w w') => Store.spec_some lim nx b off cap its w' (Nat.lt_of_lt_of_le hb hb'.size) (fun i hi => (hc i hi).below hb' hb) (by unfold maxLen; omega) hcap hs
  have hcm := fun w' (hb' : Below w.heap.size w w') => GoodCmd.spec_k7_opt nm ka kc [] f x n dt q w' (fun h => absurd rfl h) (by simp) (by simp) hd (hide hK)
  have HNW := hide (fun w' (hb' : Below w.heap.size w w') => news_at (w := w') (b := b) (off := off) (its := its) (fun i hi => (hc i hi).below hb' hb))
  rw [← hK] at hcm
  clear hc hs hd
  have hno : ∀ (w1 : World), Below w.heap.size w w1 → doR lim nx its now nm.toList [] f x n dt q = noDone → DoRow (doR lim nx its now nm.toList [] f x n dt q) w (.returned (.tuple #[.agg #[.int .i64 0, .int .i64 0, .slice none 0 0], .string ⟨#[]⟩, .int .i64 0, .bool false])) w1 := by
    intro w1 hb1 e
    rw [e]
    exact ⟨none, 0, rfl, World.ownsRow_nil _ _ _ _, hb1⟩
  have HNO := hide hno
  clear hno
  cases g1 : gsB lim nx its
  · have H : Hid (doR lim nx its now nm.toList [] f x n dt q = noDone) := by show doR lim nx its now nm.toList [] f x n dt q = _; simp [doR, g1]
    rw [g1] at hgood
    have HG := hide hgood
    clear hgood g1 hcm HNW
    generalize doR lim nx its now nm.toList [] f x n dt q = T at H HNO ⊢
    go_enter Tryz.func6, Tryz.ntmps6
    go_wp2_with fail
    refine (unhide HG _ (bel3 w _ _ _)).mono ?_
    rintro e w1 ⟨rfl, hb1⟩
    simp only [World.size_alloc] at hb1
    have hB1 := hide ((bel3 w _ _ _).trans (hb1.mono (by omega)))
    have X1 := hide ((bw_new w lim nx (.slice (some ⟨b, off, none⟩) its.length cap) nm (.slice ka 0 kc) f x n dt q).below hb1 (by omega))
    have z1 : w.heap.size + 3 ≤ w1.heap.size := (unhide X1).2.2.2.2.2
    clear hb1
    obtain ⟨⟨a0, a1, a2'⟩, ⟨i0, i1, i2, i3, i4, i5, i6⟩, ⟨y0, y1, y2⟩, f0, f2, -⟩ := unhide X1
    go_wp2
    refine bodyPost_ret (v := .tuple #[.agg #[.int .i64 0, .int .i64 0, .slice none 0 0], .string ⟨#[]⟩, .int .i64 0, .bool false]) (by simp [results, Tryz.results6, go_sem, y0, y1, y2]; done) rfl (unhide HNO _ ?_ (unhide H))
    repeat (refine Below.setCell ?_ (by first | (simp; done) | (simp; omega)) _)
    exact unhide hB1
  have HOK := hide (store_ok g1)
  rw [g1] at hgood
  have HG := hide hgood
  clear hgood
  cases g2 : inB now 0 1000000000
  · have H : Hid (doR lim nx its now nm.toList [] f x n dt q = noDone) := by show doR lim nx its now nm.toList [] f x n dt q = _; simp [doR, g1, g2]
    clear g1 hcm HNW
    generalize doR lim nx its now nm.toList [] f x n dt q = T at H HNO ⊢
    go_enter Tryz.func6, Tryz.ntmps6
    go_wp2_with fail
    refine (unhide HG _ (bel3 w _ _ _)).mono ?_
    rintro e w1 ⟨rfl, hb1⟩
    simp only [World.size_alloc] at hb1
    have hB1 := hide ((bel3 w _ _ _).trans (hb1.mono (by omega)))
    have X1 := hide ((bw_new w lim nx (.slice (some ⟨b, off, none⟩) its.length cap) nm (.slice ka 0 kc) f x n dt q).below hb1 (by omega))
    have z1 : w.heap.size + 3 ≤ w1.heap.size := (unhide X1).2.2.2.2.2
    clear hb1
    obtain ⟨⟨a0, a1, a2'⟩, ⟨i0, i1, i2, i3, i4, i5, i6⟩, ⟨y0, y1, y2⟩, f0, f2, -⟩ := unhide X1
    go_wp2_with (go_at_call 21; refine (l2Now_any _ _).mono ?_; rintro e w2 ⟨rfl, rfl⟩)
    refine bodyPost_ret (v := .tuple #[.agg #[.int .i64 0, .int .i64 0, .slice none 0 0], .string ⟨#[]⟩, .int .i64 0, .bool false]) (by simp [results, Tryz.results6, go_sem, y0, y1, y2]; done) rfl (unhide HNO _ ?_ (unhide H))
    repeat (refine Below.setCell ?_ (by first | (simp; done) | (simp; omega)) _)
    exact unhide hB1
  cases g3 : GoodCmd.gcB (Kind.kindN nm.toList) [] f x n dt q
  · have H : Hid (doR lim nx its now nm.toList [] f x n dt q = noDone) := by show doR lim nx its now nm.toList [] f x n dt q = _; simp [doR, g1, g2, g3]
    rw [g3] at hcm
    have HCM := hide hcm
    clear g1 hcm g3 HNW
    generalize doR lim nx its now nm.toList [] f x n dt q = T at H HNO ⊢
    go_enter Tryz.func6, Tryz.ntmps6
    go_wp2_with fail
    refine (unhide HG _ (bel3 w _ _ _)).mono ?_
    rintro e w1 ⟨rfl, hb1⟩
    simp only [World.size_alloc] at hb1
    have hB1 := hide ((bel3 w _ _ _).trans (hb1.mono (by omega)))
    have X1 := hide ((bw_new w lim nx (.slice (some ⟨b, off, none⟩) its.length cap) nm (.slice ka 0 kc) f x n dt q).below hb1 (by omega))
    have z1 : w.heap.size + 3 ≤ w1.heap.size := (unhide X1).2.2.2.2.2
    clear hb1
    obtain ⟨⟨a0, a1, a2'⟩, ⟨i0, i1, i2, i3, i4, i5, i6⟩, ⟨y0, y1, y2⟩, f0, f2, -⟩ := unhide X1
    go_wp2_with (go_at_call 21; refine (l2Now_any _ _).mono ?_; rintro e w2 ⟨rfl, rfl⟩)
    refine (unhide HCM _ (unhide hB1)).mono ?_
    rintro e w2 ⟨rfl, hb2⟩
    have hB2 := hide ((unhide hB1).trans (hb2.mono (by omega)))
    have X2 := hide ((unhide X1).below hb2 z1)
    have z2 : w.heap.size + 3 ≤ w2.heap.size := (unhide X2).2.2.2.2.2
    clear hb2 a0 a1 a2' i0 i1 i2 i3 i4 i5 i6 y0 y1 y2 f0 f2
    obtain ⟨⟨a0, a1, a2'⟩, ⟨i0, i1, i2, i3, i4, i5, i6⟩, ⟨y0, y1, y2⟩, f0, f2, -⟩ := unhide X2
    go_wp2
    refine bodyPost_ret (v := .tuple #[.agg #[.int .i64 0, .int .i64 0, .slice none 0 0], .string ⟨#[]⟩, .int .i64 0, .bool false]) (by simp [results, Tryz.results6, go_sem, y0, y1, y2]; done) rfl (unhide HNO _ ?_ (unhide H))
    repeat (refine Below.setCell ?_ (by first | (simp; done) | (simp; omega)) _)
    exact unhide hB2
  have H : Hid (doR lim nx its now nm.toList [] f x n dt q = yesDone lim q (ansO lim nx (keepB its now) now nm.toList [] f x n dt)) := by show doR lim nx its now nm.toList [] f x n dt q = _; simp only [doR, g1, g2, g3, if_true]
  have hnow := inB_iff g2
  obtain ⟨hlim, hnx, hl60, hits⟩ := unhide HOK
  obtain ⟨O, hO⟩ : ∃ O, ansO lim nx (keepB its now) now nm.toList [] f x n dt = O := ⟨_, rfl⟩
  have HDO := hide (fun g cg B' w' (hr' : Row w' B' (.slice (some ⟨g, 0, none⟩) its.length cg) its) (hb' : Below w.heap.size w w') => l2Answer_nil lim nx g cg B' its now nm ka kc f x n dt q w' hr' hl60 hits hlim hnx hK O hO)
  rw [hO] at H
  generalize doR lim nx its now nm.toList [] f x n dt q = T at H HNO ⊢
  rw [g3] at hcm
  have HCM := hide hcm
  have HLE : Hid (0 + its.length = its.length) := Nat.zero_add _
  clear g1 hcm g3 HNO hits hO HOK hlim hnx hnow
  obtain rfl : T = yesDone lim q O := unhide H
  obtain ⟨Oi, On, Ol, Oa⟩ := O
  unfold yesDone
  dsimp only at HDO ⊢
  clear H
  generalize (if q = true then (⟨#[]⟩ : ByteArray) else Oa) = A at HDO ⊢
  go_enter Tryz.func6, Tryz.ntmps6
  go_wp2_with fail
  refine (unhide HG _ (bel3 w _ _ _)).mono ?_
  rintro e w1 ⟨rfl, hb1⟩
  simp only [World.size_alloc] at hb1
  have hB1 := hide ((bel3 w _ _ _).trans (hb1.mono (by omega)))
  have X1 := hide ((bw_new w lim nx (.slice (some ⟨b, off, none⟩) its.length cap) nm (.slice ka 0 kc) f x n dt q).below hb1 (by omega))
  have z1 : w.heap.size + 3 ≤ w1.heap.size := (unhide X1).2.2.2.2.2
  clear hb1
  obtain ⟨⟨a0, a1, a2'⟩, ⟨i0, i1, i2, i3, i4, i5, i6⟩, ⟨y0, y1, y2⟩, f0, f2, -⟩ := unhide X1
  go_wp2_with (go_at_call 21; refine (l2Now_any _ _).mono ?_; rintro e w2 ⟨rfl, rfl⟩)
  refine (unhide HCM _ (unhide hB1)).mono ?_
  rintro e w2 ⟨rfl, hb2⟩
  have hB2 := hide ((unhide hB1).trans (hb2.mono (by omega)))
  have X2 := hide ((unhide X1).below hb2 z1)
  have z2 : w.heap.size + 3 ≤ w2.heap.size := (unhide X2).2.2.2.2.2
  clear hb2 a0 a1 a2' i0 i1 i2 i3 i4 i5 i6 y0 y1 y2 f0 f2
  obtain ⟨⟨a0, a1, a2'⟩, ⟨i0, i1, i2, i3, i4, i5, i6⟩, ⟨y0, y1, y2⟩, f0, f2, -⟩ := unhide X2
  have q0 : w.heap.size < w2.heap.size := by omega
  have HNV := hide (unhide HNW (w2.alloc (.cells #[] 37)) ((unhide hB2).alloc (by omega) _))
  go_wp2_with (at_builtin; refine list_items _ rfl (.tmp 27) (.tmp 29) rfl w2.heap.size w2.heap.size 0 0 [] rfl (row_empty w2 (Nat.le_refl _)) rfl ⟨b, off, none⟩ its.length cap its rfl rfl (unhide HNV) its.length (unhide HLE) (by omega) (by simp) ?_)
  intro g3 cap3 w3 hrow3 hg3
  have HB3 := hide (((Below.refl w2.heap.size w2).alloc (Nat.le_refl _) _).grown hg3 (by simp) (fun k e => by simp at e; omega))
  have X3 := hide ((unhide X2).below (unhide HB3) z2)
  have z3 : w2.heap.size ≤ w3.heap.size := (unhide HB3).size
  have R3 := hide hrow3
  have B3 := hide ((unhide hB2).trans ((unhide HB3).mono (by omega)))
  clear hrow3 hg3 a0 a1 a2' i0 i1 i2 i3 i4 i5 i6 y0 y1 y2 f0 f2 HNV HNW X1 X2 HB3
  have X4 := hide ((unhide X3).put2 (.slice (some ⟨g3, 0, none⟩) its.length cap3))
  have R4 : Hid (Row (w3.setCell ⟨w.heap.size, 2, none⟩ (.slice (some ⟨g3, 0, none⟩) its.length cap3)) w2.heap.size (.slice (some ⟨g3, 0, none⟩) its.length cap3) its) := ownsRow_setCell_below (unhide R3) (a := ⟨w.heap.size, 2, none⟩) (show w.heap.size < w2.heap.size by omega) _
  have B4 := hide ((unhide B3).setCell (p := ⟨w.heap.size, 2, none⟩) (Nat.le_refl _) (.slice (some ⟨g3, 0, none⟩) its.length cap3))
  obtain ⟨⟨a0, a1, a2'⟩, ⟨i0, i1, i2, i3, i4, i5, i6⟩, ⟨y0, y1, y2⟩, f0, f2, -⟩ := unhide X3
  go_upto_region 4 with fail
  generalize w3.setCell ⟨w.heap.size, 2, none⟩ (.slice (some ⟨g3, 0, none⟩) its.length cap3) = w4 at X4 R4 B4 ⊢
  clear a0 a1 a2' i0 i1 i2 i3 i4 i5 i6 y0 y1 y2 f0 f2 X3 R3 B3
  have z4 : w.heap.size + 3 ≤ w4.heap.size := (unhide X4).2.2.2.2.2
  obtain ⟨⟨a0, a1, a2'⟩, ⟨i0, i1, i2, i3, i4, i5, i6⟩, ⟨y0, y1, y2⟩, f0, f2, -⟩ := unhide X4
  go_wp2_with fail
  refine (unhide HDO _ _ _ _ (unhide R4) (unhide B4)).mono ?_
  rintro e w5 ⟨a5, c5, rfl, hr5, hb5⟩
  have X5 := hide ((unhide X4).below hb5 z4)
  have R5 : Hid (Row w5 (w.heap.size + 3) (.slice a5 Oi.length c5) Oi) := Row.le hr5 z4
  have B5 := hide ((unhide B4).trans (hb5.mono (by omega)))
  have z5 : w.heap.size + 3 ≤ w5.heap.size := (unhide X5).2.2.2.2.2
  have q1 : w.heap.size + 1 < w5.heap.size := by omega
  have q2 : w.heap.size + 1 + 1 < w5.heap.size := by omega
  clear hr5 hb5 a0 a1 a2' i0 i1 i2 i3 i4 i5 i6 y0 y1 y2 f0 f2
  dsimp only
  obtain ⟨⟨a0, a1, a2'⟩, ⟨i0, i1, i2, i3, i4, i5, i6⟩, ⟨y0, y1, y2⟩, f0, f2, -⟩ := unhide X5
  go_wp2
  have rr := fun o => (bel1 (((w5.setCell ⟨w.heap.size + 1 + 1, 0, none⟩ (.int .i64 lim)).setCell ⟨w.heap.size + 1 + 1, 1, none⟩ (.int .i64 On)).setCell ⟨w.heap.size + 1 + 1, 2, none⟩ (.slice a5 Oi.length c5)) (.cells #[.int .i64 lim, .int .i64 On, .slice a5 Oi.length c5] 25)).cell (p := ⟨w.heap.size + 1 + 1, o, none⟩) (by simp; omega)
  refine bodyPost_ret (v := .tuple #[.agg #[.int .i64 lim, .int .i64 On, .slice a5 Oi.length c5], .string A, .int .i64 (Ol : Int), .bool true]) (by simp [results, Tryz.results6, go_sem, rr, y0, y1, y2]; done) rfl ?_
  refine doRow_row (B := w.heap.size + 3) ?_ (by omega) ?_
  · repeat (first | (refine ownsRow_setCell_below ?_ (by first | (simp; done) | (simp; omega)) _) | (refine Row.below ?_ (bel1 _ _) (Nat.le_refl _)))
    exact unhide R5
  · repeat (first | (refine Below.setCell ?_ (by first | (simp; done) | (simp; omega)) _) | (refine Below.alloc ?_ (by first | omega | (simp; omega)) _))
    exact unhide B5

set_option maxRecDepth 10000 in
set_option maxHeartbeats 8000000 in
theorem doStore_noitems (lim nx : Int) (ad : Addr) (cap : Nat) (now : Int) (nm : ByteArray) (kb ko kc : Nat) (ks : List ByteArray) (f x n : Int) (dt : ByteArray) (q : Bool) (w : World)
        (hkb : kb < w.heap.size) (hkc : ∀ i, i < ks.length → w.cell? ⟨kb, ko + i, none⟩ = some (.string (ks.getD i ByteArray.empty))) (hkl : ks.length ≤ maxLen) (hks : ∀ s ∈ ks, s.size ≤ maxLen) (hd : dt.size ≤ maxLen) :
    Calls Tryz.prog 6 #[.agg #[.int .i64 lim, .int .i64 nx, .slice (some ad) 0 cap], .int .i64 now, .agg #[.string nm, .slice (some ⟨kb, ko, none⟩) ks.length kc, .int .i64 f, .int .i64 x, .int .i64 n, .string dt, .bool q]] w
      (DoRow (doR lim nx ([] : List Itm) now nm.toList ks f x n dt q) w) := by
  have hgood := fun w' (hb' : Below w.heap.size w w') => Store.spec_opt lim nx (some ad) cap [] w' (fun h => absurd rfl h) (by simp) (by simp) (by simp)
  have hcm := fun w' (hb' : Below w.heap.size w w') => GoodCmd.spec_any nm kb ko kc ks f x n dt q w' (Nat.lt_of_lt_of_le hkb hb'.size) (fun i hi => (hb'.cell (p := ⟨kb, ko + i, none⟩) hkb).trans (hkc i hi)) hkl hks hd
  have HKC := hide hkc
  clear hkc hks hd
  have hno : ∀ (w1 : World), Below w.heap.size w w1 → doR lim nx ([] : List Itm) now nm.toList ks f x n dt q = noDone → DoRow (doR lim nx ([] : List Itm) now nm.toList ks f x n dt q) w (.returned (.tuple #[.agg #[.int .i64 0, .int .i64 0, .slice none 0 0], .string ⟨#[]⟩, .int .i64 0, .bool false])) w1 := by
    intro w1 hb1 e
    rw [e]
    exact ⟨none, 0, rfl, World.ownsRow_nil _ _ _ _, hb1⟩
  have HNO := hide hno
  clear hno
  cases g1 : gsB lim nx ([] : List Itm)
  · have H : Hid (doR lim nx ([] : List Itm) now nm.toList ks f x n dt q = noDone) := by show doR lim nx ([] : List Itm) now nm.toList ks f x n dt q = _; simp [doR, g1]
    rw [g1] at hgood
    have HG := hide hgood
    clear hgood g1 hcm
    generalize doR lim nx ([] : List Itm) now nm.toList ks f x n dt q = T at H HNO ⊢
    go_enter Tryz.func6, Tryz.ntmps6
    go_wp2_with fail
    refine (unhide HG _ (bel3 w _ _ _)).mono ?_
    rintro e w1 ⟨rfl, hb1⟩
    simp only [World.size_alloc] at hb1
    have hB1 := hide ((bel3 w _ _ _).trans (hb1.mono (by omega)))
    have X1 := hide ((bw_new w lim nx (.slice (some ad) 0 cap) nm (.slice (some ⟨kb, ko, none⟩) ks.length kc) f x n dt q).below hb1 (by omega))
    have z1 : w.heap.size + 3 ≤ w1.heap.size := (unhide X1).2.2.2.2.2
    clear hb1
    obtain ⟨⟨a0, a1, a2'⟩, ⟨i0, i1, i2, i3, i4, i5, i6⟩, ⟨y0, y1, y2⟩, f0, f2, -⟩ := unhide X1
    go_wp2
    refine bodyPost_ret (v := .tuple #[.agg #[.int .i64 0, .int .i64 0, .slice none 0 0], .string ⟨#[]⟩, .int .i64 0, .bool false]) (by simp [results, Tryz.results6, go_sem, y0, y1, y2]; done) rfl (unhide HNO _ ?_ (unhide H))
    repeat (refine Below.setCell ?_ (by first | (simp; done) | (simp; omega)) _)
    exact unhide hB1
  have HOK := hide (store_ok g1)
  rw [g1] at hgood
  have HG := hide hgood
  clear hgood
  cases g2 : inB now 0 1000000000
  · have H : Hid (doR lim nx ([] : List Itm) now nm.toList ks f x n dt q = noDone) := by show doR lim nx ([] : List Itm) now nm.toList ks f x n dt q = _; simp [doR, g1, g2]
    clear g1 hcm
    generalize doR lim nx ([] : List Itm) now nm.toList ks f x n dt q = T at H HNO ⊢
    go_enter Tryz.func6, Tryz.ntmps6
    go_wp2_with fail
    refine (unhide HG _ (bel3 w _ _ _)).mono ?_
    rintro e w1 ⟨rfl, hb1⟩
    simp only [World.size_alloc] at hb1
    have hB1 := hide ((bel3 w _ _ _).trans (hb1.mono (by omega)))
    have X1 := hide ((bw_new w lim nx (.slice (some ad) 0 cap) nm (.slice (some ⟨kb, ko, none⟩) ks.length kc) f x n dt q).below hb1 (by omega))
    have z1 : w.heap.size + 3 ≤ w1.heap.size := (unhide X1).2.2.2.2.2
    clear hb1
    obtain ⟨⟨a0, a1, a2'⟩, ⟨i0, i1, i2, i3, i4, i5, i6⟩, ⟨y0, y1, y2⟩, f0, f2, -⟩ := unhide X1
    go_wp2_with (go_at_call 21; refine (l2Now_any _ _).mono ?_; rintro e w2 ⟨rfl, rfl⟩)
    refine bodyPost_ret (v := .tuple #[.agg #[.int .i64 0, .int .i64 0, .slice none 0 0], .string ⟨#[]⟩, .int .i64 0, .bool false]) (by simp [results, Tryz.results6, go_sem, y0, y1, y2]; done) rfl (unhide HNO _ ?_ (unhide H))
    repeat (refine Below.setCell ?_ (by first | (simp; done) | (simp; omega)) _)
    exact unhide hB1
  cases g3 : GoodCmd.gcB (Kind.kindN nm.toList) ks f x n dt q
  · have H : Hid (doR lim nx ([] : List Itm) now nm.toList ks f x n dt q = noDone) := by show doR lim nx ([] : List Itm) now nm.toList ks f x n dt q = _; simp [doR, g1, g2, g3]
    rw [g3] at hcm
    have HCM := hide hcm
    clear g1 hcm g3
    generalize doR lim nx ([] : List Itm) now nm.toList ks f x n dt q = T at H HNO ⊢
    go_enter Tryz.func6, Tryz.ntmps6
    go_wp2_with fail
    refine (unhide HG _ (bel3 w _ _ _)).mono ?_
    rintro e w1 ⟨rfl, hb1⟩
    simp only [World.size_alloc] at hb1
    have hB1 := hide ((bel3 w _ _ _).trans (hb1.mono (by omega)))
    have X1 := hide ((bw_new w lim nx (.slice (some ad) 0 cap) nm (.slice (some ⟨kb, ko, none⟩) ks.length kc) f x n dt q).below hb1 (by omega))
    have z1 : w.heap.size + 3 ≤ w1.heap.size := (unhide X1).2.2.2.2.2
    clear hb1
    obtain ⟨⟨a0, a1, a2'⟩, ⟨i0, i1, i2, i3, i4, i5, i6⟩, ⟨y0, y1, y2⟩, f0, f2, -⟩ := unhide X1
    go_wp2_with (go_at_call 21; refine (l2Now_any _ _).mono ?_; rintro e w2 ⟨rfl, rfl⟩)
    refine (unhide HCM _ (unhide hB1)).mono ?_
    rintro e w2 ⟨rfl, hb2⟩
    have hB2 := hide ((unhide hB1).trans (hb2.mono (by omega)))
    have X2 := hide ((unhide X1).below hb2 z1)
    have z2 : w.heap.size + 3 ≤ w2.heap.size := (unhide X2).2.2.2.2.2
    clear hb2 a0 a1 a2' i0 i1 i2 i3 i4 i5 i6 y0 y1 y2 f0 f2
    obtain ⟨⟨a0, a1, a2'⟩, ⟨i0, i1, i2, i3, i4, i5, i6⟩, ⟨y0, y1, y2⟩, f0, f2, -⟩ := unhide X2
    go_wp2
    refine bodyPost_ret (v := .tuple #[.agg #[.int .i64 0, .int .i64 0, .slice none 0 0], .string ⟨#[]⟩, .int .i64 0, .bool false]) (by simp [results, Tryz.results6, go_sem, y0, y1, y2]; done) rfl (unhide HNO _ ?_ (unhide H))
    repeat (refine Below.setCell ?_ (by first | (simp; done) | (simp; omega)) _)
    exact unhide hB2
  have H : Hid (doR lim nx ([] : List Itm) now nm.toList ks f x n dt q = yesDone lim q (ansO lim nx (keepB ([] : List Itm) now) now nm.toList ks f x n dt)) := by show doR lim nx ([] : List Itm) now nm.toList ks f x n dt q = _; simp only [doR, g1, g2, g3, if_true]
  have hnow := inB_iff g2
  obtain ⟨hlim, hnx, hl60, hits⟩ := unhide HOK
  obtain ⟨O, hO⟩ : ∃ O, ansO lim nx (keepB ([] : List Itm) now) now nm.toList ks f x n dt = O := ⟨_, rfl⟩
  have HDO := hide (fun g cg B' w' (hr' : Row w' B' (.slice (some ⟨g, 0, none⟩) 0 cg) ([] : List Itm)) (hb' : Below w.heap.size w w') => l2Answer_any lim nx g cg B' ([] : List Itm) now nm kb ko kc ks f x n dt q w' hr' hl60 hits hlim hnx (Nat.lt_of_lt_of_le hkb hb'.size) (fun i hi => (hb'.cell (p := ⟨kb, ko + i, none⟩) hkb).trans (unhide HKC i hi)) hnow g3 O hO)
  rw [hO] at H
  generalize doR lim nx ([] : List Itm) now nm.toList ks f x n dt q = T at H HNO ⊢
  rw [g3] at hcm
  have HCM := hide hcm
  have HLE : Hid (0 + 0 = 0) := Nat.zero_add _
  clear g1 hcm g3 HNO hits hO HOK hlim hnx HKC hnow
  obtain rfl : T = yesDone lim q O := unhide H
  obtain ⟨Oi, On, Ol, Oa⟩ := O
  unfold yesDone
  dsimp only at HDO ⊢
  clear H
  generalize (if q = true then (⟨#[]⟩ : ByteArray) else Oa) = A at HDO ⊢
  go_enter Tryz.func6, Tryz.ntmps6
  go_wp2_with fail
  refine (unhide HG _ (bel3 w _ _ _)).mono ?_
  rintro e w1 ⟨rfl, hb1⟩
  simp only [World.size_alloc] at hb1
  have hB1 := hide ((bel3 w _ _ _).trans (hb1.mono (by omega)))
  have X1 := hide ((bw_new w lim nx (.slice (some ad) 0 cap) nm (.slice (some ⟨kb, ko, none⟩) ks.length kc) f x n dt q).below hb1 (by omega))
  have z1 : w.heap.size + 3 ≤ w1.heap.size := (unhide X1).2.2.2.2.2
  clear hb1
  obtain ⟨⟨a0, a1, a2'⟩, ⟨i0, i1, i2, i3, i4, i5, i6⟩, ⟨y0, y1, y2⟩, f0, f2, -⟩ := unhide X1
  go_wp2_with (go_at_call 21; refine (l2Now_any _ _).mono ?_; rintro e w2 ⟨rfl, rfl⟩)
  refine (unhide HCM _ (unhide hB1)).mono ?_
  rintro e w2 ⟨rfl, hb2⟩
  have hB2 := hide ((unhide hB1).trans (hb2.mono (by omega)))
  have X2 := hide ((unhide X1).below hb2 z1)
  have z2 : w.heap.size + 3 ≤ w2.heap.size := (unhide X2).2.2.2.2.2
  clear hb2 a0 a1 a2' i0 i1 i2 i3 i4 i5 i6 y0 y1 y2 f0 f2
  obtain ⟨⟨a0, a1, a2'⟩, ⟨i0, i1, i2, i3, i4, i5, i6⟩, ⟨y0, y1, y2⟩, f0, f2, -⟩ := unhide X2
  have q0 : w.heap.size < w2.heap.size := by omega
  go_wp2_with (at_builtin; refine list_items _ rfl (.tmp 27) (.tmp 29) rfl w2.heap.size w2.heap.size 0 0 [] rfl (row_empty w2 (Nat.le_refl _)) rfl ad 0 cap [] rfl rfl (fun j u hj => by simp [flat] at hj) 0 rfl (by omega) (by simp) ?_)
  intro g3 cap3 w3 hrow3 hg3
  have HB3 := hide (((Below.refl w2.heap.size w2).alloc (Nat.le_refl _) _).grown hg3 (by simp) (fun k e => by simp at e; omega))
  have X3 := hide ((unhide X2).below (unhide HB3) z2)
  have z3 : w2.heap.size ≤ w3.heap.size := (unhide HB3).size
  have R3 := hide hrow3
  have B3 := hide ((unhide hB2).trans ((unhide HB3).mono (by omega)))
  clear hrow3 hg3 a0 a1 a2' i0 i1 i2 i3 i4 i5 i6 y0 y1 y2 f0 f2 X1 X2 HB3
  have X4 := hide ((unhide X3).put2 (.slice (some ⟨g3, 0, none⟩) 0 cap3))
  have R4 : Hid (Row (w3.setCell ⟨w.heap.size, 2, none⟩ (.slice (some ⟨g3, 0, none⟩) 0 cap3)) w2.heap.size (.slice (some ⟨g3, 0, none⟩) 0 cap3) ([] : List Itm)) := ownsRow_setCell_below (unhide R3) (a := ⟨w.heap.size, 2, none⟩) (show w.heap.size < w2.heap.size by omega) _
  have B4 := hide ((unhide B3).setCell (p := ⟨w.heap.size, 2, none⟩) (Nat.le_refl _) (.slice (some ⟨g3, 0, none⟩) 0 cap3))
  obtain ⟨⟨a0, a1, a2'⟩, ⟨i0, i1, i2, i3, i4, i5, i6⟩, ⟨y0, y1, y2⟩, f0, f2, -⟩ := unhide X3
  go_upto_region 4 with fail
  generalize w3.setCell ⟨w.heap.size, 2, none⟩ (.slice (some ⟨g3, 0, none⟩) 0 cap3) = w4 at X4 R4 B4 ⊢
  clear a0 a1 a2' i0 i1 i2 i3 i4 i5 i6 y0 y1 y2 f0 f2 X3 R3 B3
  have z4 : w.heap.size + 3 ≤ w4.heap.size := (unhide X4).2.2.2.2.2
  obtain ⟨⟨a0, a1, a2'⟩, ⟨i0, i1, i2, i3, i4, i5, i6⟩, ⟨y0, y1, y2⟩, f0, f2, -⟩ := unhide X4
  go_wp2_with fail
  refine (unhide HDO _ _ _ _ (unhide R4) (unhide B4)).mono ?_
  rintro e w5 ⟨a5, c5, rfl, hr5, hb5⟩
  have X5 := hide ((unhide X4).below hb5 z4)
  have R5 : Hid (Row w5 (w.heap.size + 3) (.slice a5 Oi.length c5) Oi) := Row.le hr5 z4
  have B5 := hide ((unhide B4).trans (hb5.mono (by omega)))
  have z5 : w.heap.size + 3 ≤ w5.heap.size := (unhide X5).2.2.2.2.2
  have q1 : w.heap.size + 1 < w5.heap.size := by omega
  have q2 : w.heap.size + 1 + 1 < w5.heap.size := by omega
  clear hr5 hb5 a0 a1 a2' i0 i1 i2 i3 i4 i5 i6 y0 y1 y2 f0 f2
  dsimp only
  obtain ⟨⟨a0, a1, a2'⟩, ⟨i0, i1, i2, i3, i4, i5, i6⟩, ⟨y0, y1, y2⟩, f0, f2, -⟩ := unhide X5
  go_wp2
  have rr := fun o => (bel1 (((w5.setCell ⟨w.heap.size + 1 + 1, 0, none⟩ (.int .i64 lim)).setCell ⟨w.heap.size + 1 + 1, 1, none⟩ (.int .i64 On)).setCell ⟨w.heap.size + 1 + 1, 2, none⟩ (.slice a5 Oi.length c5)) (.cells #[.int .i64 lim, .int .i64 On, .slice a5 Oi.length c5] 25)).cell (p := ⟨w.heap.size + 1 + 1, o, none⟩) (by simp; omega)
  refine bodyPost_ret (v := .tuple #[.agg #[.int .i64 lim, .int .i64 On, .slice a5 Oi.length c5], .string A, .int .i64 (Ol : Int), .bool true]) (by simp [results, Tryz.results6, go_sem, rr, y0, y1, y2]; done) rfl ?_
  refine doRow_row (B := w.heap.size + 3) ?_ (by omega) ?_
  · repeat (first | (refine ownsRow_setCell_below ?_ (by first | (simp; done) | (simp; omega)) _) | (refine Row.below ?_ (bel1 _ _) (Nat.le_refl _)))
    exact unhide R5
  · repeat (first | (refine Below.setCell ?_ (by first | (simp; done) | (simp; omega)) _) | (refine Below.alloc ?_ (by first | omega | (simp; omega)) _))
    exact unhide B5

set_option maxRecDepth 10000 in
set_option maxHeartbeats 8000000 in
theorem doStore_nilitems (lim nx : Int) (cap : Nat) (now : Int) (nm : ByteArray) (kb ko kc : Nat) (ks : List ByteArray) (f x n : Int) (dt : ByteArray) (q : Bool) (w : World)
        (hkb : kb < w.heap.size) (hkc : ∀ i, i < ks.length → w.cell? ⟨kb, ko + i, none⟩ = some (.string (ks.getD i ByteArray.empty))) (hkl : ks.length ≤ maxLen) (hks : ∀ s ∈ ks, s.size ≤ maxLen) (hd : dt.size ≤ maxLen) :
    Calls Tryz.prog 6 #[.agg #[.int .i64 lim, .int .i64 nx, .slice none 0 cap], .int .i64 now, .agg #[.string nm, .slice (some ⟨kb, ko, none⟩) ks.length kc, .int .i64 f, .int .i64 x, .int .i64 n, .string dt, .bool q]] w
      (DoRow (doR lim nx ([] : List Itm) now nm.toList ks f x n dt q) w) := by
  have hgood := fun w' (hb' : Below w.heap.size w w') => Store.spec_opt lim nx none cap [] w' (fun h => absurd rfl h) (by simp) (by simp) (by simp)
  have hcm := fun w' (hb' : Below w.heap.size w w') => GoodCmd.spec_any nm kb ko kc ks f x n dt q w' (Nat.lt_of_lt_of_le hkb hb'.size) (fun i hi => (hb'.cell (p := ⟨kb, ko + i, none⟩) hkb).trans (hkc i hi)) hkl hks hd
  have HKC := hide hkc
  clear hkc hks hd
  have hno : ∀ (w1 : World), Below w.heap.size w w1 → doR lim nx ([] : List Itm) now nm.toList ks f x n dt q = noDone → DoRow (doR lim nx ([] : List Itm) now nm.toList ks f x n dt q) w (.returned (.tuple #[.agg #[.int .i64 0, .int .i64 0, .slice none 0 0], .string ⟨#[]⟩, .int .i64 0, .bool false])) w1 := by
    intro w1 hb1 e
    rw [e]
    exact ⟨none, 0, rfl, World.ownsRow_nil _ _ _ _, hb1⟩
  have HNO := hide hno
  clear hno
  cases g1 : gsB lim nx ([] : List Itm)
  · have H : Hid (doR lim nx ([] : List Itm) now nm.toList ks f x n dt q = noDone) := by show doR lim nx ([] : List Itm) now nm.toList ks f x n dt q = _; simp [doR, g1]
    rw [g1] at hgood
    have HG := hide hgood
    clear hgood g1 hcm
    generalize doR lim nx ([] : List Itm) now nm.toList ks f x n dt q = T at H HNO ⊢
    go_enter Tryz.func6, Tryz.ntmps6
    go_wp2_with fail
    refine (unhide HG _ (bel3 w _ _ _)).mono ?_
    rintro e w1 ⟨rfl, hb1⟩
    simp only [World.size_alloc] at hb1
    have hB1 := hide ((bel3 w _ _ _).trans (hb1.mono (by omega)))
    have X1 := hide ((bw_new w lim nx (.slice none 0 cap) nm (.slice (some ⟨kb, ko, none⟩) ks.length kc) f x n dt q).below hb1 (by omega))
    have z1 : w.heap.size + 3 ≤ w1.heap.size := (unhide X1).2.2.2.2.2
    clear hb1
    obtain ⟨⟨a0, a1, a2'⟩, ⟨i0, i1, i2, i3, i4, i5, i6⟩, ⟨y0, y1, y2⟩, f0, f2, -⟩ := unhide X1
    go_wp2
    refine bodyPost_ret (v := .tuple #[.agg #[.int .i64 0, .int .i64 0, .slice none 0 0], .string ⟨#[]⟩, .int .i64 0, .bool false]) (by simp [results, Tryz.results6, go_sem, y0, y1, y2]; done) rfl (unhide HNO _ ?_ (unhide H))
    repeat (refine Below.setCell ?_ (by first | (simp; done) | (simp; omega)) _)
    exact unhide hB1
  have HOK := hide (store_ok g1)
  rw [g1] at hgood
  have HG := hide hgood
  clear hgood
  cases g2 : inB now 0 1000000000
  · have H : Hid (doR lim nx ([] : List Itm) now nm.toList ks f x n dt q = noDone) := by show doR lim nx ([] : List Itm) now nm.toList ks f x n dt q = _; simp [doR, g1, g2]
    clear g1 hcm
    generalize doR lim nx ([] : List Itm) now nm.toList ks f x n dt q = T at H HNO ⊢
    go_enter Tryz.func6, Tryz.ntmps6
    go_wp2_with fail
    refine (unhide HG _ (bel3 w _ _ _)).mono ?_
    rintro e w1 ⟨rfl, hb1⟩
    simp only [World.size_alloc] at hb1
    have hB1 := hide ((bel3 w _ _ _).trans (hb1.mono (by omega)))
    have X1 := hide ((bw_new w lim nx (.slice none 0 cap) nm (.slice (some ⟨kb, ko, none⟩) ks.length kc) f x n dt q).below hb1 (by omega))
    have z1 : w.heap.size + 3 ≤ w1.heap.size := (unhide X1).2.2.2.2.2
    clear hb1
    obtain ⟨⟨a0, a1, a2'⟩, ⟨i0, i1, i2, i3, i4, i5, i6⟩, ⟨y0, y1, y2⟩, f0, f2, -⟩ := unhide X1
    go_wp2_with (go_at_call 21; refine (l2Now_any _ _).mono ?_; rintro e w2 ⟨rfl, rfl⟩)
    refine bodyPost_ret (v := .tuple #[.agg #[.int .i64 0, .int .i64 0, .slice none 0 0], .string ⟨#[]⟩, .int .i64 0, .bool false]) (by simp [results, Tryz.results6, go_sem, y0, y1, y2]; done) rfl (unhide HNO _ ?_ (unhide H))
    repeat (refine Below.setCell ?_ (by first | (simp; done) | (simp; omega)) _)
    exact unhide hB1
  cases g3 : GoodCmd.gcB (Kind.kindN nm.toList) ks f x n dt q
  · have H : Hid (doR lim nx ([] : List Itm) now nm.toList ks f x n dt q = noDone) := by show doR lim nx ([] : List Itm) now nm.toList ks f x n dt q = _; simp [doR, g1, g2, g3]
    rw [g3] at hcm
    have HCM := hide hcm
    clear g1 hcm g3
    generalize doR lim nx ([] : List Itm) now nm.toList ks f x n dt q = T at H HNO ⊢
    go_enter Tryz.func6, Tryz.ntmps6
    go_wp2_with fail
    refine (unhide HG _ (bel3 w _ _ _)).mono ?_
    rintro e w1 ⟨rfl, hb1⟩
    simp only [World.size_alloc] at hb1
    have hB1 := hide ((bel3 w _ _ _).trans (hb1.mono (by omega)))
    have X1 := hide ((bw_new w lim nx (.slice none 0 cap) nm (.slice (some ⟨kb, ko, none⟩) ks.length kc) f x n dt q).below hb1 (by omega))
    have z1 : w.heap.size + 3 ≤ w1.heap.size := (unhide X1).2.2.2.2.2
    clear hb1
    obtain ⟨⟨a0, a1, a2'⟩, ⟨i0, i1, i2, i3, i4, i5, i6⟩, ⟨y0, y1, y2⟩, f0, f2, -⟩ := unhide X1
    go_wp2_with (go_at_call 21; refine (l2Now_any _ _).mono ?_; rintro e w2 ⟨rfl, rfl⟩)
    refine (unhide HCM _ (unhide hB1)).mono ?_
    rintro e w2 ⟨rfl, hb2⟩
    have hB2 := hide ((unhide hB1).trans (hb2.mono (by omega)))
    have X2 := hide ((unhide X1).below hb2 z1)
    have z2 : w.heap.size + 3 ≤ w2.heap.size := (unhide X2).2.2.2.2.2
    clear hb2 a0 a1 a2' i0 i1 i2 i3 i4 i5 i6 y0 y1 y2 f0 f2
    obtain ⟨⟨a0, a1, a2'⟩, ⟨i0, i1, i2, i3, i4, i5, i6⟩, ⟨y0, y1, y2⟩, f0, f2, -⟩ := unhide X2
    go_wp2
    refine bodyPost_ret (v := .tuple #[.agg #[.int .i64 0, .int .i64 0, .slice none 0 0], .string ⟨#[]⟩, .int .i64 0, .bool false]) (by simp [results, Tryz.results6, go_sem, y0, y1, y2]; done) rfl (unhide HNO _ ?_ (unhide H))
    repeat (refine Below.setCell ?_ (by first | (simp; done) | (simp; omega)) _)
    exact unhide hB2
  have H : Hid (doR lim nx ([] : List Itm) now nm.toList ks f x n dt q = yesDone lim q (ansO lim nx (keepB ([] : List Itm) now) now nm.toList ks f x n dt)) := by show doR lim nx ([] : List Itm) now nm.toList ks f x n dt q = _; simp only [doR, g1, g2, g3, if_true]
  have hnow := inB_iff g2
  obtain ⟨hlim, hnx, hl60, hits⟩ := unhide HOK
  obtain ⟨O, hO⟩ : ∃ O, ansO lim nx (keepB ([] : List Itm) now) now nm.toList ks f x n dt = O := ⟨_, rfl⟩
  have HDO := hide (fun g cg B' w' (hr' : Row w' B' (.slice (some ⟨g, 0, none⟩) 0 cg) ([] : List Itm)) (hb' : Below w.heap.size w w') => l2Answer_any lim nx g cg B' ([] : List Itm) now nm kb ko kc ks f x n dt q w' hr' hl60 hits hlim hnx (Nat.lt_of_lt_of_le hkb hb'.size) (fun i hi => (hb'.cell (p := ⟨kb, ko + i, none⟩) hkb).trans (unhide HKC i hi)) hnow g3 O hO)
  rw [hO] at H
  generalize doR lim nx ([] : List Itm) now nm.toList ks f x n dt q = T at H HNO ⊢
  rw [g3] at hcm
  have HCM := hide hcm
  have HLE : Hid (0 + 0 = 0) := Nat.zero_add _
  clear g1 hcm g3 HNO hits hO HOK hlim hnx HKC hnow
  obtain rfl : T = yesDone lim q O := unhide H
  obtain ⟨Oi, On, Ol, Oa⟩ := O
  unfold yesDone
  dsimp only at HDO ⊢
  clear H
  generalize (if q = true then (⟨#[]⟩ : ByteArray) else Oa) = A at HDO ⊢
  go_enter Tryz.func6, Tryz.ntmps6
  go_wp2_with fail
  refine (unhide HG _ (bel3 w _ _ _)).mono ?_
  rintro e w1 ⟨rfl, hb1⟩
  simp only [World.size_alloc] at hb1
  have hB1 := hide ((bel3 w _ _ _).trans (hb1.mono (by omega)))
  have X1 := hide ((bw_new w lim nx (.slice none 0 cap) nm (.slice (some ⟨kb, ko, none⟩) ks.length kc) f x n dt q).below hb1 (by omega))
  have z1 : w.heap.size + 3 ≤ w1.heap.size := (unhide X1).2.2.2.2.2
  clear hb1
  obtain ⟨⟨a0, a1, a2'⟩, ⟨i0, i1, i2, i3, i4, i5, i6⟩, ⟨y0, y1, y2⟩, f0, f2, -⟩ := unhide X1
  go_wp2_with (go_at_call 21; refine (l2Now_any _ _).mono ?_; rintro e w2 ⟨rfl, rfl⟩)
  refine (unhide HCM _ (unhide hB1)).mono ?_
  rintro e w2 ⟨rfl, hb2⟩
  have hB2 := hide ((unhide hB1).trans (hb2.mono (by omega)))
  have X2 := hide ((unhide X1).below hb2 z1)
  have z2 : w.heap.size + 3 ≤ w2.heap.size := (unhide X2).2.2.2.2.2
  clear hb2 a0 a1 a2' i0 i1 i2 i3 i4 i5 i6 y0 y1 y2 f0 f2
  obtain ⟨⟨a0, a1, a2'⟩, ⟨i0, i1, i2, i3, i4, i5, i6⟩, ⟨y0, y1, y2⟩, f0, f2, -⟩ := unhide X2
  have q0 : w.heap.size < w2.heap.size := by omega
  have X4 := hide (((unhide X2).put2 (.slice (some ⟨w2.heap.size, 0, none⟩) 0 0)).below (bel1 (w2.setCell ⟨w.heap.size, 2, none⟩ (.slice (some ⟨w2.heap.size, 0, none⟩) 0 0)) (.cells #[] 37)) (by rw [World.size_setCell]; exact z2))
  have hre := row_empty (w2.setCell ⟨w.heap.size, 2, none⟩ (.slice (some ⟨w2.heap.size, 0, none⟩) 0 0)) (Nat.le_refl _)
  rw [World.size_setCell] at hre
  have R4 := hide hre
  have B4 := hide (((unhide hB2).setCell (p := ⟨w.heap.size, 2, none⟩) (Nat.le_refl _) (.slice (some ⟨w2.heap.size, 0, none⟩) 0 0)).alloc (by rw [World.size_setCell]; omega) (.cells #[] 37))
  clear hre
  go_upto_region 4 with fail
  generalize (w2.setCell ⟨w.heap.size, 2, none⟩ (.slice (some ⟨w2.heap.size, 0, none⟩) 0 0)).alloc (.cells #[] 37) = w4 at X4 R4 B4 ⊢
  clear a0 a1 a2' i0 i1 i2 i3 i4 i5 i6 y0 y1 y2 f0 f2 X1 X2
  have z4 : w.heap.size + 3 ≤ w4.heap.size := (unhide X4).2.2.2.2.2
  obtain ⟨⟨a0, a1, a2'⟩, ⟨i0, i1, i2, i3, i4, i5, i6⟩, ⟨y0, y1, y2⟩, f0, f2, -⟩ := unhide X4
  go_wp2_with fail
  refine (unhide HDO _ _ _ _ (unhide R4) (unhide B4)).mono ?_
  rintro e w5 ⟨a5, c5, rfl, hr5, hb5⟩
  have X5 := hide ((unhide X4).below hb5 z4)
  have R5 : Hid (Row w5 (w.heap.size + 3) (.slice a5 Oi.length c5) Oi) := Row.le hr5 z4
  have B5 := hide ((unhide B4).trans (hb5.mono (by omega)))
  have z5 : w.heap.size + 3 ≤ w5.heap.size := (unhide X5).2.2.2.2.2
  have q1 : w.heap.size + 1 < w5.heap.size := by omega
  have q2 : w.heap.size + 1 + 1 < w5.heap.size := by omega
  clear hr5 hb5 a0 a1 a2' i0 i1 i2 i3 i4 i5 i6 y0 y1 y2 f0 f2
  dsimp only
  obtain ⟨⟨a0, a1, a2'⟩, ⟨i0, i1, i2, i3, i4, i5, i6⟩, ⟨y0, y1, y2⟩, f0, f2, -⟩ := unhide X5
  go_wp2
  have rr := fun o => (bel1 (((w5.setCell ⟨w.heap.size + 1 + 1, 0, none⟩ (.int .i64 lim)).setCell ⟨w.heap.size + 1 + 1, 1, none⟩ (.int .i64 On)).setCell ⟨w.heap.size + 1 + 1, 2, none⟩ (.slice a5 Oi.length c5)) (.cells #[.int .i64 lim, .int .i64 On, .slice a5 Oi.length c5] 25)).cell (p := ⟨w.heap.size + 1 + 1, o, none⟩) (by simp; omega)
  refine bodyPost_ret (v := .tuple #[.agg #[.int .i64 lim, .int .i64 On, .slice a5 Oi.length c5], .string A, .int .i64 (Ol : Int), .bool true]) (by simp [results, Tryz.results6, go_sem, rr, y0, y1, y2]; done) rfl ?_
  refine doRow_row (B := w.heap.size + 3) ?_ (by omega) ?_
  · repeat (first | (refine ownsRow_setCell_below ?_ (by first | (simp; done) | (simp; omega)) _) | (refine Row.below ?_ (bel1 _ _) (Nat.le_refl _)))
    exact unhide R5
  · repeat (first | (refine Below.setCell ?_ (by first | (simp; done) | (simp; omega)) _) | (refine Below.alloc ?_ (by first | omega | (simp; omega)) _))
    exact unhide B5

set_option maxRecDepth 10000 in
set_option maxHeartbeats 8000000 in
theorem doStore_nothing (lim nx : Int) (ad : Addr) (cap : Nat) (now : Int) (nm : ByteArray) (ka : Option Addr) (kc : Nat) (f x n : Int) (dt : ByteArray) (q : Bool) (w : World)
        (hK : Kind.kindN nm.toList = 7) (hd : dt.size ≤ maxLen) :
    Calls Tryz.prog 6 #[.agg #[.int .i64 lim, .int .i64 nx, .slice (some ad) 0 cap], .int .i64 now, .agg #[.string nm, .slice ka 0 kc, .int .i64 f, .int .i64 x, .int .i64 n, .string dt, .bool q]] w
      (DoRow (doR lim nx ([] : List Itm) now nm.toList [] f x n dt q) w) := by
  have hgood := fun w' (hb' : Below w.heap.size w w') => Store.spec_opt lim nx (some ad) cap [] w' (fun h => absurd rfl h) (by simp) (by simp) (by simp)
  have hcm := fun w' (hb' : Below w.heap.size w w') => GoodCmd.spec_k7_opt nm ka kc [] f x n dt q w' (fun h => absurd rfl h) (by simp) (by simp) hd (hide hK)
  rw [← hK] at hcm
  clear hd
  have hno : ∀ (w1 : World), Below w.heap.size w w1 → doR lim nx ([] : List Itm) now nm.toList [] f x n dt q = noDone → DoRow (doR lim nx ([] : List Itm) now nm.toList [] f x n dt q) w (.returned (.tuple #[.agg #[.int .i64 0, .int .i64 0, .slice none 0 0], .string ⟨#[]⟩, .int .i64 0, .bool false])) w1 := by
    intro w1 hb1 e
    rw [e]
    exact ⟨none, 0, rfl, World.ownsRow_nil _ _ _ _, hb1⟩
  have HNO := hide hno
  clear hno
  cases g1 : gsB lim nx ([] : List Itm)
  · have H : Hid (doR lim nx ([] : List Itm) now nm.toList [] f x n dt q = noDone) := by show doR lim nx ([] : List Itm) now nm.toList [] f x n dt q = _; simp [doR, g1]
    rw [g1] at hgood
    have HG := hide hgood
    clear hgood g1 hcm
    generalize doR lim nx ([] : List Itm) now nm.toList [] f x n dt q = T at H HNO ⊢
    go_enter Tryz.func6, Tryz.ntmps6
    go_wp2_with fail
    refine (unhide HG _ (bel3 w _ _ _)).mono ?_
    rintro e w1 ⟨rfl, hb1⟩
    simp only [World.size_alloc] at hb1
    have hB1 := hide ((bel3 w _ _ _).trans (hb1.mono (by omega)))
    have X1 := hide ((bw_new w lim nx (.slice (some ad) 0 cap) nm (.slice ka 0 kc) f x n dt q).below hb1 (by omega))
    have z1 : w.heap.size + 3 ≤ w1.heap.size := (unhide X1).2.2.2.2.2
    clear hb1
    obtain ⟨⟨a0, a1, a2'⟩, ⟨i0, i1, i2, i3, i4, i5, i6⟩, ⟨y0, y1, y2⟩, f0, f2, -⟩ := unhide X1
    go_wp2
    refine bodyPost_ret (v := .tuple #[.agg #[.int .i64 0, .int .i64 0, .slice none 0 0], .string ⟨#[]⟩, .int .i64 0, .bool false]) (by simp [results, Tryz.results6, go_sem, y0, y1, y2]; done) rfl (unhide HNO _ ?_ (unhide H))
    repeat (refine Below.setCell ?_ (by first | (simp; done) | (simp; omega)) _)
    exact unhide hB1
  have HOK := hide (store_ok g1)
  rw [g1] at hgood
  have HG := hide hgood
  clear hgood
  cases g2 : inB now 0 1000000000
  · have H : Hid (doR lim nx ([] : List Itm) now nm.toList [] f x n dt q = noDone) := by show doR lim nx ([] : List Itm) now nm.toList [] f x n dt q = _; simp [doR, g1, g2]
    clear g1 hcm
    generalize doR lim nx ([] : List Itm) now nm.toList [] f x n dt q = T at H HNO ⊢
    go_enter Tryz.func6, Tryz.ntmps6
    go_wp2_with fail
    refine (unhide HG _ (bel3 w _ _ _)).mono ?_
    rintro e w1 ⟨rfl, hb1⟩
    simp only [World.size_alloc] at hb1
    have hB1 := hide ((bel3 w _ _ _).trans (hb1.mono (by omega)))
    have X1 := hide ((bw_new w lim nx (.slice (some ad) 0 cap) nm (.slice ka 0 kc) f x n dt q).below hb1 (by omega))
    have z1 : w.heap.size + 3 ≤ w1.heap.size := (unhide X1).2.2.2.2.2
    clear hb1
    obtain ⟨⟨a0, a1, a2'⟩, ⟨i0, i1, i2, i3, i4, i5, i6⟩, ⟨y0, y1, y2⟩, f0, f2, -⟩ := unhide X1
    go_wp2_with (go_at_call 21; refine (l2Now_any _ _).mono ?_; rintro e w2 ⟨rfl, rfl⟩)
    refine bodyPost_ret (v := .tuple #[.agg #[.int .i64 0, .int .i64 0, .slice none 0 0], .string ⟨#[]⟩, .int .i64 0, .bool false]) (by simp [results, Tryz.results6, go_sem, y0, y1, y2]; done) rfl (unhide HNO _ ?_ (unhide H))
    repeat (refine Below.setCell ?_ (by first | (simp; done) | (simp; omega)) _)
    exact unhide hB1
  cases g3 : GoodCmd.gcB (Kind.kindN nm.toList) [] f x n dt q
  · have H : Hid (doR lim nx ([] : List Itm) now nm.toList [] f x n dt q = noDone) := by show doR lim nx ([] : List Itm) now nm.toList [] f x n dt q = _; simp [doR, g1, g2, g3]
    rw [g3] at hcm
    have HCM := hide hcm
    clear g1 hcm g3
    generalize doR lim nx ([] : List Itm) now nm.toList [] f x n dt q = T at H HNO ⊢
    go_enter Tryz.func6, Tryz.ntmps6
    go_wp2_with fail
    refine (unhide HG _ (bel3 w _ _ _)).mono ?_
    rintro e w1 ⟨rfl, hb1⟩
    simp only [World.size_alloc] at hb1
    have hB1 := hide ((bel3 w _ _ _).trans (hb1.mono (by omega)))
    have X1 := hide ((bw_new w lim nx (.slice (some ad) 0 cap) nm (.slice ka 0 kc) f x n dt q).below hb1 (by omega))
    have z1 : w.heap.size + 3 ≤ w1.heap.size := (unhide X1).2.2.2.2.2
    clear hb1
    obtain ⟨⟨a0, a1, a2'⟩, ⟨i0, i1, i2, i3, i4, i5, i6⟩, ⟨y0, y1, y2⟩, f0, f2, -⟩ := unhide X1
    go_wp2_with (go_at_call 21; refine (l2Now_any _ _).mono ?_; rintro e w2 ⟨rfl, rfl⟩)
    refine (unhide HCM _ (unhide hB1)).mono ?_
    rintro e w2 ⟨rfl, hb2⟩
    have hB2 := hide ((unhide hB1).trans (hb2.mono (by omega)))
    have X2 := hide ((unhide X1).below hb2 z1)
    have z2 : w.heap.size + 3 ≤ w2.heap.size := (unhide X2).2.2.2.2.2
    clear hb2 a0 a1 a2' i0 i1 i2 i3 i4 i5 i6 y0 y1 y2 f0 f2
    obtain ⟨⟨a0, a1, a2'⟩, ⟨i0, i1, i2, i3, i4, i5, i6⟩, ⟨y0, y1, y2⟩, f0, f2, -⟩ := unhide X2
    go_wp2
    refine bodyPost_ret (v := .tuple #[.agg #[.int .i64 0, .int .i64 0, .slice none 0 0], .string ⟨#[]⟩, .int .i64 0, .bool false]) (by simp [results, Tryz.results6, go_sem, y0, y1, y2]; done) rfl (unhide HNO _ ?_ (unhide H))
    repeat (refine Below.setCell ?_ (by first | (simp; done) | (simp; omega)) _)
    exact unhide hB2
  have H : Hid (doR lim nx ([] : List Itm) now nm.toList [] f x n dt q = yesDone lim q (ansO lim nx (keepB ([] : List Itm) now) now nm.toList [] f x n dt)) := by show doR lim nx ([] : List Itm) now nm.toList [] f x n dt q = _; simp only [doR, g1, g2, g3, if_true]
  have hnow := inB_iff g2
  obtain ⟨hlim, hnx, hl60, hits⟩ := unhide HOK
  obtain ⟨O, hO⟩ : ∃ O, ansO lim nx (keepB ([] : List Itm) now) now nm.toList [] f x n dt = O := ⟨_, rfl⟩
  have HDO := hide (fun g cg B' w' (hr' : Row w' B' (.slice (some ⟨g, 0, none⟩) 0 cg) ([] : List Itm)) (hb' : Below w.heap.size w w') => l2Answer_nil lim nx g cg B' ([] : List Itm) now nm ka kc f x n dt q w' hr' hl60 hits hlim hnx hK O hO)
  rw [hO] at H
  generalize doR lim nx ([] : List Itm) now nm.toList [] f x n dt q = T at H HNO ⊢
  rw [g3] at hcm
  have HCM := hide hcm
  have HLE : Hid (0 + 0 = 0) := Nat.zero_add _
  clear g1 hcm g3 HNO hits hO HOK hlim hnx hnow
  obtain rfl : T = yesDone lim q O := unhide H
  obtain ⟨Oi, On, Ol, Oa⟩ := O
  unfold yesDone
  dsimp only at HDO ⊢
  clear H
  generalize (if q = true then (⟨#[]⟩ : ByteArray) else Oa) = A at HDO ⊢
  go_enter Tryz.func6, Tryz.ntmps6
  go_wp2_with fail
  refine (unhide HG _ (bel3 w _ _ _)).mono ?_
  rintro e w1 ⟨rfl, hb1⟩
  simp only [World.size_alloc] at hb1
  have hB1 := hide ((bel3 w _ _ _).trans (hb1.mono (by omega)))
  have X1 := hide ((bw_new w lim nx (.slice (some ad) 0 cap) nm (.slice ka 0 kc) f x n dt q).below hb1 (by omega))
  have z1 : w.heap.size + 3 ≤ w1.heap.size := (unhide X1).2.2.2.2.2
  clear hb1
  obtain ⟨⟨a0, a1, a2'⟩, ⟨i0, i1, i2, i3, i4, i5, i6⟩, ⟨y0, y1, y2⟩, f0, f2, -⟩ := unhide X1
  go_wp2_with (go_at_call 21; refine (l2Now_any _ _).mono ?_; rintro e w2 ⟨rfl, rfl⟩)
  refine (unhide HCM _ (unhide hB1)).mono ?_
  rintro e w2 ⟨rfl, hb2⟩
  have hB2 := hide ((unhide hB1).trans (hb2.mono (by omega)))
  have X2 := hide ((unhide X1).below hb2 z1)
  have z2 : w.heap.size + 3 ≤ w2.heap.size := (unhide X2).2.2.2.2.2
  clear hb2 a0 a1 a2' i0 i1 i2 i3 i4 i5 i6 y0 y1 y2 f0 f2
  obtain ⟨⟨a0, a1, a2'⟩, ⟨i0, i1, i2, i3, i4, i5, i6⟩, ⟨y0, y1, y2⟩, f0, f2, -⟩ := unhide X2
  have q0 : w.heap.size < w2.heap.size := by omega
  go_wp2_with (at_builtin; refine list_items _ rfl (.tmp 27) (.tmp 29) rfl w2.heap.size w2.heap.size 0 0 [] rfl (row_empty w2 (Nat.le_refl _)) rfl ad 0 cap [] rfl rfl (fun j u hj => by simp [flat] at hj) 0 rfl (by omega) (by simp) ?_)
  intro g3 cap3 w3 hrow3 hg3
  have HB3 := hide (((Below.refl w2.heap.size w2).alloc (Nat.le_refl _) _).grown hg3 (by simp) (fun k e => by simp at e; omega))
  have X3 := hide ((unhide X2).below (unhide HB3) z2)
  have z3 : w2.heap.size ≤ w3.heap.size := (unhide HB3).size
  have R3 := hide hrow3
  have B3 := hide ((unhide hB2).trans ((unhide HB3).mono (by omega)))
  clear hrow3 hg3 a0 a1 a2' i0 i1 i2 i3 i4 i5 i6 y0 y1 y2 f0 f2 X1 X2 HB3
  have X4 := hide ((unhide X3).put2 (.slice (some ⟨g3, 0, none⟩) 0 cap3))
  have R4 : Hid (Row (w3.setCell ⟨w.heap.size, 2, none⟩ (.slice (some ⟨g3, 0, none⟩) 0 cap3)) w2.heap.size (.slice (some ⟨g3, 0, none⟩) 0 cap3) ([] : List Itm)) := ownsRow_setCell_below (unhide R3) (a := ⟨w.heap.size, 2, none⟩) (show w.heap.size < w2.heap.size by omega) _
  have B4 := hide ((unhide B3).setCell (p := ⟨w.heap.size, 2, none⟩) (Nat.le_refl _) (.slice (some ⟨g3, 0, none⟩) 0 cap3))
  obtain ⟨⟨a0, a1, a2'⟩, ⟨i0, i1, i2, i3, i4, i5, i6⟩, ⟨y0, y1, y2⟩, f0, f2, -⟩ := unhide X3
  go_upto_region 4 with fail
  generalize w3.setCell ⟨w.heap.size, 2, none⟩ (.slice (some ⟨g3, 0, none⟩) 0 cap3) = w4 at X4 R4 B4 ⊢
  clear a0 a1 a2' i0 i1 i2 i3 i4 i5 i6 y0 y1 y2 f0 f2 X3 R3 B3
  have z4 : w.heap.size + 3 ≤ w4.heap.size := (unhide X4).2.2.2.2.2
  obtain ⟨⟨a0, a1, a2'⟩, ⟨i0, i1, i2, i3, i4, i5, i6⟩, ⟨y0, y1, y2⟩, f0, f2, -⟩ := unhide X4
  go_wp2_with fail
  refine (unhide HDO _ _ _ _ (unhide R4) (unhide B4)).mono ?_
  rintro e w5 ⟨a5, c5, rfl, hr5, hb5⟩
  have X5 := hide ((unhide X4).below hb5 z4)
  have R5 : Hid (Row w5 (w.heap.size + 3) (.slice a5 Oi.length c5) Oi) := Row.le hr5 z4
  have B5 := hide ((unhide B4).trans (hb5.mono (by omega)))
  have z5 : w.heap.size + 3 ≤ w5.heap.size := (unhide X5).2.2.2.2.2
  have q1 : w.heap.size + 1 < w5.heap.size := by omega
  have q2 : w.heap.size + 1 + 1 < w5.heap.size := by omega
  clear hr5 hb5 a0 a1 a2' i0 i1 i2 i3 i4 i5 i6 y0 y1 y2 f0 f2
  dsimp only
  obtain ⟨⟨a0, a1, a2'⟩, ⟨i0, i1, i2, i3, i4, i5, i6⟩, ⟨y0, y1, y2⟩, f0, f2, -⟩ := unhide X5
  go_wp2
  have rr := fun o => (bel1 (((w5.setCell ⟨w.heap.size + 1 + 1, 0, none⟩ (.int .i64 lim)).setCell ⟨w.heap.size + 1 + 1, 1, none⟩ (.int .i64 On)).setCell ⟨w.heap.size + 1 + 1, 2, none⟩ (.slice a5 Oi.length c5)) (.cells #[.int .i64 lim, .int .i64 On, .slice a5 Oi.length c5] 25)).cell (p := ⟨w.heap.size + 1 + 1, o, none⟩) (by simp; omega)
  refine bodyPost_ret (v := .tuple #[.agg #[.int .i64 lim, .int .i64 On, .slice a5 Oi.length c5], .string A, .int .i64 (Ol : Int), .bool true]) (by simp [results, Tryz.results6, go_sem, rr, y0, y1, y2]; done) rfl ?_
  refine doRow_row (B := w.heap.size + 3) ?_ (by omega) ?_
  · repeat (first | (refine ownsRow_setCell_below ?_ (by first | (simp; done) | (simp; omega)) _) | (refine Row.below ?_ (bel1 _ _) (Nat.le_refl _)))
    exact unhide R5
  · repeat (first | (refine Below.setCell ?_ (by first | (simp; done) | (simp; omega)) _) | (refine Below.alloc ?_ (by first | omega | (simp; omega)) _))
    exact unhide B5

set_option maxRecDepth 10000 in
set_option maxHeartbeats 8000000 in
theorem doStore_nilnothing (lim nx : Int) (cap : Nat) (now : Int) (nm : ByteArray) (ka : Option Addr) (kc : Nat) (f x n : Int) (dt : ByteArray) (q : Bool) (w : World)
        (hK : Kind.kindN nm.toList = 7) (hd : dt.size ≤ maxLen) :
    Calls Tryz.prog 6 #[.agg #[.int .i64 lim, .int .i64 nx, .slice none 0 cap], .int .i64 now, .agg #[.string nm, .slice ka 0 kc, .int .i64 f, .int .i64 x, .int .i64 n, .string dt, .bool q]] w
      (DoRow (doR lim nx ([] : List Itm) now nm.toList [] f x n dt q) w) := by
  have hgood := fun w' (hb' : Below w.heap.size w w') => Store.spec_opt lim nx none cap [] w' (fun h => absurd rfl h) (by simp) (by simp) (by simp)
  have hcm := fun w' (hb' : Below w.heap.size w w') => GoodCmd.spec_k7_opt nm ka kc [] f x n dt q w' (fun h => absurd rfl h) (by simp) (by simp) hd (hide hK)
  rw [← hK] at hcm
  clear hd
  have hno : ∀ (w1 : World), Below w.heap.size w w1 → doR lim nx ([] : List Itm) now nm.toList [] f x n dt q = noDone → DoRow (doR lim nx ([] : List Itm) now nm.toList [] f x n dt q) w (.returned (.tuple #[.agg #[.int .i64 0, .int .i64 0, .slice none 0 0], .string ⟨#[]⟩, .int .i64 0, .bool false])) w1 := by
    intro w1 hb1 e
    rw [e]
    exact ⟨none, 0, rfl, World.ownsRow_nil _ _ _ _, hb1⟩
  have HNO := hide hno
  clear hno
  cases g1 : gsB lim nx ([] : List Itm)
  · have H : Hid (doR lim nx ([] : List Itm) now nm.toList [] f x n dt q = noDone) := by show doR lim nx ([] : List Itm) now nm.toList [] f x n dt q = _; simp [doR, g1]
    rw [g1] at hgood
    have HG := hide hgood
    clear hgood g1 hcm
    generalize doR lim nx ([] : List Itm) now nm.toList [] f x n dt q = T at H HNO ⊢
    go_enter Tryz.func6, Tryz.ntmps6
    go_wp2_with fail
    refine (unhide HG _ (bel3 w _ _ _)).mono ?_
    rintro e w1 ⟨rfl, hb1⟩
    simp only [World.size_alloc] at hb1
    have hB1 := hide ((bel3 w _ _ _).trans (hb1.mono (by omega)))
    have X1 := hide ((bw_new w lim nx (.slice none 0 cap) nm (.slice ka 0 kc) f x n dt q).below hb1 (by omega))
    have z1 : w.heap.size + 3 ≤ w1.heap.size := (unhide X1).2.2.2.2.2
    clear hb1
    obtain ⟨⟨a0, a1, a2'⟩, ⟨i0, i1, i2, i3, i4, i5, i6⟩, ⟨y0, y1, y2⟩, f0, f2, -⟩ := unhide X1
    go_wp2
    refine bodyPost_ret (v := .tuple #[.agg #[.int .i64 0, .int .i64 0, .slice none 0 0], .string ⟨#[]⟩, .int .i64 0, .bool false]) (by simp [results, Tryz.results6, go_sem, y0, y1, y2]; done) rfl (unhide HNO _ ?_ (unhide H))
    repeat (refine Below.setCell ?_ (by first | (simp; done) | (simp; omega)) _)
    exact unhide hB1
  have HOK := hide (store_ok g1)
  rw [g1] at hgood
  have HG := hide hgood
  clear hgood
  cases g2 : inB now 0 1000000000
  · have H : Hid (doR lim nx ([] : List Itm) now nm.toList [] f x n dt q = noDone) := by show doR lim nx ([] : List Itm) now nm.toList [] f x n dt q = _; simp [doR, g1, g2]
    clear g1 hcm
    generalize doR lim nx ([] : List Itm) now nm.toList [] f x n dt q = T at H HNO ⊢
    go_enter Tryz.func6, Tryz.ntmps6
    go_wp2_with fail
    refine (unhide HG _ (bel3 w _ _ _)).mono ?_
    rintro e w1 ⟨rfl, hb1⟩
    simp only [World.size_alloc] at hb1
    have hB1 := hide ((bel3 w _ _ _).trans (hb1.mono (by omega)))
    have X1 := hide ((bw_new w lim nx (.slice none 0 cap) nm (.slice ka 0 kc) f x n dt q).below hb1 (by omega))
    have z1 : w.heap.size + 3 ≤ w1.heap.size := (unhide X1).2.2.2.2.2
    clear hb1
    obtain ⟨⟨a0, a1, a2'⟩, ⟨i0, i1, i2, i3, i4, i5, i6⟩, ⟨y0, y1, y2⟩, f0, f2, -⟩ := unhide X1
    go_wp2_with (go_at_call 21; refine (l2Now_any _ _).mono ?_; rintro e w2 ⟨rfl, rfl⟩)
    refine bodyPost_ret (v := .tuple #[.agg #[.int .i64 0, .int .i64 0, .slice none 0 0], .string ⟨#[]⟩, .int .i64 0, .bool false]) (by simp [results, Tryz.results6, go_sem, y0, y1, y2]; done) rfl (unhide HNO _ ?_ (unhide H))
    repeat (refine Below.setCell ?_ (by first | (simp; done) | (simp; omega)) _)
    exact unhide hB1
  cases g3 : GoodCmd.gcB (Kind.kindN nm.toList) [] f x n dt q
  · have H : Hid (doR lim nx ([] : List Itm) now nm.toList [] f x n dt q = noDone) := by show doR lim nx ([] : List Itm) now nm.toList [] f x n dt q = _; simp [doR, g1, g2, g3]
    rw [g3] at hcm
    have HCM := hide hcm
    clear g1 hcm g3
    generalize doR lim nx ([] : List Itm) now nm.toList [] f x n dt q = T at H HNO ⊢
    go_enter Tryz.func6, Tryz.ntmps6
    go_wp2_with fail
    refine (unhide HG _ (bel3 w _ _ _)).mono ?_
    rintro e w1 ⟨rfl, hb1⟩
    simp only [World.size_alloc] at hb1
    have hB1 := hide ((bel3 w _ _ _).trans (hb1.mono (by omega)))
    have X1 := hide ((bw_new w lim nx (.slice none 0 cap) nm (.slice ka 0 kc) f x n dt q).below hb1 (by omega))
    have z1 : w.heap.size + 3 ≤ w1.heap.size := (unhide X1).2.2.2.2.2
    clear hb1
    obtain ⟨⟨a0, a1, a2'⟩, ⟨i0, i1, i2, i3, i4, i5, i6⟩, ⟨y0, y1, y2⟩, f0, f2, -⟩ := unhide X1
    go_wp2_with (go_at_call 21; refine (l2Now_any _ _).mono ?_; rintro e w2 ⟨rfl, rfl⟩)
    refine (unhide HCM _ (unhide hB1)).mono ?_
    rintro e w2 ⟨rfl, hb2⟩
    have hB2 := hide ((unhide hB1).trans (hb2.mono (by omega)))
    have X2 := hide ((unhide X1).below hb2 z1)
    have z2 : w.heap.size + 3 ≤ w2.heap.size := (unhide X2).2.2.2.2.2
    clear hb2 a0 a1 a2' i0 i1 i2 i3 i4 i5 i6 y0 y1 y2 f0 f2
    obtain ⟨⟨a0, a1, a2'⟩, ⟨i0, i1, i2, i3, i4, i5, i6⟩, ⟨y0, y1, y2⟩, f0, f2, -⟩ := unhide X2
    go_wp2
    refine bodyPost_ret (v := .tuple #[.agg #[.int .i64 0, .int .i64 0, .slice none 0 0], .string ⟨#[]⟩, .int .i64 0, .bool false]) (by simp [results, Tryz.results6, go_sem, y0, y1, y2]; done) rfl (unhide HNO _ ?_ (unhide H))
    repeat (refine Below.setCell ?_ (by first | (simp; done) | (simp; omega)) _)
    exact unhide hB2
  have H : Hid (doR lim nx ([] : List Itm) now nm.toList [] f x n dt q = yesDone lim q (ansO lim nx (keepB ([] : List Itm) now) now nm.toList [] f x n dt)) := by show doR lim nx ([] : List Itm) now nm.toList [] f x n dt q = _; simp only [doR, g1, g2, g3, if_true]
  have hnow := inB_iff g2
  obtain ⟨hlim, hnx, hl60, hits⟩ := unhide HOK
  obtain ⟨O, hO⟩ : ∃ O, ansO lim nx (keepB ([] : List Itm) now) now nm.toList [] f x n dt = O := ⟨_, rfl⟩
  have HDO := hide (fun g cg B' w' (hr' : Row w' B' (.slice (some ⟨g, 0, none⟩) 0 cg) ([] : List Itm)) (hb' : Below w.heap.size w w') => l2Answer_nil lim nx g cg B' ([] : List Itm) now nm ka kc f x n dt q w' hr' hl60 hits hlim hnx hK O hO)
  rw [hO] at H
  generalize doR lim nx ([] : List Itm) now nm.toList [] f x n dt q = T at H HNO ⊢
  rw [g3] at hcm
  have HCM := hide hcm
  have HLE : Hid (0 + 0 = 0) := Nat.zero_add _
  clear g1 hcm g3 HNO hits hO HOK hlim hnx hnow
  obtain rfl : T = yesDone lim q O := unhide H
  obtain ⟨Oi, On, Ol, Oa⟩ := O
  unfold yesDone
  dsimp only at HDO ⊢
  clear H
  generalize (if q = true then (⟨#[]⟩ : ByteArray) else Oa) = A at HDO ⊢
  go_enter Tryz.func6, Tryz.ntmps6
  go_wp2_with fail
  refine (unhide HG _ (bel3 w _ _ _)).mono ?_
  rintro e w1 ⟨rfl, hb1⟩
  simp only [World.size_alloc] at hb1
  have hB1 := hide ((bel3 w _ _ _).trans (hb1.mono (by omega)))
  have X1 := hide ((bw_new w lim nx (.slice none 0 cap) nm (.slice ka 0 kc) f x n dt q).below hb1 (by omega))
  have z1 : w.heap.size + 3 ≤ w1.heap.size := (unhide X1).2.2.2.2.2
  clear hb1
  obtain ⟨⟨a0, a1, a2'⟩, ⟨i0, i1, i2, i3, i4, i5, i6⟩, ⟨y0, y1, y2⟩, f0, f2, -⟩ := unhide X1
  go_wp2_with (go_at_call 21; refine (l2Now_any _ _).mono ?_; rintro e w2 ⟨rfl, rfl⟩)
  refine (unhide HCM _ (unhide hB1)).mono ?_
  rintro e w2 ⟨rfl, hb2⟩
  have hB2 := hide ((unhide hB1).trans (hb2.mono (by omega)))
  have X2 := hide ((unhide X1).below hb2 z1)
  have z2 : w.heap.size + 3 ≤ w2.heap.size := (unhide X2).2.2.2.2.2
  clear hb2 a0 a1 a2' i0 i1 i2 i3 i4 i5 i6 y0 y1 y2 f0 f2
  obtain ⟨⟨a0, a1, a2'⟩, ⟨i0, i1, i2, i3, i4, i5, i6⟩, ⟨y0, y1, y2⟩, f0, f2, -⟩ := unhide X2
  have q0 : w.heap.size < w2.heap.size := by omega
  have X4 := hide (((unhide X2).put2 (.slice (some ⟨w2.heap.size, 0, none⟩) 0 0)).below (bel1 (w2.setCell ⟨w.heap.size, 2, none⟩ (.slice (some ⟨w2.heap.size, 0, none⟩) 0 0)) (.cells #[] 37)) (by rw [World.size_setCell]; exact z2))
  have hre := row_empty (w2.setCell ⟨w.heap.size, 2, none⟩ (.slice (some ⟨w2.heap.size, 0, none⟩) 0 0)) (Nat.le_refl _)
  rw [World.size_setCell] at hre
  have R4 := hide hre
  have B4 := hide (((unhide hB2).setCell (p := ⟨w.heap.size, 2, none⟩) (Nat.le_refl _) (.slice (some ⟨w2.heap.size, 0, none⟩) 0 0)).alloc (by rw [World.size_setCell]; omega) (.cells #[] 37))
  clear hre
  go_upto_region 4 with fail
  generalize (w2.setCell ⟨w.heap.size, 2, none⟩ (.slice (some ⟨w2.heap.size, 0, none⟩) 0 0)).alloc (.cells #[] 37) = w4 at X4 R4 B4 ⊢
  clear a0 a1 a2' i0 i1 i2 i3 i4 i5 i6 y0 y1 y2 f0 f2 X1 X2
  have z4 : w.heap.size + 3 ≤ w4.heap.size := (unhide X4).2.2.2.2.2
  obtain ⟨⟨a0, a1, a2'⟩, ⟨i0, i1, i2, i3, i4, i5, i6⟩, ⟨y0, y1, y2⟩, f0, f2, -⟩ := unhide X4
  go_wp2_with fail
  refine (unhide HDO _ _ _ _ (unhide R4) (unhide B4)).mono ?_
  rintro e w5 ⟨a5, c5, rfl, hr5, hb5⟩
  have X5 := hide ((unhide X4).below hb5 z4)
  have R5 : Hid (Row w5 (w.heap.size + 3) (.slice a5 Oi.length c5) Oi) := Row.le hr5 z4
  have B5 := hide ((unhide B4).trans (hb5.mono (by omega)))
  have z5 : w.heap.size + 3 ≤ w5.heap.size := (unhide X5).2.2.2.2.2
  have q1 : w.heap.size + 1 < w5.heap.size := by omega
  have q2 : w.heap.size + 1 + 1 < w5.heap.size := by omega
  clear hr5 hb5 a0 a1 a2' i0 i1 i2 i3 i4 i5 i6 y0 y1 y2 f0 f2
  dsimp only
  obtain ⟨⟨a0, a1, a2'⟩, ⟨i0, i1, i2, i3, i4, i5, i6⟩, ⟨y0, y1, y2⟩, f0, f2, -⟩ := unhide X5
  go_wp2
  have rr := fun o => (bel1 (((w5.setCell ⟨w.heap.size + 1 + 1, 0, none⟩ (.int .i64 lim)).setCell ⟨w.heap.size + 1 + 1, 1, none⟩ (.int .i64 On)).setCell ⟨w.heap.size + 1 + 1, 2, none⟩ (.slice a5 Oi.length c5)) (.cells #[.int .i64 lim, .int .i64 On, .slice a5 Oi.length c5] 25)).cell (p := ⟨w.heap.size + 1 + 1, o, none⟩) (by simp; omega)
  refine bodyPost_ret (v := .tuple #[.agg #[.int .i64 lim, .int .i64 On, .slice a5 Oi.length c5], .string A, .int .i64 (Ol : Int), .bool true]) (by simp [results, Tryz.results6, go_sem, rr, y0, y1, y2]; done) rfl ?_
  refine doRow_row (B := w.heap.size + 3) ?_ (by omega) ?_
  · repeat (first | (refine ownsRow_setCell_below ?_ (by first | (simp; done) | (simp; omega)) _) | (refine Row.below ?_ (bel1 _ _) (Nat.le_refl _)))
    exact unhide R5
  · repeat (first | (refine Below.setCell ?_ (by first | (simp; done) | (simp; omega)) _) | (refine Below.alloc ?_ (by first | omega | (simp; omega)) _))
    exact unhide B5

/-- DoStore, over items and keys that may be nil; no keys only where the command wants none. -/
theorem doStore_any (lim nx : Int) (ia : Option Addr) (cap : Nat) (its : List Itm) (now : Int) (nm : ByteArray) (ka : Option Addr) (kc : Nat) (ks : List ByteArray) (f x n : Int) (dt : ByteArray) (q : Bool) (w : World)
    (hc : ItemsAt w ia its) (hl : its.length ≤ 1048576) (hcap : its.length ≤ cap) (hs : ∀ x ∈ its, Fits x) (hkc : StrsAt w ka ks) (hkl : ks.length ≤ maxLen) (hks : ∀ s ∈ ks, s.size ≤ maxLen) (hK : ks = [] → Kind.kindN nm.toList = 7) (hd : dt.size ≤ maxLen) :
    Calls Tryz.prog 6 #[.agg #[.int .i64 lim, .int .i64 nx, .slice ia its.length cap], .int .i64 now, .agg #[.string nm, .slice ka ks.length kc, .int .i64 f, .int .i64 x, .int .i64 n, .string dt, .bool q]] w
      (DoRow (doR lim nx its now nm.toList ks f x n dt q) w) := by
  by_cases hi : its = []
  · subst hi
    by_cases hne : ks = []
    · subst hne
      cases ia with
      | some ad => exact doStore_nothing lim nx ad cap now nm ka kc f x n dt q w (hK rfl) hd
      | none => exact doStore_nilnothing lim nx cap now nm ka kc f x n dt q w (hK rfl) hd
    · obtain ⟨kb, ko, rfl, hkb, hkc'⟩ := hkc hne
      cases ia with
      | some ad => exact doStore_noitems lim nx ad cap now nm kb ko kc ks f x n dt q w hkb hkc' hkl hks hd
      | none => exact doStore_nilitems lim nx cap now nm kb ko kc ks f x n dt q w hkb hkc' hkl hks hd
  · obtain ⟨b, off, rfl, hb, hc'⟩ := hc hi
    by_cases hne : ks = []
    · subst hne
      exact doStore_nokeys lim nx b off cap its now nm ka kc f x n dt q w hb hc' hl hcap hs (hK rfl) hd
    · obtain ⟨kb, ko, rfl, hkb, hkc'⟩ := hkc hne
      exact doStore_full lim nx b off cap its now nm kb ko kc ks f x n dt q w hb hc' hl hcap hs hkb hkc' hkl hks hd
end Rw
end Go.Proofs.YtkdcofmpbmiloaaGreatDoor
/-
  What the model draws as a store (written by a program of mine).
-/
namespace Go.Proofs.YtkdcofmpbmiloaaGreatDoor
namespace Cur
open Go.RowKit Base OwnR Marks Items Store GoodKey
set_option linter.unusedVariables false

abbrev zS : Obj := .cells #[.int .i64 0, .int .i64 0, .slice none 0 0] 25
/-- A store that is being drawn. -/
structure Ts (w0 wb w : World) (c R X : Nat) (a : Option Addr) (n cap k : Nat) (lim nx : Int) (iv : Value) (its : List Itm) : Prop where
  box : w.heap[X]? = some (.cells #[.int .i64 lim, .int .i64 nx, iv] 25 (0, 0))
  res : w.heap[R]? = some zS
  own : w.ownsRow (X + 1) 37 5 iv its.length (Own.flat its)
  ln : its.length ≤ 70
  sz : ∀ y ∈ its, y.key.size ≤ 100 ∧ y.data.size ≤ 101
  cu : Cu w0 w c a n cap k
  gb : wb.grownBy w (some c)
  ne : c < R
  rx : R < X
  wR : wb.heap.size ≤ R
section
variable {w0 wb w : World} {c R X : Nat} {a : Option Addr} {n cap k : Nat} {lim nx : Int} {iv : Value} {its : List Itm}
theorem Ts.cells (h : Ts w0 wb w c R X a n cap k lim nx iv its) : w.cell? ⟨X, 0, none⟩ = some (.int .i64 lim) ∧ w.cell? ⟨X, 1, none⟩ = some (.int .i64 nx) ∧ w.cell? ⟨X, 2, none⟩ = some iv ∧ (∀ o, w.frozen? ⟨X, o, none⟩ = false) ∧ X < w.heap.size := by
  refine ⟨?_, ?_, ?_, fun o => Lib.frozen_of_heap h.box o, lt_of_heap h.box⟩ <;> (rw [Lib.cell_of_heap h.box]; rfl)
theorem Ts.rcells (h : Ts w0 wb w c R X a n cap k lim nx iv its) : w.cell? ⟨R, 0, none⟩ = some (.int .i64 0) ∧ w.cell? ⟨R, 1, none⟩ = some (.int .i64 0) ∧ w.cell? ⟨R, 2, none⟩ = some (.slice none 0 0) ∧ (∀ o, w.frozen? ⟨R, o, none⟩ = false) ∧ R < w.heap.size := by
  refine ⟨?_, ?_, ?_, fun o => Lib.frozen_of_heap h.res o, lt_of_heap h.res⟩ <;> (rw [Lib.cell_of_heap h.res]; rfl)
theorem Ts.call {w' : World} {k' : Nat} (h : Ts w0 wb w c R X a n cap k lim nx iv its) (hcu : Cu w0 w' c a n cap k') (hg : w.grownBy w' (some c)) : Ts w0 wb w' c R X a n cap k' lim nx iv its := by
  have h1 := h.ne
  have h2 := h.rx
  exact ⟨(hg.block X (lt_of_heap h.box) (fun e => by simp at e; omega)).trans h.box, (hg.block R (lt_of_heap h.res) (fun e => by simp at e; omega)).trans h.res, StrN.own_gb h.own hg (by omega), h.ln, h.sz, hcu, gb_trans h.gb hg, h.ne, h.rx, h.wR⟩
theorem Ts.alloc (h : Ts w0 wb w c R X a n cap k lim nx iv its) (o : Obj) : Ts w0 wb (w.alloc o) c R X a n cap k lim nx iv its := h.call (h.cu.alloc o) (gb_below (bel1 w o) (Nat.le_refl _))
theorem Cu.bel' {w' : World} (h : Cu w0 w c a n cap k) (hb : Below w.heap.size w w') : Cu w0 w' c a n cap k := by
  have e := hb.block c h.lt
  obtain ⟨q, sd, c0, c1, c2, hq⟩ := h.cells
  exact ⟨⟨q, sd, (World.cell?_of_block (a := ⟨c, 0, none⟩) e).trans c0, (World.cell?_of_block (a := ⟨c, 1, none⟩) e).trans c1, (World.cell?_of_block (a := ⟨c, 2, none⟩) e).trans c2, hq⟩, fun o' => (World.frozen?_of_block (a := ⟨c, o', none⟩) e).trans (h.fz o'), Nat.lt_of_lt_of_le h.lt hb.size, h.lo, h.bel.trans (hb.mono h.bel.size)⟩
theorem Ts.below {w' : World} (h : Ts w0 wb w c R X a n cap k lim nx iv its) (hb : Below w.heap.size w w') : Ts w0 wb w' c R X a n cap k lim nx iv its := h.call (h.cu.bel' hb) (gb_below hb (Nat.le_refl _))
theorem Ts.drew (h : Ts w0 wb w c R X a n cap k lim nx iv its) : Ts w0 wb w.drew c R X a n cap k lim nx iv its := ⟨h.box, h.res, h.own, h.ln, h.sz, ⟨h.cu.cells, h.cu.fz, h.cu.lt, h.cu.lo, h.cu.bel.drew⟩, gb_drew h.gb, h.ne, h.rx, h.wR⟩
theorem Ts.le {k' : Nat} (h : Ts w0 wb w c R X a n cap k lim nx iv its) (hk : k ≤ k') : Ts w0 wb w c R X a n cap k' lim nx iv its := ⟨h.box, h.res, h.own, h.ln, h.sz, h.cu.le hk, h.gb, h.ne, h.rx, h.wR⟩
theorem Ts.put0 (h : Ts w0 wb w c R X a n cap k lim nx iv its) (v : Int) : Ts w0 wb (w.setCell ⟨X, 0, none⟩ (.int .i64 v)) c R X a n cap k v nx iv its := by
  have h1 := h.ne
  have h2 := h.rx
  have h3 := h.wR
  have h4 := h.cu.lo
  refine ⟨?_, (Below.heap_setCell _ _ _ _ (show R ≠ X by omega)).trans h.res, ownsRow_setCell_below h.own (show X < X + 1 by omega) _, h.ln, h.sz, h.cu.setX (by omega) (by omega) _ _, gb_far h.gb (by omega) _ _, h.ne, h.rx, h.wR⟩
  have := h.box
  simp [World.setCell, Array.getElem?_modify, this]
theorem Ts.put1 (h : Ts w0 wb w c R X a n cap k lim nx iv its) (v : Int) : Ts w0 wb (w.setCell ⟨X, 1, none⟩ (.int .i64 v)) c R X a n cap k lim v iv its := by
  have h1 := h.ne
  have h2 := h.rx
  have h3 := h.wR
  have h4 := h.cu.lo
  refine ⟨?_, (Below.heap_setCell _ _ _ _ (show R ≠ X by omega)).trans h.res, ownsRow_setCell_below h.own (show X < X + 1 by omega) _, h.ln, h.sz, h.cu.setX (by omega) (by omega) _ _, gb_far h.gb (by omega) _ _, h.ne, h.rx, h.wR⟩
  have := h.box
  simp [World.setCell, Array.getElem?_modify, this]
/-- Other items, in a row of their own. -/
theorem Ts.put2 {w' : World} {r : Option Nat} {iv' : Value} {its' : List Itm} (h : Ts w0 wb w c R X a n cap k lim nx iv its) (hg : w.grownBy w' r) (hr : ∀ g, r = some g → X < g) (hcu : Cu w0 w' c a n cap k) (ho : w'.ownsRow (X + 1) 37 5 iv' its'.length (Own.flat its')) (hl : its'.length ≤ 70) (hs : ∀ y ∈ its', y.key.size ≤ 100 ∧ y.data.size ≤ 101) : Ts w0 wb (w'.setCell ⟨X, 2, none⟩ iv') c R X a n cap k lim nx iv' its' := by
  have h1 := h.ne
  have h2 := h.rx
  have h3 := h.wR
  have h4 := h.cu.lo
  have hb : w'.heap[X]? = _ := (hg.block X (lt_of_heap h.box) (fun e => by have := hr X e.symm; omega)).trans h.box
  have hR : w'.heap[R]? = _ := (hg.block R (lt_of_heap h.res) (fun e => by have := hr R e.symm; omega)).trans h.res
  refine ⟨?_, (Below.heap_setCell _ _ _ _ (show R ≠ X by omega)).trans hR, ownsRow_setCell_below ho (show X < X + 1 by omega) _, hl, hs, hcu.setX (by omega) (by omega) _ _, gb_far (StrN.gb_own h.gb hg (fun g e => by have := hr g e; omega)) (by omega) _ _, h.ne, h.rx, h.wR⟩
  simp [World.setCell, Array.getElem?_modify, hb]
/-- Another store. -/
theorem Ts.put (h : Ts w0 wb w c R X a n cap k lim nx iv its) {iv' : Value} {its' : List Itm} (l' n' : Int) (ho : w.ownsRow (X + 1) 37 5 iv' its'.length (Own.flat its')) (hl : its'.length ≤ 70) (hs : ∀ y ∈ its', y.key.size ≤ 100 ∧ y.data.size ≤ 101) : Ts w0 wb (((w.setCell ⟨X, 0, none⟩ (.int .i64 l')).setCell ⟨X, 1, none⟩ (.int .i64 n')).setCell ⟨X, 2, none⟩ iv') c R X a n cap k l' n' iv' its' := by
  have h0 := (h.put0 l').put1 n'
  refine h0.put2 (gb_refl _ none) (fun g e => by simp at e) h0.cu ?_ hl hs
  exact ownsRow_setCell_below (ownsRow_setCell_below ho (show X < X + 1 by omega) _) (show X < X + 1 by omega) _
theorem Ts.app {bq : Option Addr} {cq g cp : Nat} {w' : World} {sk : ByteArray} {r8 : Int} (h : Ts w0 wb w c R X a n cap k lim nx (.slice bq its.length cq) its) (hs : sk.size ≤ 31) (hl : its.length ≤ 60) (ho : w'.ownsRow (X + 1) 37 5 (.slice (some ⟨g, 0, none⟩) (its.length + 1) cp) (its.length + 1) (Own.flat its ++ Own.flat [⟨sk, 0, ⟨#[]⟩, 0, r8⟩])) (hg : (w.alloc (.cells #[.string sk, .int .i64 0, .string ⟨#[]⟩, .int .i64 0, .int .i64 r8] 37)).grownBy w' (Value.slice bq its.length cq).ownBlock) :
    Ts w0 wb (w'.setCell ⟨X, 2, none⟩ (.slice (some ⟨g, 0, none⟩) (its.length + 1) cp)) c R X a n cap k lim nx (.slice (some ⟨g, 0, none⟩) (its.length + 1) cp) (its ++ [⟨sk, 0, ⟨#[]⟩, 0, r8⟩]) ∧ w'.cell? ⟨X, 2, none⟩ = some (.slice bq its.length cq) ∧ ∀ o, w'.frozen? ⟨X, o, none⟩ = false := by
  have hA := h.alloc (.cells #[.string sk, .int .i64 0, .string ⟨#[]⟩, .int .i64 0, .int .i64 r8] 37)
  have h1 := h.ne
  have h2 := h.rx
  have hb : ∀ g, (Value.slice bq its.length cq).ownBlock = some g → X < g := fun g e => by have := own_block h.own g e; omega
  rw [← Own.flat_append] at ho
  have ho' : w'.ownsRow (X + 1) 37 5 (.slice (some ⟨g, 0, none⟩) (its.length + 1) cp) (its ++ ([⟨sk, 0, ⟨#[]⟩, 0, r8⟩] : List Itm)).length (Own.flat (its ++ [⟨sk, 0, ⟨#[]⟩, 0, r8⟩])) := by rw [List.length_append]; exact ho
  have e9 := (hg.block X (lt_of_heap hA.box) (fun e => by have := hb X e.symm; omega)).trans hA.box
  refine ⟨hA.put2 hg hb (hA.cu.gbN hg (fun g e => by have := hb g e; omega)) ho' (by rw [List.length_append, List.length_singleton]; omega) (fun y hy => ?_), by rw [Lib.cell_of_heap e9]; rfl, fun o => Lib.frozen_of_heap e9 o⟩
  rcases List.mem_append.1 hy with hy | hy
  · exact h.sz y hy
  · rw [List.mem_singleton] at hy
    subst hy
    refine ⟨?_, ?_⟩
    · show sk.size ≤ 100
      omega
    · show (⟨#[]⟩ : ByteArray).size ≤ 101
      decide
end
/-- What is drawn. -/
def StoreDrawn (w0 w : World) (c : Nat) (a : Option Addr) (n cap k : Nat) (e : Ending) (w' : World) : Prop :=
  ∃ (lim nx : Int) (iv : Value) (its : List Itm) (nw : Int), e = .returned (.tuple #[.agg #[.int .i64 lim, .int .i64 nx, iv], .int .i64 nw]) ∧ w'.ownsRow w.heap.size 37 5 iv its.length (Own.flat its) ∧ its.length ≤ 70 ∧ (∀ y ∈ its, y.key.size ≤ 100 ∧ y.data.size ≤ 101) ∧ (0 ≤ nw ∧ nw ≤ 100) ∧ Cu w0 w' c a n cap (k + 1000) ∧ w.grownBy w' (some c)
theorem Ts.out {w0 w w' : World} {c R X : Nat} {a : Option Addr} {n cap k k0 : Nat} {lim nx : Int} {iv : Value} {its : List Itm} {nw : Int} (h : Ts w0 w w' c R X a n cap k lim nx iv its) (hk : k ≤ k0 + 1000) (hn : 0 ≤ nw ∧ nw ≤ 100) (v0 v1 v2 : Value) :
    StoreDrawn w0 w c a n cap k0 (.returned (.tuple #[.agg #[.int .i64 lim, .int .i64 nx, iv], .int .i64 nw])) (((w'.setCell ⟨R, 0, none⟩ v0).setCell ⟨R, 1, none⟩ v1).setCell ⟨R, 2, none⟩ v2) := by
  have h1 := h.ne
  have h2 := h.rx
  have h3 := h.wR
  have h4 := h.cu.lo
  refine ⟨lim, nx, iv, its, nw, rfl, ?_, h.ln, h.sz, hn, ?_, ?_⟩
  · refine own_le (base := X + 1) ?_ (by omega)
    repeat (refine ownsRow_setCell_below ?_ (show R < X + 1 by omega) _)
    exact h.own
  · refine Cu.le ?_ hk
    repeat (refine Cu.setX ?_ (by omega) (by omega) _ _)
    exact h.cu
  · repeat (refine gb_far ?_ (by omega) _ _)
    exact h.gb
theorem gcmd_any (nm : ByteArray) (ka : Option Addr) (kc : Nat) (ks : List ByteArray) (f x m : Int) (dt : ByteArray) (q : Bool) (w : World) (hk : StrsAt w ka ks) (hl : ks.length ≤ maxLen) (hs : ∀ s ∈ ks, s.size ≤ maxLen) (hd : dt.size ≤ maxLen) (hK : ks = [] → Kind.kindN nm.toList = 7) :
    Calls Tryz.prog 22 #[.agg #[.string nm, .slice ka ks.length kc, .int .i64 f, .int .i64 x, .int .i64 m, .string dt, .bool q]] w fun e w' => e = .returned (.bool (GoodCmd.gcB (Kind.kindN nm.toList) ks f x m dt q)) ∧ Below w.heap.size w w' := by
  by_cases hne : ks = []
  · subst hne
    rw [hK rfl]
    exact GoodCmd.spec_k7_opt nm ka kc [] f x m dt q w hk hl hs hd (hide (hK rfl))
  · obtain ⟨b, off, rfl, hb, hc⟩ := hk hne
    exact GoodCmd.spec_any nm b off kc ks f x m dt q w hb hc hl hs hd
theorem gs_sz {lim nx : Int} {its : List Itm} (h : gsB lim nx its = true) : its.length ≤ 70 ∧ ∀ y ∈ its, y.key.size ≤ 100 ∧ y.data.size ≤ 101 := by
  obtain ⟨_, _, h3, h4⟩ := _root_.Go.Proofs.YtkdcofmpbmiloaaGreatDoor.Shelf.store_ok h
  exact ⟨by omega, fun y hy => by have h5 := (h4 y hy).1; have h6 := (h4 y hy).2.1; omega⟩
theorem own_cap {w : World} {B : Nat} {e : TypeId} {sz : Nat} {b : Option Addr} {n m c : Nat} {xs : List Value} (h : w.ownsRow B e sz (.slice b n c) m xs) : m ≤ c := by
  rcases h.2 with ⟨hv, h0⟩ | ⟨g, cap', cur, hv, hg, hh, hn, _⟩
  · omega
  · simp only [Value.slice.injEq] at hv
    omega
theorem cells3i (w : World) (t : TypeId) (i : Nat) (h : i < 3) : (w.alloc (.cells #[.int .i64 (-1), .int .i64 0, .int .i64 10001] t)).cell? ⟨w.heap.size, i, none⟩ = some (.int .i64 (([-1, 0, 10001] : List Int).getD i 0)) := by
  rw [World.cell?_alloc_new]
  obtain rfl | rfl | rfl : i = 0 ∨ i = 1 ∨ i = 2 := by omega
  all_goals rfl
theorem cells4i (w : World) (t : TypeId) (i : Nat) (h : i < 4) : (w.alloc (.cells #[.int .i64 0, .int .i64 1, .int .i64 1000000000, .int .i64 1000000001] t)).cell? ⟨w.heap.size, i, none⟩ = some (.int .i64 (([0, 1, 1000000000, 1000000001] : List Int).getD i 0)) := by
  rw [World.cell?_alloc_new]
  obtain rfl | rfl | rfl | rfl : i = 0 ∨ i = 1 ∨ i = 2 ∨ i = 3 := by omega
  all_goals rfl
theorem newsI (w : World) (s : ByteArray) (r : Int) (t : TypeId) (j : Nat) (u : Value) (hj : (Own.flat [⟨s, 0, ⟨#[]⟩, 0, r⟩])[j]? = some u) : (w.alloc (.cells #[.string s, .int .i64 0, .string ⟨#[]⟩, .int .i64 0, .int .i64 r] t)).cell? ((⟨w.heap.size, 0, none⟩ : Addr).add j) = some u := by
  rw [Go.WideShapes.add_plain, Nat.zero_add, World.cell?_alloc_new]
  simpa [Own.flat, Own.cellsOf] using hj
theorem newsI_one (s : ByteArray) (r : Int) (u : Value) (hu : u ∈ Own.flat [⟨s, 0, ⟨#[]⟩, 0, r⟩]) : u.oneCell' = true := by
  simp [Own.flat, Own.cellsOf] at hu
  rcases hu with rfl | rfl | rfl | rfl | rfl <;> rfl

set_option maxRecDepth 10000 in
set_option maxHeartbeats 8000000 in
theorem store_any (w0 w : World) (c : Nat) (a : Option Addr) (n cap k : Nat) (z : Nat → Int) (hz : BAt w0 a n z) (hn : n ≤ 1048576) (hk : k ≤ 1000) (h : Cu w0 w c a n cap k) :
    Calls Tryz.prog 10 #[.pointer (some ⟨c, 0, none⟩)] w (StoreDrawn w0 w c a n cap k) := by
  have HO := hide (fun (m : Nat) (hm : 1 ≤ m ∧ m ≤ 200) k (hk : k ≤ 9000) w' h => one_any w0 w' c a n cap k m z hz hn (by omega) h hm)
  have HP := hide (fun (m : Nat) (hm : 1 ≤ m ∧ m ≤ 200) k (hk : k ≤ 9000) w' h => pick_any w0 w' c a n cap k m z hz hn (by omega) h hm)
  have HKY := hide (fun k (hk : k ≤ 9000) w' h => key_any w0 w' c a n cap k z hz hn (by omega) h)
  have HCM := hide (fun k (hk : k ≤ 9000) w' h => cmd_any w0 w' c a n cap k z hz hn (by omega) h)
  have HA3 := hide (fun k (hk : k ≤ 9000) w' lb h h1 h2 hc => among_any w0 w' c a n cap k lb 3 [-1, 0, 10001] z hz hn (by omega) h (by decide) h1 h2 hc)
  have HA4 := hide (fun k (hk : k ≤ 9000) w' lb h h1 h2 hc => among_any w0 w' c a n cap k lb 4 [0, 1, 1000000000, 1000000001] z hz hn (by omega) h (by decide) h1 h2 hc)
  obtain ⟨i0, hi, hz0, hz1, hz2⟩ := Store.info_ex
  have HI := hide hi
  have HZ0 := hide hz0
  have HZ1 := hide hz1
  have HZ2 := hide hz2
  have hcw := h.lt
  have hz2 : ((w.alloc zS).alloc (.cells #[.int .i64 10000, .int .i64 1, .slice none 0 0] 25)).heap.size = w.heap.size + 2 := by simp
  have S1 : Hid (Ts w0 w ((w.alloc zS).alloc (.cells #[.int .i64 10000, .int .i64 1, .slice none 0 0] 25)) c w.heap.size (w.heap.size + 1) a n cap k 10000 1 (.slice none 0 0) []) := by
    have e := heap_alloc_new (w.alloc zS) (.cells #[.int .i64 10000, .int .i64 1, .slice none 0 0] 25)
    rw [World.size_alloc] at e
    exact ⟨e, ((bel1 (w.alloc zS) _).block w.heap.size (by simp)).trans (heap_alloc_new w zS), World.ownsRow_nil _ _ _ _, by simp, by simp, (h.alloc _).alloc _, gb_below (bel2 w _ _) (Nat.le_refl _), hcw, by omega, Nat.le_refl _⟩
  clear hz hi hz0 hz1 h hz2
  go_enter Tryz.func10, Tryz.ntmps10
  go_upto_region 2 with fail
  generalize (w.alloc zS).alloc (.cells #[.int .i64 10000, .int .i64 1, .slice none 0 0] 25) = wX at S1 ⊢
  generalize hXe : w.heap.size + 1 = X at S1 ⊢
  have hXw : w.heap.size < X := by omega
  clear hXe
  generalize hRe : w.heap.size = R at S1 hXw ⊢
  have hRw : w.heap.size ≤ R := by omega
  clear hRe
  go_wp2_with fail
  refine (unhide HO 3 (by omega) k (by omega) _ (unhide S1).cu).mono ?_
  rintro e w2 ⟨b, rfl, hcu, hg⟩
  have S2 := hide ((unhide S1).call hcu hg)
  clear hcu hg S1
  obtain ⟨x0, x1, x2, xf, xl⟩ := (unhide S2).cells
  go_upto_if 10 with fail
  go_cut [] (fun wx => ∃ lim, Hid (Ts w0 w wx c R X a n cap (k + 2) lim 1 (.slice none 0 0) []) ∧ Hid (0 ≤ lim ∧ lim ≤ 10000))
  case first =>
    cases b
    · go_wp2_with fail
      go_meet
      exact ⟨10000, hide ((unhide S2).le (by omega)), hide (by omega)⟩
    · go_wp2_with fail
      refine (unhide HP 150 (by omega) (k + 1) (by omega) _ (unhide S2).cu).mono ?_
      rintro e w3 ⟨r, rfl, hr, hcu, hg⟩
      have S3 := hide ((unhide S2).call hcu hg)
      clear hcu hg x0 x1 x2 xf xl
      obtain ⟨x0, x1, x2, xf, xl⟩ := (unhide S3).cells
      have hw : (20 : Int) + r ≤ 10000 := by omega
      go_wp2_with fail
      go_meet
      exact ⟨_, hide ((unhide S3).put0 _), hide (by omega)⟩
  case rest =>
  obtain ⟨lim0, hS, hl0⟩ := hcut
  obtain ⟨w4, hname⟩ : ∃ v, v = wc := ⟨_, rfl⟩
  rw [← hname] at hS ⊢
  clear hname wc S2 x0 x1 x2 xf xl
  have S4 := hS
  clear hS
  have G4 : Hid (gsB lim0 1 [] = true) := (Stk.gs_iff _ _ _).2 ⟨unhide hl0, by omega, by simp, ⟨by simp, by simp, by simp⟩, by have := unhide hl0; simp [total]; omega⟩
  clear hl0
  go_wp2_with fail
  refine (unhide HP 12 (by omega) (k + 2) (by omega) _ (unhide S4).cu).mono ?_
  rintro e w5 ⟨r5, rfl, hr5, hcu, hg⟩
  have S5 := hide ((unhide S4).call hcu hg)
  clear hcu hg S4
  go_wp2
  go_loopw [5, 6] (fun tv jv wr => ∃ (j tn : Nat) (lim nx : Int) (iv : Value) (its : List Itm), j ≤ r5 ∧ tn + 2 * j ≤ 2 * r5 ∧ tv = .int .i64 (tn : Int) ∧ jv = .int .i64 (j : Int) ∧ Hid (Ts w0 w wr c R X a n cap (k + 3 + 50 * (r5 - j)) lim nx iv its) ∧ Hid (gsB lim nx its = true)) (fun _ jv _ => (intOf jv).toNat)
  case atStart => exact ⟨r5, 0, lim0, 1, _, [], Nat.le_refl _, by omega, rfl, rfl, hide ((unhide S5).le (by omega)), G4⟩
  case round =>
    clear S5 G4
    obtain ⟨j, tn, lim, nx, iv, its, hj, htn, rfl, rfl, SR, GR⟩ := hrel
    by_cases hjp : 0 < j
    · obtain ⟨j', rfl⟩ : ∃ j', j = j' + 1 := ⟨j - 1, by omega⟩
      have hjp' : (0 : Int) < ((j' + 1 : Nat) : Int) := by omega
      go_wp2_with fail
      refine (unhide HCM (k + 3 + 50 * (r5 - (j' + 1))) (by omega) _ (unhide SR).cu).mono ?_
      rintro e w6 ⟨nm, kv, ks, f, x, m, dt, q, rfl, hown, hsk, hlk, hdt, hK, hcu, hg⟩
      obtain ⟨ka, kc, hkv⟩ := own_form hown
      subst hkv
      have S6 := hide (((unhide SR).call hcu hg).alloc (.cells #[.string nm, .slice ka ks.length kc, .int .i64 f, .int .i64 x, .int .i64 m, .string dt, .bool q] 28))
      have KA := hide ((StrN.own_strs hown).1.below (bel1 w6 (.cells #[.string nm, .slice ka ks.length kc, .int .i64 f, .int .i64 x, .int .i64 m, .string dt, .bool q] 28)) (Nat.le_refl _))
      have YB := hide (heap_alloc_new w6 (.cells #[.string nm, .slice ka ks.length kc, .int .i64 f, .int .i64 x, .int .i64 m, .string dt, .bool q] 28))
      have hXY : X < w6.heap.size := lt_of_heap ((unhide SR).call hcu hg).box
      have hsk' : ∀ s ∈ ks, s.size ≤ maxLen := fun s hs => by have := hsk s hs; unfold maxLen; omega
      have HGC := hide (fun w' hk => gcmd_any nm ka kc ks f x m dt q w' hk (by unfold maxLen; omega) hsk' (by unfold maxLen; omega) hK)
      obtain ⟨ia, ic, hiv⟩ := own_form (unhide SR).own
      subst hiv
      have HDO := hide (fun w' hc hk => Rw.doStore_any lim nx ia ic its (tn : Int) nm ka kc ks f x m dt q w' hc (by have := (unhide SR).ln; omega) (own_cap (unhide SR).own) (fun y hy => by have := (unhide SR).sz y hy; unfold Fits maxLen; omega) hk (by unfold maxLen; omega) hsk' hK (by unfold maxLen; omega))
      clear hown hcu hg hsk hsk' hdt hK hlk SR
      go_upto_region 9 with fail
      generalize w6.alloc (.cells #[.string nm, .slice ka ks.length kc, .int .i64 f, .int .i64 x, .int .i64 m, .string dt, .bool q] 28) = w7 at S6 KA YB ⊢
      generalize w6.heap.size = Y at YB hXY ⊢
      have hY7 := lt_of_heap (unhide YB)
      have v0 : w7.cell? ⟨Y, 0, none⟩ = some (.string nm) := by rw [Lib.cell_of_heap (unhide YB)]; rfl
      have v1 : w7.cell? ⟨Y, 1, none⟩ = some (.slice ka ks.length kc) := by rw [Lib.cell_of_heap (unhide YB)]; rfl
      have v2 : w7.cell? ⟨Y, 2, none⟩ = some (.int .i64 f) := by rw [Lib.cell_of_heap (unhide YB)]; rfl
      have v3 : w7.cell? ⟨Y, 3, none⟩ = some (.int .i64 x) := by rw [Lib.cell_of_heap (unhide YB)]; rfl
      have v4 : w7.cell? ⟨Y, 4, none⟩ = some (.int .i64 m) := by rw [Lib.cell_of_heap (unhide YB)]; rfl
      have v5 : w7.cell? ⟨Y, 5, none⟩ = some (.string dt) := by rw [Lib.cell_of_heap (unhide YB)]; rfl
      have v6 : w7.cell? ⟨Y, 6, none⟩ = some (.bool q) := by rw [Lib.cell_of_heap (unhide YB)]; rfl
      go_wp2_with fail
      refine (unhide HGC _ (unhide KA)).mono ?_
      rintro e w8 ⟨rfl, hb8⟩
      have S8 := hide ((unhide S6).below hb8)
      have KB := hide ((unhide KA).below hb8 (Nat.le_refl _))
      have e8 := fun o => hb8.cell (p := ⟨Y, o, none⟩) hY7
      have u0 := (e8 0).trans v0
      have u1 := (e8 1).trans v1
      have u2 := (e8 2).trans v2
      have u3 := (e8 3).trans v3
      have u4 := (e8 4).trans v4
      have u5 := (e8 5).trans v5
      have u6 := (e8 6).trans v6
      have hY8 : Y < w8.heap.size := Nat.lt_of_lt_of_le hY7 hb8.size
      clear hb8 e8 v0 v1 v2 v3 v4 v5 v6 S6 KA YB HGC hY7
      obtain ⟨x0, x1, x2, xf, xl⟩ := (unhide S8).cells
      have HEND : Hid (∀ wz lim' nx' iv' its' (r : Nat), r < 3 → Ts w0 w wz c R X a n cap (k + 3 + 50 * (r5 - (j' + 1)) + 41) lim' nx' iv' its' → gsB lim' nx' its' = true → ∃ (j tn' : Nat) (lim nx : Int) (iv : Value) (its : List Itm), j ≤ r5 ∧ tn' + 2 * j ≤ 2 * r5 ∧ (Value.int .i64 ((tn : Int) + r)) = .int .i64 (tn' : Int) ∧ (Value.int .i64 (j' : Int)) = .int .i64 (j : Int) ∧ Hid (Ts w0 w wz c R X a n cap (k + 3 + 50 * (r5 - j)) lim nx iv its) ∧ Hid (gsB lim nx its = true)) := fun wz lim' nx' iv' its' r hr hT hG => ⟨j', tn + r, lim', nx', iv', its', by omega, by omega, by simp, rfl, hide (hT.le (by omega)), hide hG⟩
      cases hgc : GoodCmd.gcB (Kind.kindN nm.toList) ks f x m dt q
      · clear hgc HDO
        go_wp2_with fail
        refine (unhide HP 3 (by omega) _ (by omega) _ (unhide S8).cu).mono ?_
        rintro e w9 ⟨r9, rfl, hr9, hcu, hg⟩
        have S9 := hide ((unhide S8).call hcu hg)
        clear hcu hg S8 x0 x1 x2 xf xl u0 u1 u2 u3 u4 u5 u6
        have HF := hide (unhide HEND _ _ _ _ _ r9 hr9 (unhide S9) (unhide GR))
        go_wp2
        go_roundw
        case rel => exact unhide HF
        case measure => simp [intOf]
      · by_cases hnf : nm.toList = [102, 108, 117, 115, 104, 95, 97, 108, 108]
        · have hnb : (nm.toList == [102, 108, 117, 115, 104, 95, 97, 108, 108]) = true := by simp [hnf]
          clear hnf
          clear hgc HDO
          go_wp2_with fail
          refine (unhide HP 3 (by omega) _ (by omega) _ (unhide S8).cu).mono ?_
          rintro e w9 ⟨r9, rfl, hr9, hcu, hg⟩
          have S9 := hide ((unhide S8).call hcu hg)
          clear hcu hg S8 x0 x1 x2 xf xl u0 u1 u2 u3 u4 u5 u6
          have HF := hide (unhide HEND _ _ _ _ _ r9 hr9 (unhide S9) (unhide GR))
          go_wp2
          go_roundw
          case rel => exact unhide HF
          case measure => simp [intOf]
        · have hnb : (nm.toList == [102, 108, 117, 115, 104, 95, 97, 108, 108]) = false := by simp [hnf]
          have hok : (_root_.Go.Proofs.YtkdcofmpbmiloaaGreatDoor.Shelf.doR lim nx its (tn : Int) nm.toList ks f x m dt q).ok = true := by
            unfold _root_.Go.Proofs.YtkdcofmpbmiloaaGreatDoor.Shelf.doR
            rw [if_pos (unhide GR), if_pos (by unfold inB; simp only [Bool.and_eq_true, decide_eq_true_eq]; omega), if_pos hgc]
            rfl
          have HG9 := hide (Stk.do_gs hok).1
          clear hgc hok
          generalize _root_.Go.Proofs.YtkdcofmpbmiloaaGreatDoor.Shelf.doR lim nx its (tn : Int) nm.toList ks f x m dt q = TT at HDO HG9
          go_wp2_with fail
          refine (unhide HDO _ (Own.own_at (unhide S8).own) (unhide KB)).mono ?_
          rintro e w9 ⟨a9, c9, rfl, hown9, hb9⟩
          have S9 := hide ((unhide S8).below hb9)
          have SP := hide ((unhide S9).put TT.lim TT.nx (own_le hown9 (by omega)) (gs_sz (unhide HG9)).1 (gs_sz (unhide HG9)).2)
          clear hown9 hb9 S8 x0 x1 x2 xf xl u0 u1 u2 u3 u4 u5 u6 HDO KB
          obtain ⟨x0, x1, x2, xf, xl⟩ := (unhide S9).cells
          go_upto_region 11 with fail
          generalize ((w9.setCell ⟨X, 0, none⟩ (.int .i64 TT.lim)).setCell ⟨X, 1, none⟩ (.int .i64 TT.nx)).setCell ⟨X, 2, none⟩ (.slice a9 TT.its.length c9) = w10 at SP ⊢
          clear S9 x0 x1 x2 xf xl
          go_wp2_with fail
          refine (unhide HP 3 (by omega) _ (by omega) _ (unhide SP).cu).mono ?_
          rintro e w11 ⟨r9, rfl, hr9, hcu, hg⟩
          have SQ := hide ((unhide SP).call hcu hg)
          clear hcu hg SP
          have HF := hide (unhide HEND _ _ _ _ _ r9 hr9 (unhide SQ) (unhide HG9))
          go_wp2
          go_roundw
          case rel => exact unhide HF
          case measure => simp [intOf]
    · obtain rfl : j = 0 := by omega
      obtain ⟨bq, cq, hvq⟩ := own_form (unhide SR).own
      subst hvq
      have htn2 : tn ≤ 22 := by omega
      have hl60 : its.length ≤ 60 := ((Stk.gs_iff _ _ _).1 (unhide GR)).2.2.1
      clear GR htn
      go_wp2_with fail
      refine (unhide HP 40 (by omega) (k + 3 + 50 * (r5 - 0)) (by omega) _ (unhide SR).cu).mono ?_
      rintro e w6 ⟨p, rfl, hp, hcu, hg⟩
      have S6 := hide ((unhide SR).call hcu hg)
      clear hcu hg SR
      obtain ⟨x0, x1, x2, xf, xl⟩ := (unhide S6).cells
      have hrx := (unhide S6).rx
      by_cases p0 : p = 0
      · subst p0
        go_wp2_with fail
        refine (unhide HA3 (k + 3 + 50 * (r5 - 0) + 1) (by omega) _ w6.heap.size ((unhide S6).cu.alloc _) (by simp) (by have := (unhide S6).ne; omega) (fun i hi => cells3i w6 _ i hi)).mono ?_
        rintro e w7 ⟨i, rfl, hi, hcu, hg⟩
        have S7 := hide (((unhide S6).alloc _).call hcu hg)
        clear hcu hg hi x0 x1 x2 xf xl
        generalize ([-1, 0, 10001] : List Int).getD i 0 = lv
        obtain ⟨x0, x1, x2, xf, xl⟩ := (unhide S7).cells
        have S8 := hide ((unhide S7).put0 lv)
        go_upto_region 19 with fail
        generalize w7.setCell ⟨X, 0, none⟩ (.int .i64 lv) = w8 at S8 ⊢
        clear x0 x1 x2 xf xl
        obtain ⟨x0, x1, x2, xf, xl⟩ := (unhide S8).cells
        obtain ⟨y0, y1, y2, yf, yl⟩ := (unhide S8).rcells
        go_wp2
        refine bodyPost_ret (v := .tuple #[.agg #[.int .i64 lv, .int .i64 nx, .slice bq its.length cq], .int .i64 (tn : Int)]) (by simp [results, Tryz.results10, go_sem, y0, y1, y2]) rfl ((unhide S8).out (by omega) (by omega) _ _ _)
      by_cases p1 : p = 1
      · subst p1
        go_wp2_with fail
        refine (unhide HA4 (k + 3 + 50 * (r5 - 0) + 1) (by omega) _ w6.heap.size ((unhide S6).cu.alloc _) (by simp) (by have := (unhide S6).ne; omega) (fun i hi => cells4i w6 _ i hi)).mono ?_
        rintro e w7 ⟨i, rfl, hi, hcu, hg⟩
        have S7 := hide (((unhide S6).alloc _).call hcu hg)
        clear hcu hg hi x0 x1 x2 xf xl
        generalize ([0, 1, 1000000000, 1000000001] : List Int).getD i 0 = lv
        obtain ⟨x0, x1, x2, xf, xl⟩ := (unhide S7).cells
        have S8 := hide ((unhide S7).put1 lv)
        go_upto_region 19 with fail
        generalize w7.setCell ⟨X, 1, none⟩ (.int .i64 lv) = w8 at S8 ⊢
        clear x0 x1 x2 xf xl
        obtain ⟨x0, x1, x2, xf, xl⟩ := (unhide S8).cells
        obtain ⟨y0, y1, y2, yf, yl⟩ := (unhide S8).rcells
        go_wp2
        refine bodyPost_ret (v := .tuple #[.agg #[.int .i64 lim, .int .i64 lv, .slice bq its.length cq], .int .i64 (tn : Int)]) (by simp [results, Tryz.results10, go_sem, y0, y1, y2]) rfl ((unhide S8).out (by omega) (by omega) _ _ _)
      by_cases p2 : p = 2
      · subst p2
        have SD := hide (unhide S6).drew
        have hln := (unhide S6).ln
        have HKX : Hid ((Value.slice bq its.length cq).ownBlock ≠ some X) := fun e => by have := own_block (unhide S6).own X e; omega
        go_upto_region 18 with fail
        go_region_law (first
          | (go_simp; refine (unhide HP 4 (by omega) (k + 3 + 50 * (r5 - 0) + 1 + 2) (by omega) _ (unhide S7).cu).mono ?_; rintro e w8 ⟨r8, rfl, hr8, hcu, hg⟩; have S8 := hide ((unhide S7).call hcu hg); have x28 := (unhide S8).cells.2.2.1; have hz8 := (unhide S8).cells.2.2.2.2; clear hcu hg)
          | (go_simp; refine (unhide HKY (k + 3 + 50 * (r5 - 0) + 1) (by omega) _ (unhide SD).cu).mono ?_; rintro e w7 ⟨sk, rfl, hsk, hcu, hg⟩; have S7 := hide ((unhide SD).call hcu hg); have x27 := (unhide S7).cells.2.2.1; clear hcu hg)
          | (refine step_append_lies _ (by rfl) _ _ _ (by rfl) (X + 1) 37 i0 _ 5 56 Tryz.underlying23 (unhide HI) (unhide HZ0) (unhide HZ1) (unhide HZ2) rfl (by decide) _ _ _ (by rfl) (((unhide S8).alloc _).own) ⟨w8.heap.size, 0, none⟩ 1 1 (Own.flat [⟨sk, 0, ⟨#[]⟩, 0, (r8 : Int)⟩]) (by rfl) rfl (newsI w8 sk (r8 : Int) _) (newsI_one sk (r8 : Int)) (by omega) (by unfold maxLen; omega) (by omega) (by rw [World.size_alloc]; omega) (w8.heap.size + 1) (by simp) ?_; intro g cp w9 hown9 hgrow hat hlt9; obtain ⟨hsz9, y2', yf'⟩ := Ts.app (unhide S8) hsk hl60 hown9 hgrow; have SZ := hide hsz9; clear hsz9 hown9 hgrow hat))
        all_goals
          go_upto_region 19 with fail
          generalize w9.setCell ⟨X, 2, none⟩ (.slice (some ⟨g, 0, none⟩) (its.length + 1) cp) = wz at SZ ⊢
          obtain ⟨x0, x1, x2, xf, xl⟩ := (unhide SZ).cells
          obtain ⟨y0, y1, y2, yf, yl⟩ := (unhide SZ).rcells
          go_wp2
          refine bodyPost_ret (v := .tuple #[.agg #[.int .i64 lim, .int .i64 nx, .slice (some ⟨g, 0, none⟩) (its.length + 1) cp], .int .i64 (tn : Int)]) (by simp [results, Tryz.results10, go_sem, y0, y1, y2]) rfl ((unhide SZ).out (by omega) (by omega) _ _ _)
      have q0 : ¬ (p : Int) = 0 := by omega
      have q1 : ¬ (p : Int) = 1 := by omega
      have q2 : ¬ (p : Int) = 2 := by omega
      have q0' : ((p : Int) == 0) = false := by simp; omega
      have q1' : ((p : Int) == 1) = false := by simp; omega
      have q2' : ((p : Int) == 2) = false := by simp; omega
      obtain ⟨y0, y1, y2, yf, yl⟩ := (unhide S6).rcells
      go_wp2
      refine bodyPost_ret (v := .tuple #[.agg #[.int .i64 lim, .int .i64 nx, .slice bq its.length cq], .int .i64 (tn : Int)]) (by simp [results, Tryz.results10, go_sem, y0, y1, y2]) rfl ((unhide S6).out (by omega) (by omega) _ _ _)
end Cur
end Go.Proofs.YtkdcofmpbmiloaaGreatDoor
/-
  What the model draws for DoStore: a store, a time and a command.
-/
namespace Go.Proofs.YtkdcofmpbmiloaaGreatDoor
namespace Cur
open Go.RowKit Base OwnR Marks Items Store GoodKey
set_option linter.unusedVariables false

/-- What is drawn. -/
def DoDrawn (w : World) (e : Ending) (w' : World) : Prop :=
  ∃ (lim nx : Int) (ia : Option Addr) (ic : Nat) (its : List Itm) (nw : Int) (nm : ByteArray) (ka : Option Addr) (kc : Nat) (ks : List ByteArray) (f x m : Int) (dt : ByteArray) (q : Bool), e = .returned (.tuple #[.agg #[.int .i64 lim, .int .i64 nx, .slice ia its.length ic], .int .i64 nw, .agg #[.string nm, .slice ka ks.length kc, .int .i64 f, .int .i64 x, .int .i64 m, .string dt, .bool q]]) ∧
    ItemsAt w' ia its ∧ its.length ≤ 70 ∧ its.length ≤ ic ∧ (∀ y ∈ its, y.key.size ≤ 100 ∧ y.data.size ≤ 101) ∧ StrsAt w' ka ks ∧ ks.length ≤ 10 ∧ (∀ s ∈ ks, s.size ≤ 100) ∧ dt.size ≤ 101 ∧ (ks = [] → Kind.kindN nm.toList = 7) ∧ (0 ≤ nw ∧ nw ≤ 200) ∧ Below w.heap.size w w'
/-- A row is no box of another kind. -/
theorem row_far {w : World} {Y base : Nat} {e t : TypeId} {size : Nat} {v : Value} {n : Nat} {xs : List Value} {cs : Array Value} (h : w.ownsRow base e size v n xs) (hc : w.heap[Y]? = some (.cells cs t (0, 0))) (he : e ≠ t) : v.ownBlock ≠ some Y := by
  rcases h.2 with ⟨rfl, _⟩ | ⟨g, cap, cur, rfl, hg, hh, _⟩
  · simp [Value.ownBlock]
  · intro e2
    have : g = Y := by simpa [Value.ownBlock] using e2
    subst this
    rw [hh] at hc
    simp at hc
    exact he hc.2
/-- The store and the command that are being drawn. -/
structure Dz (wA wb w : World) (c R1 R2 S C B : Nat) (a : Option Addr) (n cap k : Nat) (lim nx : Int) (ia : Option Addr) (ic : Nat) (its : List Itm) (nm : ByteArray) (ka : Option Addr) (kc : Nat) (ks : List ByteArray) (f x m : Int) (dt : ByteArray) (q : Bool) : Prop where
  sb : w.heap[S]? = some (.cells #[.int .i64 lim, .int .i64 nx, .slice ia its.length ic] 25 (0, 0))
  cb : w.heap[C]? = some (.cells #[.string nm, .slice ka ks.length kc, .int .i64 f, .int .i64 x, .int .i64 m, .string dt, .bool q] 28 (0, 0))
  r1 : w.heap[R1]? = some zS
  r2 : w.heap[R2]? = some zB
  io : w.ownsRow B 37 5 (.slice ia its.length ic) its.length (Own.flat its)
  ko : StrN.OwnT w B (.slice ka ks.length kc) ks
  il : its.length ≤ 70
  iz : ∀ y ∈ its, y.key.size ≤ 100 ∧ y.data.size ≤ 101
  kl : ks.length ≤ 10
  kz : ∀ s ∈ ks, s.size ≤ 100
  dz : dt.size ≤ 101
  k7 : ks = [] → Kind.kindN nm.toList = 7
  cu : Cu wA w c a n cap k
  bel : Below wb.heap.size wb w
  o1 : wb.heap.size ≤ R1
  o2 : R1 < R2
  o3 : R2 < c
  o4 : c < B
  o5 : B ≤ S
  o6 : S < C
section
variable {wA wb w : World} {c R1 R2 S C B : Nat} {a : Option Addr} {n cap k : Nat} {lim nx : Int} {ia : Option Addr} {ic : Nat} {its : List Itm} {nm : ByteArray} {ka : Option Addr} {kc : Nat} {ks : List ByteArray} {f x m : Int} {dt : ByteArray} {q : Bool}
theorem Dz.call {w' : World} {k' : Nat} (h : Dz wA wb w c R1 R2 S C B a n cap k lim nx ia ic its nm ka kc ks f x m dt q) (hcu : Cu wA w' c a n cap k') (hg : w.grownBy w' (some c)) : Dz wA wb w' c R1 R2 S C B a n cap k' lim nx ia ic its nm ka kc ks f x m dt q := by
  have h1 := h.o1
  have h2 := h.o2
  have h3 := h.o3
  have h4 := h.o4
  have h5 := h.o5
  have h6 := h.o6
  have go : ∀ Y o, Y ≠ c → w.heap[Y]? = some o → w'.heap[Y]? = some o := fun Y o hne hY => (hg.block Y (lt_of_heap hY) (fun e => by simp at e; omega)).trans hY
  exact ⟨go S _ (by omega) h.sb, go C _ (by omega) h.cb, go R1 _ (by omega) h.r1, go R2 _ (by omega) h.r2, StrN.own_gb h.io hg h4, StrN.own_gb h.ko hg h4, h.il, h.iz, h.kl, h.kz, h.dz, h.k7, hcu, below_gb h.bel hg h.bel.size (by omega), h.o1, h.o2, h.o3, h.o4, h.o5, h.o6⟩
theorem Dz.drew (h : Dz wA wb w c R1 R2 S C B a n cap k lim nx ia ic its nm ka kc ks f x m dt q) : Dz wA wb w.drew c R1 R2 S C B a n cap k lim nx ia ic its nm ka kc ks f x m dt q :=
  ⟨h.sb, h.cb, h.r1, h.r2, h.io, h.ko, h.il, h.iz, h.kl, h.kz, h.dz, h.k7, ⟨h.cu.cells, h.cu.fz, h.cu.lt, h.cu.lo, h.cu.bel.drew⟩, h.bel.drew, h.o1, h.o2, h.o3, h.o4, h.o5, h.o6⟩
theorem Dz.scells (h : Dz wA wb w c R1 R2 S C B a n cap k lim nx ia ic its nm ka kc ks f x m dt q) : w.cell? ⟨S, 0, none⟩ = some (.int .i64 lim) ∧ w.cell? ⟨S, 1, none⟩ = some (.int .i64 nx) ∧ w.cell? ⟨S, 2, none⟩ = some (.slice ia its.length ic) ∧ S < w.heap.size := by
  refine ⟨?_, ?_, ?_, lt_of_heap h.sb⟩ <;> (rw [Lib.cell_of_heap h.sb]; rfl)
theorem Dz.ccells (h : Dz wA wb w c R1 R2 S C B a n cap k lim nx ia ic its nm ka kc ks f x m dt q) : w.cell? ⟨C, 0, none⟩ = some (.string nm) ∧ w.cell? ⟨C, 1, none⟩ = some (.slice ka ks.length kc) ∧ w.cell? ⟨C, 2, none⟩ = some (.int .i64 f) ∧ w.cell? ⟨C, 3, none⟩ = some (.int .i64 x) ∧ w.cell? ⟨C, 4, none⟩ = some (.int .i64 m) ∧ w.cell? ⟨C, 5, none⟩ = some (.string dt) ∧ w.cell? ⟨C, 6, none⟩ = some (.bool q) ∧ (∀ o, w.frozen? ⟨C, o, none⟩ = false) ∧ C < w.heap.size := by
  refine ⟨?_, ?_, ?_, ?_, ?_, ?_, ?_, fun o => Lib.frozen_of_heap h.cb o, lt_of_heap h.cb⟩ <;> (rw [Lib.cell_of_heap h.cb]; rfl)
theorem Dz.r1cells (h : Dz wA wb w c R1 R2 S C B a n cap k lim nx ia ic its nm ka kc ks f x m dt q) : w.cell? ⟨R1, 0, none⟩ = some (.int .i64 0) ∧ w.cell? ⟨R1, 1, none⟩ = some (.int .i64 0) ∧ w.cell? ⟨R1, 2, none⟩ = some (.slice none 0 0) ∧ (∀ o, w.frozen? ⟨R1, o, none⟩ = false) ∧ R1 < w.heap.size := by
  refine ⟨?_, ?_, ?_, fun o => Lib.frozen_of_heap h.r1 o, lt_of_heap h.r1⟩ <;> (rw [Lib.cell_of_heap h.r1]; rfl)
theorem Dz.r2cells (h : Dz wA wb w c R1 R2 S C B a n cap k lim nx ia ic its nm ka kc ks f x m dt q) : w.cell? ⟨R2, 0, none⟩ = some (.string ⟨#[]⟩) ∧ w.cell? ⟨R2, 1, none⟩ = some (.slice none 0 0) ∧ w.cell? ⟨R2, 2, none⟩ = some (.int .i64 0) ∧ w.cell? ⟨R2, 3, none⟩ = some (.int .i64 0) ∧ w.cell? ⟨R2, 4, none⟩ = some (.int .i64 0) ∧ w.cell? ⟨R2, 5, none⟩ = some (.string ⟨#[]⟩) ∧ w.cell? ⟨R2, 6, none⟩ = some (.bool false) ∧ (∀ o, w.frozen? ⟨R2, o, none⟩ = false) ∧ R2 < w.heap.size := by
  refine ⟨?_, ?_, ?_, ?_, ?_, ?_, ?_, fun o => Lib.frozen_of_heap h.r2 o, lt_of_heap h.r2⟩ <;> (rw [Lib.cell_of_heap h.r2]; rfl)
/-- One key that stands in the store. -/
theorem Dz.one {s : ByteArray} (h : Dz wA wb w c R1 R2 S C B a n cap k lim nx ia ic its nm ka kc ks f x m dt q) (hs : s.size ≤ 100) : Dz wA wb ((w.setCell ⟨C, 1, none⟩ (.slice (some ⟨w.heap.size, 0, none⟩) 1 1)).alloc (.cells #[.string s] 9)) c R1 R2 S C B a n cap k lim nx ia ic its nm (some ⟨w.heap.size, 0, none⟩) 1 [s] f x m dt q := by
  have h1 := h.o1
  have h2 := h.o2
  have h3 := h.o3
  have h4 := h.o4
  have h5 := h.o5
  have h6 := h.o6
  have h7 := lt_of_heap h.cb
  have h8 := h.cu.lo
  have hz : (w.setCell ⟨C, 1, none⟩ (.slice (some ⟨w.heap.size, 0, none⟩) 1 1)).heap.size = w.heap.size := World.size_setCell _ _ _
  have ho := own_new (w.setCell ⟨C, 1, none⟩ (.slice (some ⟨w.heap.size, 0, none⟩) 1 1)) B s (by rw [hz]; omega)
  rw [hz] at ho
  have hb : (w.setCell ⟨C, 1, none⟩ (.slice (some ⟨w.heap.size, 0, none⟩) 1 1)).heap[C]? = some (.cells #[.string nm, .slice (some ⟨w.heap.size, 0, none⟩) 1 1, .int .i64 f, .int .i64 x, .int .i64 m, .string dt, .bool q] 28 (0, 0)) := by
    have := h.cb
    simp [World.setCell, Array.getElem?_modify, this]
  have hB := bel1 (w.setCell ⟨C, 1, none⟩ (.slice (some ⟨w.heap.size, 0, none⟩) 1 1)) (.cells #[.string s] 9)
  have go : ∀ Y o, Y ≠ C → w.heap[Y]? = some o → ((w.setCell ⟨C, 1, none⟩ (.slice (some ⟨w.heap.size, 0, none⟩) 1 1)).alloc (.cells #[.string s] 9)).heap[Y]? = some o := fun Y o hne hY => (hB.block Y (by rw [hz]; exact lt_of_heap hY)).trans ((Below.heap_setCell _ _ _ _ (show Y ≠ C from hne)).trans hY)
  exact ⟨go S _ (by omega) h.sb, (hB.block C (lt_of_heap hb)).trans hb, go R1 _ (by omega) h.r1, go R2 _ (by omega) h.r2, own_below (ownsRow_setCell_other h.io (a := ⟨C, 1, none⟩) (row_far h.io h.cb (by decide)) _) hB (Nat.le_refl _), ho, h.il, h.iz, by simp, fun y hy => by rw [List.mem_singleton.1 hy]; exact hs, h.dz, fun e => by simp at e, (h.cu.setX (by omega) (by omega) _ _).alloc _, (h.bel.setCell (p := ⟨C, 1, none⟩) (by show wb.heap.size ≤ C; omega) _).alloc (by rw [hz]; exact h.bel.size) _, h.o1, h.o2, h.o3, h.o4, h.o5, h.o6⟩
theorem Dz.num (h : Dz wA wb w c R1 R2 S C B a n cap k lim nx ia ic its nm ka kc ks f x m dt q) (m' : Int) : Dz wA wb (w.setCell ⟨C, 4, none⟩ (.int .i64 m')) c R1 R2 S C B a n cap k lim nx ia ic its nm ka kc ks f x m' dt q := by
  have h1 := h.o1
  have h2 := h.o2
  have h3 := h.o3
  have h4 := h.o4
  have h5 := h.o5
  have h6 := h.o6
  have h8 := h.cu.lo
  have hb : (w.setCell ⟨C, 4, none⟩ (.int .i64 m')).heap[C]? = some (.cells #[.string nm, .slice ka ks.length kc, .int .i64 f, .int .i64 x, .int .i64 m', .string dt, .bool q] 28 (0, 0)) := by
    have := h.cb
    simp [World.setCell, Array.getElem?_modify, this]
  have go : ∀ Y o, Y ≠ C → w.heap[Y]? = some o → (w.setCell ⟨C, 4, none⟩ (.int .i64 m')).heap[Y]? = some o := fun Y o hne hY => (Below.heap_setCell _ _ _ _ (show Y ≠ C from hne)).trans hY
  exact ⟨go S _ (by omega) h.sb, hb, go R1 _ (by omega) h.r1, go R2 _ (by omega) h.r2, ownsRow_setCell_other h.io (a := ⟨C, 4, none⟩) (row_far h.io h.cb (by decide)) _, ownsRow_setCell_other h.ko (a := ⟨C, 4, none⟩) (row_far h.ko h.cb (by decide)) _, h.il, h.iz, h.kl, h.kz, h.dz, h.k7, h.cu.setX (by omega) (by omega) _ _, h.bel.setCell (p := ⟨C, 4, none⟩) (by show wb.heap.size ≤ C; omega) _, h.o1, h.o2, h.o3, h.o4, h.o5, h.o6⟩
/-- What lies below may turn. -/
theorem Dz.fin (h : Dz wA wb w c R1 R2 S C B a n cap k lim nx ia ic its nm ka kc ks f x m dt q) {w' : World} (hi : w'.ownsRow B 37 5 (.slice ia its.length ic) its.length (Own.flat its)) (hk : StrN.OwnT w' B (.slice ka ks.length kc) ks) (hb : Below wb.heap.size wb w') {nw : Int} (hn : 0 ≤ nw ∧ nw ≤ 200) :
    DoDrawn wb (.returned (.tuple #[.agg #[.int .i64 lim, .int .i64 nx, .slice ia its.length ic], .int .i64 nw, .agg #[.string nm, .slice ka ks.length kc, .int .i64 f, .int .i64 x, .int .i64 m, .string dt, .bool q]])) w' :=
  ⟨lim, nx, ia, ic, its, nw, nm, ka, kc, ks, f, x, m, dt, q, rfl, Own.own_at hi, h.il, own_cap hi, h.iz, (StrN.own_strs hk).1, h.kl, h.kz, h.dz, h.k7, hn, hb⟩
end

set_option maxRecDepth 10000 in
set_option maxHeartbeats 8000000 in
theorem drawDo_any (a : Option Addr) (n cap : Nat) (z : Nat → Int) (w : World) (hz : BAt w a n z) (hn : n ≤ 1048576) :
    Calls Tryz.prog 4 #[.slice a n cap] w (DoDrawn w) := by
  have hzA : BAt ((w.alloc zS).alloc zB) a n z := fun h0 => by
    obtain ⟨b, off, e, hb, hc⟩ := hz h0
    exact ⟨b, off, e, by simp; omega, fun i hi => ⟨((bel2 w zS zB).cell (p := ⟨b, off + i, none⟩) hb).trans (hc i hi).1, (hc i hi).2⟩⟩
  have hsA : ((w.alloc zS).alloc zB).heap.size = w.heap.size + 2 := by simp
  have RA1 : ((w.alloc zS).alloc zB).heap[w.heap.size]? = some zS := ((bel1 (w.alloc zS) zB).block w.heap.size (by simp)).trans (heap_alloc_new w zS)
  have RA2 : ((w.alloc zS).alloc zB).heap[w.heap.size + 1]? = some zB := by
    have e := heap_alloc_new (w.alloc zS) zB
    rwa [World.size_alloc] at e
  have BA := hide (bel2 w zS zB)
  go_enter Tryz.func4, Tryz.ntmps4
  go_upto_region 1 with fail
  generalize (w.alloc zS).alloc zB = wA at hzA hsA RA1 RA2 BA ⊢
  obtain ⟨R1, hR1⟩ : ∃ R, R = w.heap.size := ⟨_, rfl⟩
  obtain ⟨R2, hR2⟩ : ∃ R, R = w.heap.size + 1 := ⟨_, rfl⟩
  rw [← hR2] at RA2 ⊢
  rw [← hR1] at RA1 ⊢
  have q1 : w.heap.size ≤ R1 := by omega
  have q2 : R1 < R2 := by omega
  have q3 : R2 < wA.heap.size := by omega
  have R1A := hide RA1
  have R2A := hide RA2
  clear hR1 hR2 hsA hz RA1 RA2
  have C0 := hide (Cu.new wA 44 a n cap)
  have GC := hide (bel1 wA (.cells #[.slice a n cap, .int .i64 0, .int .u64 0] 44))
  have hzC : (wA.alloc (.cells #[.slice a n cap, .int .i64 0, .int .u64 0] 44)).heap.size = wA.heap.size + 1 := World.size_alloc _ _
  have HST := hide (fun w' h => store_any wA w' wA.heap.size a n cap 0 z hzA hn (by omega) h)
  have HCM := hide (fun w' h => cmd_any wA w' wA.heap.size a n cap 1000 z hzA hn (by omega) h)
  have HO := hide (fun (m : Nat) (hm : 1 ≤ m ∧ m ≤ 200) k (hk : k ≤ 9000) w' h => one_any wA w' wA.heap.size a n cap k m z hzA hn (by omega) h hm)
  have HP := hide (fun (m : Nat) (hm : 1 ≤ m ∧ m ≤ 200) k (hk : k ≤ 9000) w' h => pick_any wA w' wA.heap.size a n cap k m z hzA hn (by omega) h hm)
  clear hzA
  go_upto_region 2 with fail
  generalize wA.alloc (.cells #[.slice a n cap, .int .i64 0, .int .u64 0] 44) = wC at C0 GC hzC ⊢
  generalize wA.heap.size = c at C0 GC hzC HST HCM HO HP q3 ⊢
  have hcC : c < wC.heap.size := by omega
  go_wp2_with fail
  refine (unhide HST _ (unhide C0)).mono ?_
  rintro e w1 ⟨lim, nx, iv, its, nw, rfl, hio, hil, hiz, hnw, hcu1, hg1⟩
  obtain ⟨ia, ic, hiv⟩ := own_form hio
  subst hiv
  have hz1 := hg1.size
  have C1 := hide ((hcu1.alloc (.cells #[.int .i64 lim, .int .i64 nx, .slice ia its.length ic] 25)).le (show 0 + 1000 ≤ 1000 by omega))
  have I1 := hide hio
  have B1 := hide (below_gb ((unhide BA).trans ((unhide GC).mono (by omega))) hg1 (Nat.le_trans (unhide BA).size (unhide GC).size) (by omega))
  have r11 := hide ((hg1.block R1 (by omega) (fun e => by simp at e; omega)).trans (((unhide GC).block R1 (by omega)).trans (unhide R1A)))
  have r21 := hide ((hg1.block R2 (by omega) (fun e => by simp at e; omega)).trans (((unhide GC).block R2 (by omega)).trans (unhide R2A)))
  have SB2 := hide (heap_alloc_new w1 (.cells #[.int .i64 lim, .int .i64 nx, .slice ia its.length ic] 25))
  have HB2 := hide (bel1 w1 (.cells #[.int .i64 lim, .int .i64 nx, .slice ia its.length ic] 25))
  clear hio hcu1 hg1 C0 GC R1A R2A BA HST
  go_upto_region 3 with fail
  generalize w1.alloc (.cells #[.int .i64 lim, .int .i64 nx, .slice ia its.length ic] 25) = w2 at C1 SB2 HB2 ⊢
  have hz2 := (unhide HB2).size
  have hS2 := lt_of_heap (unhide SB2)
  go_wp2_with fail
  refine (unhide HCM _ (unhide C1)).mono ?_
  rintro e w3 ⟨nm, kv, ks, f, x, m, dt, q, rfl, hko, hkz, hkl, hdz, hk7, hcu3, hg3⟩
  obtain ⟨ka, kc, hkv⟩ := own_form hko
  subst hkv
  have hz3 := hg3.size
  have hB4 := bel1 w3 (.cells #[.string nm, .slice ka ks.length kc, .int .i64 f, .int .i64 x, .int .i64 m, .string dt, .bool q] 28)
  have D4 : Hid (Dz wA w (w3.alloc (.cells #[.string nm, .slice ka ks.length kc, .int .i64 f, .int .i64 x, .int .i64 m, .string dt, .bool q] 28)) c R1 R2 w1.heap.size w3.heap.size wC.heap.size a n cap 1040 lim nx ia ic its nm ka kc ks f x m dt q) := by
    have go : ∀ Y o, Y < w1.heap.size → Y ≠ c → w1.heap[Y]? = some o → (w3.alloc (.cells #[.string nm, .slice ka ks.length kc, .int .i64 f, .int .i64 x, .int .i64 m, .string dt, .bool q] 28)).heap[Y]? = some o := fun Y o hl hne hY => (hB4.block Y (by omega)).trans ((hg3.block Y (by omega) (fun e => by simp at e; omega)).trans (((unhide HB2).block Y hl).trans hY))
    have b3 : Below w.heap.size w w3 := below_gb ((unhide B1).trans ((unhide HB2).mono (unhide B1).size)) hg3 (Nat.le_trans (unhide B1).size (unhide HB2).size) (by omega)
    exact ⟨(hB4.block _ (by omega)).trans ((hg3.block _ hS2 (fun e => by simp at e; omega)).trans (unhide SB2)), heap_alloc_new w3 _, go R1 _ (by omega) (by omega) (unhide r11), go R2 _ (by omega) (by omega) (unhide r21), own_below (StrN.own_gb (own_below (unhide I1) (unhide HB2) (Nat.le_refl _)) hg3 hcC) hB4 (Nat.le_refl _), own_below (own_le hko (by omega)) hB4 (Nat.le_refl _), hil, hiz, hkl, hkz, hdz, hk7, (hcu3.alloc _).le (by omega), b3.alloc b3.size _, q1, q2, q3, hcC, by omega, by omega⟩
  clear hko hkz hkl hdz hk7 hcu3 hg3 hB4 C1 SB2 HB2 B1 I1 r11 r21 HCM hil hiz
  go_upto_region 4 with fail
  generalize w3.alloc (.cells #[.string nm, .slice ka ks.length kc, .int .i64 f, .int .i64 x, .int .i64 m, .string dt, .bool q] 28) = w4 at D4 ⊢
  generalize w1.heap.size = S at D4 hz1 hz2 hS2 ⊢
  generalize w3.heap.size = C at D4 hz3 ⊢
  generalize wC.heap.size = B at D4 hz1 hzC hcC
  clear hz1 hz2 hz3 hS2 hzC hcC
  obtain ⟨s0, s1, s2, sl⟩ := (unhide D4).scells
  obtain ⟨c0, c1, c2, c3, c4, c5, c6, cf, cl⟩ := (unhide D4).ccells
  have hil4 := (unhide D4).il
  go_cut [32] (fun sv wx => ∃ (b : Bool) (k' : Nat), sv = .bool b ∧ k' ≤ 1041 ∧ Hid (Dz wA w wx c R1 R2 S C B a n cap k' lim nx ia ic its nm ka kc ks f x m dt q) ∧ (b = true → 0 < its.length))
  case first =>
    by_cases hcas : nm.toList = [99, 97, 115]
    · have hb1 : (nm.toList == [99, 97, 115]) = true := by simp [hcas]
      by_cases hp : 0 < its.length
      · have hp1 : (0 : Int) < (its.length : Int) := by omega
        have hp2 : decide ((its.length : Int) > 0) = true := decide_eq_true (by omega)
        have hp3 : decide (0 < its.length) = true := decide_eq_true (by omega)
        go_wp2_with fail
        refine (unhide HO 2 (by omega) 1040 (by omega) _ (unhide D4).cu).mono ?_
        rintro e w5 ⟨b, rfl, hcu, hg⟩
        have D5 := hide ((unhide D4).call hcu hg)
        clear hcu hg
        go_wp2_with fail
        go_meet
        exact ⟨b, 1041, by first | rfl | simp, by omega, D5, fun _ => hp⟩
      · have hp0 : its.length = 0 := by omega
        have hp2 : decide (0 < its.length) = false := decide_eq_false (by omega)
        go_wp2_with fail
        go_meet
        exact ⟨false, 1040, by first | rfl | simp [hp0], by omega, D4, fun h => by simp at h⟩
    · have hb1 : (nm.toList == [99, 97, 115]) = false := by simp [hcas]
      go_wp2_with fail
      go_meet
      exact ⟨false, 1040, by first | rfl | simp, by omega, D4, fun h => by simp at h⟩
  case rest =>
  obtain ⟨b, k5, rfl, hk5, hD, hpos⟩ := hcut
  obtain ⟨w5, hname⟩ : ∃ v, v = wc := ⟨_, rfl⟩
  rw [← hname] at hD ⊢
  clear hname wc D4 s0 s1 s2 sl c0 c1 c2 c3 c4 c5 c6 cf cl
  have D5 := hD
  clear hD
  go_upto_if 32 with fail
  go_cut [] (fun wx => ∃ (ia : Option Addr) (ka : Option Addr) (kc : Nat) (ks : List ByteArray) (m : Int) (k' : Nat), k' ≤ 1042 ∧ Hid (Dz wA w wx c R1 R2 S C B a n cap k' lim nx ia ic its nm ka kc ks f x m dt q))
  case first =>
    cases b
    · go_wp2_with fail
      go_meet
      exact ⟨ia, ka, kc, ks, m, k5, by omega, D5⟩
    · have hp := hpos rfl
      clear hpos
      have hp1 : (0 : Int) < (its.length : Int) := by omega
      obtain ⟨s0, s1, s2, sl⟩ := (unhide D5).scells
      go_wp2_with fail
      refine (unhide HP its.length ⟨by omega, by omega⟩ k5 (by omega) _ (unhide D5).cu).mono ?_
      rintro e w6 ⟨r, rfl, hr, hcu, hg⟩
      have D6 := hide ((unhide D5).call hcu hg)
      clear hcu hg s0 s1 s2 sl
      have hne : its ≠ [] := fun e => by rw [e] at hp; simp at hp
      obtain ⟨b0, off0, hia, hb0, hci⟩ := Own.own_at (unhide D6).io hne
      subst hia
      obtain ⟨e0, e1, e2, e3, e4⟩ := hci r hr
      have hmem : its.getD r zero ∈ its := by rw [List.getD_eq_getElem?_getD, List.getElem?_eq_getElem hr]; exact List.getElem_mem _
      have hys := ((unhide D6).iz _ hmem).1
      have D7 := hide ((unhide D6).one (s := (its.getD r zero).key) hys)
      have E7 : Hid (∀ w7, ItemsAt w7 (some ⟨b0, off0, none⟩) its → w7.cell? ⟨b0, off0 + r * 5 + 4, none⟩ = some (.int .i64 (its.getD r zero).token)) := fun w7 h7 => by
        obtain ⟨b1, off1, e, _, hc7⟩ := h7 hne
        simp only [Option.some.injEq, Addr.mk.injEq, and_true] at e
        obtain ⟨rfl, rfl⟩ := e
        exact (hc7 r hr).2.2.2.2
      have I7 := hide (Own.own_at (unhide D7).io)
      obtain ⟨s0, s1, s2, sl⟩ := (unhide D6).scells
      obtain ⟨c0, c1, c2, c3, c4, c5, c6, cf, cl⟩ := (unhide D6).ccells
      have hrI : (r : Int) < (its.length : Int) := by omega
      clear hci hmem hne
      generalize its.getD r zero = y at e0 e1 e2 e3 e4 hys D7 E7 I7
      go_upto_region 7 with fail
      generalize (w6.setCell ⟨C, 1, none⟩ (.slice (some ⟨w6.heap.size, 0, none⟩) 1 1)).alloc (.cells #[.string y.key] 9) = w7 at D7 I7 ⊢
      generalize w6.heap.size = G6 at D7 hb0
      clear s0 s1 s2 sl c0 c1 c2 c3 c4 c5 c6 cf cl e0 e1 e2 e3 e4 D6 D5
      obtain ⟨s0, s1, s2, sl⟩ := (unhide D7).scells
      obtain ⟨c0, c1, c2, c3, c4, c5, c6, cf, cl⟩ := (unhide D7).ccells
      have e4 := unhide E7 _ (unhide I7)
      have D8 := hide ((unhide D7).num y.token)
      go_wp2_with fail
      go_meet
      exact ⟨_, _, 1, [y.key], y.token, k5 + 1, by omega, D8⟩
  case rest =>
  obtain ⟨ia', ka', kc', ks', m', k8, hk8, hD⟩ := hcut
  obtain ⟨w8, hname⟩ : ∃ v, v = wc := ⟨_, rfl⟩
  rw [← hname] at hD ⊢
  clear hname wc D5 hpos
  have D8 := hD
  clear hD
  have DD := hide (unhide D8).drew
  obtain ⟨s0, s1, s2, sl⟩ := (unhide D8).scells
  obtain ⟨c0, c1, c2, c3, c4, c5, c6, cf, cl⟩ := (unhide D8).ccells
  obtain ⟨y0, y1, y2, yf, yl⟩ := (unhide D8).r1cells
  obtain ⟨t0, t1, t2, t3, t4, t5, t6, tf, tl⟩ := (unhide D8).r2cells
  have o1 := (unhide D8).o1
  have o2 := (unhide D8).o2
  have o3 := (unhide D8).o3
  have o4 := (unhide D8).o4
  have o5 := (unhide D8).o5
  have o6 := (unhide D8).o6
  go_upto_region 8 with fail
  go_region_law (first | (go_simp; refine (unhide HP 4 (by omega) k8 (by omega) _ (unhide DD).cu).mono ?_; rintro e w9 ⟨r9, rfl, hr9, hcu, hg⟩; have D9 := hide ((unhide DD).call hcu hg); obtain ⟨s0', s1', s2', sl'⟩ := (unhide D9).scells; obtain ⟨c0', c1', c2', c3', c4', c5', c6', cf', cl'⟩ := (unhide D9).ccells; obtain ⟨y0', y1', y2', yf', yl'⟩ := (unhide D9).r1cells; obtain ⟨t0', t1', t2', t3', t4', t5', t6', tf', tl'⟩ := (unhide D9).r2cells; clear hcu hg))
  all_goals
    go_wp2
    refine bodyPost_ret (v := .tuple #[.agg #[.int .i64 lim, .int .i64 nx, .slice ia' its.length ic], .int .i64 (nw + (r9 : Int)), .agg #[.string nm, .slice ka' ks'.length kc', .int .i64 f, .int .i64 x, .int .i64 m', .string dt, .bool q]]) (by simp [results, Tryz.results4, go_sem, y0', y1', y2', t0', t1', t2', t3', t4', t5', t6']; first | done | exact Go.IntWalk.i64_in _ ⟨by omega, by omega⟩) rfl ((unhide D9).fin ?_ ?_ ?_ (by omega))
    · repeat (refine ownsRow_setCell_below ?_ (by first | (simp; done) | (simp; omega)) _)
      exact (unhide D9).io
    · repeat (refine ownsRow_setCell_below ?_ (by first | (simp; done) | (simp; omega)) _)
      exact (unhide D9).ko
    · repeat (refine Below.setCell ?_ (by first | (simp; done) | (simp; omega)) _)
      exact (unhide D9).bel
end Cur
end Go.Proofs.YtkdcofmpbmiloaaGreatDoor
