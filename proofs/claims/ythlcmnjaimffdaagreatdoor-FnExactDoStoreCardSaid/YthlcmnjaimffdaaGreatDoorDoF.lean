/-
  The model's DoStore: what it answers, and what it leaves in memory.
-/
import Derived.Test.YthlcmnjaimffdaaGreatDoorDoDE
import Derived.Test.YthlcmnjaimffdaaGreatDoorGoodCmdS
import Derived.Test.YthlcmnjaimffdaaGreatDoorStores
namespace Go.Proofs.YthlcmnjaimffdaaGreatDoor
namespace Rw
open Go.RowKit Base GoodKey Items Store Own
open _root_.Go.Proofs.YthlcmnjaimffdaaGreatDoor.Shelf
set_option linter.unusedVariables false

theorem news_at {w : World} {b off : Nat} {its : List Itm} (hc : ∀ i, i < its.length → At w b (off + i * 5) (its.getD i zero)) (j : Nat) (u : Value) (hj : (flat its)[j]? = some u) : w.cell? ((⟨b, off, none⟩ : Addr).add j) = some u := by
  rw [Go.WideShapes.add_plain]
  have hl : j < its.length * 5 := by
    rcases Nat.lt_or_ge j (flat its).length with h1 | h1
    · rwa [flat_length] at h1
    · rw [List.getElem?_eq_none h1] at hj; simp at hj
  rw [flat_get its j hl] at hj
  obtain ⟨h0, h1, h2, h3, h4⟩ := hc (j / 5) (by omega)
  rw [← hj]
  unfold icell
  have hm : j % 5 < 5 := Nat.mod_lt _ (by decide)
  have hd := Nat.div_add_mod j 5
  by_cases e0 : j % 5 = 0
  · rw [if_pos e0, ← h0]; congr 2; omega
  by_cases e1 : j % 5 = 1
  · rw [if_neg e0, if_pos e1, ← h1]; congr 2; omega
  by_cases e2 : j % 5 = 2
  · rw [if_neg e0, if_neg e1, if_pos e2, ← h2]; congr 2; omega
  by_cases e3 : j % 5 = 3
  · rw [if_neg e0, if_neg e1, if_neg e2, if_pos e3, ← h3]; congr 2; omega
  · rw [if_neg e0, if_neg e1, if_neg e2, if_neg e3, ← h4]; congr 2; omega
section
variable {w w' : World} {H : Nat} {lim nx : Int} {v : Value} {nm : ByteArray} {kv : Value} {f x n : Int} {dt : ByteArray} {q : Bool}
theorem Bw.put2 (h : Bw w H lim nx v nm kv f x n dt q) (u : Value) : Bw (w.setCell ⟨H, 2, none⟩ u) H lim nx u nm kv f x n dt q := by
  obtain ⟨⟨s0, s1, s2⟩, ⟨i0, i1, i2, i3, i4, i5, i6⟩, ⟨y0, y1, y2⟩, f0, f2, z⟩ := h
  refine ⟨⟨?_, ?_, ?_⟩, ⟨?_, ?_, ?_, ?_, ?_, ?_, ?_⟩, ⟨?_, ?_, ?_⟩, fun o => ?_, fun o => ?_, by simpa [World.setCell] using z⟩
  all_goals go_simp
end
theorem doEnd_row {w w' : World} {B : Nat} {lim nx : Int} {its : List Itm} {ans : ByteArray} {lost : Nat} {a : Option Addr} {cap : Nat} (h : Row w' B (.slice a its.length cap) its) (hB : w.heap.size ≤ B) (hb : Below w.heap.size w w') :
    DoEnd ⟨lim, nx, its, ans, lost, true⟩ w (.returned (.tuple #[.agg #[.int .i64 lim, .int .i64 nx, .slice a its.length cap], .string ans, .int .i64 lost, .bool true])) w' := by
  obtain ⟨r, hou, hge⟩ := own_ours h
  exact ⟨a, cap, r, rfl, hou, fun g hg => Nat.le_trans hB (hge g hg), hb⟩

set_option maxRecDepth 10000 in
set_option maxHeartbeats 8000000 in
theorem doStore_spec (lim nx : Int) (b off cap : Nat) (its : List Itm) (now : Int) (nm : ByteArray) (kb ko kc : Nat) (ks : List ByteArray) (f x n : Int) (dt : ByteArray) (q : Bool) (w : World)
    (hb : b < w.heap.size) (hc : ∀ i, i < its.length → At w b (off + i * 5) (its.getD i zero)) (hl : its.length ≤ 1048576) (hcap : its.length ≤ cap) (hs : ∀ x ∈ its, Fits x)
    (hkb : kb < w.heap.size) (hkc : ∀ i, i < ks.length → w.cell? ⟨kb, ko + i, none⟩ = some (.string (ks.getD i ByteArray.empty))) (hkl : ks.length ≤ maxLen) (hks : ∀ s ∈ ks, s.size ≤ maxLen) (hd : dt.size ≤ maxLen) :
    Calls Tryz.prog 6 #[.agg #[.int .i64 lim, .int .i64 nx, .slice (some ⟨b, off, none⟩) its.length cap], .int .i64 now, .agg #[.string nm, .slice (some ⟨kb, ko, none⟩) ks.length kc, .int .i64 f, .int .i64 x, .int .i64 n, .string dt, .bool q]] w
      (DoEnd (doR lim nx its now nm.toList ks f x n dt q) w) := by
  have hgood := fun w' (hb' : Below w.heap.size w w') => Store.spec_some lim nx b off cap its w' (Nat.lt_of_lt_of_le hb hb'.size) (fun i hi => (hc i hi).below hb' hb) (by unfold maxLen; omega) hcap hs
  have hcm := fun w' (hb' : Below w.heap.size w w') => GoodCmd.spec_any nm kb ko kc ks f x n dt q w' (Nat.lt_of_lt_of_le hkb hb'.size) (fun i hi => (hb'.cell (p := ⟨kb, ko + i, none⟩) hkb).trans (hkc i hi)) hkl hks hd
  have HNW := hide (fun w' (hb' : Below w.heap.size w w') => news_at (w := w') (b := b) (off := off) (its := its) (fun i hi => (hc i hi).below hb' hb))
  have HKC := hide hkc
  clear hc hs hkc hks hd
  have hno : ∀ (w1 : World), Below w.heap.size w w1 → doR lim nx its now nm.toList ks f x n dt q = noDone → DoEnd (doR lim nx its now nm.toList ks f x n dt q) w (.returned (.tuple #[.agg #[.int .i64 0, .int .i64 0, .slice none 0 0], .string ⟨#[]⟩, .int .i64 0, .bool false])) w1 := by
    intro w1 hb1 e
    rw [e]
    exact ⟨none, 0, none, rfl, .inl ⟨rfl, rfl⟩, fun g h => by simp at h, hb1⟩
  have HNO := hide hno
  clear hno
  cases g1 : gsB lim nx its
  · have H : Hid (doR lim nx its now nm.toList ks f x n dt q = noDone) := by show doR lim nx its now nm.toList ks f x n dt q = _; simp [doR, g1]
    rw [g1] at hgood
    have HG := hide hgood
    clear hgood g1 hcm HNW
    generalize doR lim nx its now nm.toList ks f x n dt q = T at H HNO ⊢
    go_enter Tryz.func6, Tryz.ntmps6
    go_wp2_with fail
    refine (unhide HG _ (bel3 w _ _ _)).mono ?_
    rintro e w1 ⟨rfl, hb1⟩
    simp only [World.size_alloc] at hb1
    have hB1 := hide ((bel3 w _ _ _).trans (hb1.mono (by omega)))
    have X1 := hide ((bw_new w lim nx (.slice (some ⟨b, off, none⟩) its.length cap) nm (.slice (some ⟨kb, ko, none⟩) ks.length kc) f x n dt q).below hb1 (by omega))
    have z1 : w.heap.size + 3 ≤ w1.heap.size := (unhide X1).2.2.2.2.2
    clear hb1
    obtain ⟨⟨a0, a1, a2'⟩, ⟨i0, i1, i2, i3, i4, i5, i6⟩, ⟨y0, y1, y2⟩, f0, f2, -⟩ := unhide X1
    go_wp2
    refine bodyPost_ret (v := .tuple #[.agg #[.int .i64 0, .int .i64 0, .slice none 0 0], .string ⟨#[]⟩, .int .i64 0, .bool false]) (by simp [results, Tryz.results6, go_sem, y0, y1, y2]; done) rfl (unhide HNO _ ?_ (unhide H))
    repeat (refine Below.setCell ?_ (by first | (simp; done) | (simp; omega)) _)
    exact unhide hB1
  have HOK := hide (store_ok g1)
  rw [g1] at hgood
  have HG := hide hgood
  clear hgood
  cases g2 : inB now 0 1000000000
  · have H : Hid (doR lim nx its now nm.toList ks f x n dt q = noDone) := by show doR lim nx its now nm.toList ks f x n dt q = _; simp [doR, g1, g2]
    clear g1 hcm HNW
    generalize doR lim nx its now nm.toList ks f x n dt q = T at H HNO ⊢
    go_enter Tryz.func6, Tryz.ntmps6
    go_wp2_with fail
    refine (unhide HG _ (bel3 w _ _ _)).mono ?_
    rintro e w1 ⟨rfl, hb1⟩
    simp only [World.size_alloc] at hb1
    have hB1 := hide ((bel3 w _ _ _).trans (hb1.mono (by omega)))
    have X1 := hide ((bw_new w lim nx (.slice (some ⟨b, off, none⟩) its.length cap) nm (.slice (some ⟨kb, ko, none⟩) ks.length kc) f x n dt q).below hb1 (by omega))
    have z1 : w.heap.size + 3 ≤ w1.heap.size := (unhide X1).2.2.2.2.2
    clear hb1
    obtain ⟨⟨a0, a1, a2'⟩, ⟨i0, i1, i2, i3, i4, i5, i6⟩, ⟨y0, y1, y2⟩, f0, f2, -⟩ := unhide X1
    go_wp2_with (go_at_call 18; refine (l2Now_any _ _).mono ?_; rintro e w2 ⟨rfl, rfl⟩)
    refine bodyPost_ret (v := .tuple #[.agg #[.int .i64 0, .int .i64 0, .slice none 0 0], .string ⟨#[]⟩, .int .i64 0, .bool false]) (by simp [results, Tryz.results6, go_sem, y0, y1, y2]; done) rfl (unhide HNO _ ?_ (unhide H))
    repeat (refine Below.setCell ?_ (by first | (simp; done) | (simp; omega)) _)
    exact unhide hB1
  cases g3 : GoodCmd.gcB (Kind.kindN nm.toList) ks f x n dt q
  · have H : Hid (doR lim nx its now nm.toList ks f x n dt q = noDone) := by show doR lim nx its now nm.toList ks f x n dt q = _; simp [doR, g1, g2, g3]
    rw [g3] at hcm
    have HCM := hide hcm
    clear g1 hcm g3 HNW
    generalize doR lim nx its now nm.toList ks f x n dt q = T at H HNO ⊢
    go_enter Tryz.func6, Tryz.ntmps6
    go_wp2_with fail
    refine (unhide HG _ (bel3 w _ _ _)).mono ?_
    rintro e w1 ⟨rfl, hb1⟩
    simp only [World.size_alloc] at hb1
    have hB1 := hide ((bel3 w _ _ _).trans (hb1.mono (by omega)))
    have X1 := hide ((bw_new w lim nx (.slice (some ⟨b, off, none⟩) its.length cap) nm (.slice (some ⟨kb, ko, none⟩) ks.length kc) f x n dt q).below hb1 (by omega))
    have z1 : w.heap.size + 3 ≤ w1.heap.size := (unhide X1).2.2.2.2.2
    clear hb1
    obtain ⟨⟨a0, a1, a2'⟩, ⟨i0, i1, i2, i3, i4, i5, i6⟩, ⟨y0, y1, y2⟩, f0, f2, -⟩ := unhide X1
    go_wp2_with (go_at_call 18; refine (l2Now_any _ _).mono ?_; rintro e w2 ⟨rfl, rfl⟩)
    refine (unhide HCM _ (unhide hB1)).mono ?_
    rintro e w2 ⟨rfl, hb2⟩
    have hB2 := hide ((unhide hB1).trans (hb2.mono (by omega)))
    have X2 := hide ((unhide X1).below hb2 z1)
    have z2 : w.heap.size + 3 ≤ w2.heap.size := (unhide X2).2.2.2.2.2
    clear hb2 a0 a1 a2' i0 i1 i2 i3 i4 i5 i6 y0 y1 y2 f0 f2
    obtain ⟨⟨a0, a1, a2'⟩, ⟨i0, i1, i2, i3, i4, i5, i6⟩, ⟨y0, y1, y2⟩, f0, f2, -⟩ := unhide X2
    go_wp2
    refine bodyPost_ret (v := .tuple #[.agg #[.int .i64 0, .int .i64 0, .slice none 0 0], .string ⟨#[]⟩, .int .i64 0, .bool false]) (by simp [results, Tryz.results6, go_sem, y0, y1, y2]; done) rfl (unhide HNO _ ?_ (unhide H))
    repeat (refine Below.setCell ?_ (by first | (simp; done) | (simp; omega)) _)
    exact unhide hB2
  have H : Hid (doR lim nx its now nm.toList ks f x n dt q = yesDone lim q (ansO lim nx (keepB its now) now nm.toList ks f x n dt)) := by show doR lim nx its now nm.toList ks f x n dt q = _; simp only [doR, g1, g2, g3, if_true]
  have hnow := inB_iff g2
  obtain ⟨hlim, hnx, hl60, hits⟩ := unhide HOK
  obtain ⟨O, hO⟩ : ∃ O, ansO lim nx (keepB its now) now nm.toList ks f x n dt = O := ⟨_, rfl⟩
  have HDO := hide (fun g cg B' w' (hr' : Row w' B' (.slice (some ⟨g, 0, none⟩) its.length cg) its) (hb' : Below w.heap.size w w') => l2Answer_any lim nx g cg B' its now nm kb ko kc ks f x n dt q w' hr' hl60 hits hlim hnx (Nat.lt_of_lt_of_le hkb hb'.size) (fun i hi => (hb'.cell (p := ⟨kb, ko + i, none⟩) hkb).trans (unhide HKC i hi)) hnow g3 O hO)
  rw [hO] at H
  generalize doR lim nx its now nm.toList ks f x n dt q = T at H HNO ⊢
  rw [g3] at hcm
  have HCM := hide hcm
  have HLE : Hid (0 + its.length = its.length) := Nat.zero_add _
  clear g1 hcm g3 HNO hits hO HOK hlim hnx HKC hnow
  obtain rfl : T = yesDone lim q O := unhide H
  obtain ⟨Oi, On, Ol, Oa⟩ := O
  unfold yesDone
  dsimp only at HDO ⊢
  clear H
  generalize (if q = true then (⟨#[]⟩ : ByteArray) else Oa) = A at HDO ⊢
  go_enter Tryz.func6, Tryz.ntmps6
  go_wp2_with fail
  refine (unhide HG _ (bel3 w _ _ _)).mono ?_
  rintro e w1 ⟨rfl, hb1⟩
  simp only [World.size_alloc] at hb1
  have hB1 := hide ((bel3 w _ _ _).trans (hb1.mono (by omega)))
  have X1 := hide ((bw_new w lim nx (.slice (some ⟨b, off, none⟩) its.length cap) nm (.slice (some ⟨kb, ko, none⟩) ks.length kc) f x n dt q).below hb1 (by omega))
  have z1 : w.heap.size + 3 ≤ w1.heap.size := (unhide X1).2.2.2.2.2
  clear hb1
  obtain ⟨⟨a0, a1, a2'⟩, ⟨i0, i1, i2, i3, i4, i5, i6⟩, ⟨y0, y1, y2⟩, f0, f2, -⟩ := unhide X1
  go_wp2_with (go_at_call 18; refine (l2Now_any _ _).mono ?_; rintro e w2 ⟨rfl, rfl⟩)
  refine (unhide HCM _ (unhide hB1)).mono ?_
  rintro e w2 ⟨rfl, hb2⟩
  have hB2 := hide ((unhide hB1).trans (hb2.mono (by omega)))
  have X2 := hide ((unhide X1).below hb2 z1)
  have z2 : w.heap.size + 3 ≤ w2.heap.size := (unhide X2).2.2.2.2.2
  clear hb2 a0 a1 a2' i0 i1 i2 i3 i4 i5 i6 y0 y1 y2 f0 f2
  obtain ⟨⟨a0, a1, a2'⟩, ⟨i0, i1, i2, i3, i4, i5, i6⟩, ⟨y0, y1, y2⟩, f0, f2, -⟩ := unhide X2
  have q0 : w.heap.size < w2.heap.size := by omega
  have HNV := hide (unhide HNW (w2.alloc (.cells #[] 71)) ((unhide hB2).alloc (by omega) _))
  go_wp2_with (at_builtin; refine list_items _ rfl (.tmp 27) (.tmp 29) rfl w2.heap.size w2.heap.size 0 0 [] rfl (row_empty w2 (Nat.le_refl _)) rfl ⟨b, off, none⟩ its.length cap its rfl rfl (unhide HNV) its.length (unhide HLE) (by omega) (by simp) ?_)
  intro g3 cap3 w3 hrow3 hg3
  have HB3 := hide (((Below.refl w2.heap.size w2).alloc (Nat.le_refl _) _).grown hg3 (by simp) (fun k e => by simp at e; omega))
  have X3 := hide ((unhide X2).below (unhide HB3) z2)
  have z3 : w2.heap.size ≤ w3.heap.size := (unhide HB3).size
  have R3 := hide hrow3
  have B3 := hide ((unhide hB2).trans ((unhide HB3).mono (by omega)))
  clear hrow3 hg3 a0 a1 a2' i0 i1 i2 i3 i4 i5 i6 y0 y1 y2 f0 f2 HNV HNW X1 X2 HB3
  have X4 := hide ((unhide X3).put2 (.slice (some ⟨g3, 0, none⟩) its.length cap3))
  have R4 : Hid (Row (w3.setCell ⟨w.heap.size, 2, none⟩ (.slice (some ⟨g3, 0, none⟩) its.length cap3)) w2.heap.size (.slice (some ⟨g3, 0, none⟩) its.length cap3) its) := ownsRow_setCell_below (unhide R3) (a := ⟨w.heap.size, 2, none⟩) (show w.heap.size < w2.heap.size by omega) _
  have B4 := hide ((unhide B3).setCell (p := ⟨w.heap.size, 2, none⟩) (Nat.le_refl _) (.slice (some ⟨g3, 0, none⟩) its.length cap3))
  obtain ⟨⟨a0, a1, a2'⟩, ⟨i0, i1, i2, i3, i4, i5, i6⟩, ⟨y0, y1, y2⟩, f0, f2, -⟩ := unhide X3
  go_upto_region 4 with fail
  generalize w3.setCell ⟨w.heap.size, 2, none⟩ (.slice (some ⟨g3, 0, none⟩) its.length cap3) = w4 at X4 R4 B4 ⊢
  clear a0 a1 a2' i0 i1 i2 i3 i4 i5 i6 y0 y1 y2 f0 f2 X3 R3 B3
  have z4 : w.heap.size + 3 ≤ w4.heap.size := (unhide X4).2.2.2.2.2
  obtain ⟨⟨a0, a1, a2'⟩, ⟨i0, i1, i2, i3, i4, i5, i6⟩, ⟨y0, y1, y2⟩, f0, f2, -⟩ := unhide X4
  go_wp2_with fail
  refine (unhide HDO _ _ _ _ (unhide R4) (unhide B4)).mono ?_
  rintro e w5 ⟨a5, c5, rfl, hr5, hb5⟩
  have X5 := hide ((unhide X4).below hb5 z4)
  have R5 : Hid (Row w5 (w.heap.size + 3) (.slice a5 Oi.length c5) Oi) := Row.le hr5 z4
  have B5 := hide ((unhide B4).trans (hb5.mono (by omega)))
  have z5 : w.heap.size + 3 ≤ w5.heap.size := (unhide X5).2.2.2.2.2
  have q1 : w.heap.size + 1 < w5.heap.size := by omega
  have q2 : w.heap.size + 1 + 1 < w5.heap.size := by omega
  clear hr5 hb5 a0 a1 a2' i0 i1 i2 i3 i4 i5 i6 y0 y1 y2 f0 f2
  dsimp only
  obtain ⟨⟨a0, a1, a2'⟩, ⟨i0, i1, i2, i3, i4, i5, i6⟩, ⟨y0, y1, y2⟩, f0, f2, -⟩ := unhide X5
  go_wp2
  have rr := fun o => (bel1 (((w5.setCell ⟨w.heap.size + 1 + 1, 0, none⟩ (.int .i64 lim)).setCell ⟨w.heap.size + 1 + 1, 1, none⟩ (.int .i64 On)).setCell ⟨w.heap.size + 1 + 1, 2, none⟩ (.slice a5 Oi.length c5)) (.cells #[.int .i64 lim, .int .i64 On, .slice a5 Oi.length c5] 32)).cell (p := ⟨w.heap.size + 1 + 1, o, none⟩) (by simp; omega)
  refine bodyPost_ret (v := .tuple #[.agg #[.int .i64 lim, .int .i64 On, .slice a5 Oi.length c5], .string A, .int .i64 (Ol : Int), .bool true]) (by simp [results, Tryz.results6, go_sem, rr, y0, y1, y2]; done) rfl ?_
  refine doEnd_row (B := w.heap.size + 3) ?_ (by omega) ?_
  · repeat (first | (refine ownsRow_setCell_below ?_ (by first | (simp; done) | (simp; omega)) _) | (refine Row.below ?_ (bel1 _ _) (Nat.le_refl _)))
    exact unhide R5
  · repeat (first | (refine Below.setCell ?_ (by first | (simp; done) | (simp; omega)) _) | (refine Below.alloc ?_ (by first | omega | (simp; omega)) _))
    exact unhide B5
end Rw
end Go.Proofs.YthlcmnjaimffdaaGreatDoor
