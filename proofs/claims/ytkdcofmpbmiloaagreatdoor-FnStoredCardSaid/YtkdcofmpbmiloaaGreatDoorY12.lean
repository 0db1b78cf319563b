/-
  The model's l2Do, whole: for every good command it leaves what the plain function says.
-/
import Derived.Test.YtkdcofmpbmiloaaGreatDoorDoB
import Derived.Test.YtkdcofmpbmiloaaGreatDoorDoC
namespace Go.Proofs.YtkdcofmpbmiloaaGreatDoor
namespace Rw
open Go.RowKit Base GoodKey Items Store Own
set_option linter.unusedVariables false

theorem kind_one {K : Int} {ks : List ByteArray} {f x n : Int} {dt : ByteArray} {q : Bool} (h : GoodCmd.gcB K ks f x n dt q = true) (h0 : 0 ≤ K ∧ K ≤ 7) : K = 1 ∨ (2 ≤ K ∧ K ≤ 6) ∨ K = 7 := by
  by_cases h1 : K = 0
  · rw [h1] at h
    simp [GoodCmd.gcB] at h
  · omega
theorem kind_seven {l : List UInt8} (h : Kind.kindN l = 7) : l = [102, 108, 117, 115, 104, 95, 97, 108, 108] ∨ l = [118, 101, 114, 115, 105, 111, 110] ∨ l = [113, 117, 105, 116] := by
  by_cases a : l = [102, 108, 117, 115, 104, 95, 97, 108, 108]
  · exact .inl a
  by_cases b : l = [118, 101, 114, 115, 105, 111, 110]
  · exact .inr (.inl b)
  by_cases c : l = [113, 117, 105, 116]
  · exact .inr (.inr c)
  have h6 : Kind.kindN l ≤ 6 := by
    unfold Kind.kindN
    rw [if_neg a, if_neg b, if_neg c]
    repeat' split
    all_goals omega
  omega
theorem ans_one {lim nx : Int} {its : List Itm} {now : Int} {nm : List UInt8} {ks : List ByteArray} {f x n : Int} {dt : ByteArray} (h : Kind.kindN nm = 1) : Shelf.ansO lim nx its now nm ks f x n dt = Shelf.tellO nx its nm ks := by
  unfold Shelf.ansO
  rw [if_pos h]
theorem ans_seven {lim nx : Int} {its : List Itm} {now : Int} {nm : List UInt8} {ks : List ByteArray} {f x n : Int} {dt : ByteArray} (h : Kind.kindN nm = 7) : Shelf.ansO lim nx its now nm ks f x n dt = Shelf.plainO nx its nm := by
  unfold Shelf.ansO
  rw [h]
  simp

theorem l2Do_any (lim nx : Int) (b cap B : Nat) (its : List Itm) (now : Int) (nm : ByteArray) (kb ko kc : Nat) (ks : List ByteArray) (f x n : Int) (dt : ByteArray) (q : Bool) (w : World)
    (hr : Row w B (.slice (some ⟨b, 0, none⟩) its.length cap) its) (hl : its.length ≤ 60) (hits : ∀ y ∈ its, Shelf.Okx y) (hlim : 0 ≤ lim ∧ lim ≤ 10000) (hnx : 1 ≤ nx ∧ nx ≤ 1000000000)
    (hkb : kb < w.heap.size) (hkc : ∀ i, i < ks.length → w.cell? ⟨kb, ko + i, none⟩ = some (.string (ks.getD i ByteArray.empty))) (hnow : 0 ≤ now ∧ now ≤ 1000000000) (hg : GoodCmd.gcB (Kind.kindN nm.toList) ks f x n dt q = true) :
    Calls Tryz.prog 54 #[.agg #[.int .i64 lim, .int .i64 nx, .slice (some ⟨b, 0, none⟩) its.length cap], .int .i64 now, .agg #[.string nm, .slice (some ⟨kb, ko, none⟩) ks.length kc, .int .i64 f, .int .i64 x, .int .i64 n, .string dt, .bool q]] w (DEnd (Shelf.ansO lim nx (keepB its now) now nm.toList ks f x n dt) lim w) := by
  obtain ⟨c1, c2, c3, c4, c5, c6, c7⟩ := Shelf.cmd_ok hg
  rcases kind_one hg (Kind.kindN_bd _) with h1 | h2 | h7
  · rw [ans_one h1]
    exact do_tell lim nx b cap B its now nm kb ko kc ks f x n dt q w hr hl hits hlim hnx hkb hkc c1 c2 h1
  · have h0 := c3 h2
    have hm : ks.getD 0 ByteArray.empty ∈ ks := by rw [List.getD_eq_getElem?_getD, List.getElem?_eq_getElem h0]; exact List.getElem_mem _
    exact do_write lim nx b cap B its now nm kb ko kc ks.length f x n dt q w hr hl hits hlim hnx (ks.getD 0 ByteArray.empty) hkb (hkc 0 h0) h0 (c2 _ hm) c4 hnow c6 ks rfl h2
  · rw [ans_seven h7]
    unfold Shelf.plainO
    rcases kind_seven h7 with h | h | h
    · rw [if_pos h]
      exact do_flush lim nx b cap B its now nm kb ko kc ks.length f x n dt q w hr hl hits hlim hnx h
    · rw [if_neg (by rw [h]; decide), if_pos h]
      exact do_version lim nx b cap B its now nm kb ko kc ks.length f x n dt q w hr hl hits hlim hnx h
    · rw [if_neg (by rw [h]; decide), if_neg (by rw [h]; decide)]
      exact do_quit lim nx b cap B its now nm kb ko kc ks.length f x n dt q w hr hl hits hlim hnx h
end Rw
end Go.Proofs.YtkdcofmpbmiloaaGreatDoor
/-
  The model's l2Answer: a quiet command is told nothing.
-/
namespace Go.Proofs.YtkdcofmpbmiloaaGreatDoor
namespace Rw
open Go.RowKit Base GoodKey Items Store Own
set_option linter.unusedVariables false

set_option maxRecDepth 10000 in
set_option maxHeartbeats 4000000 in
theorem l2Answer_any (lim nx : Int) (b cap B : Nat) (its : List Itm) (now : Int) (nm : ByteArray) (kb ko kc : Nat) (ks : List ByteArray) (f x n : Int) (dt : ByteArray) (q : Bool) (w : World)
    (hr : Row w B (.slice (some ⟨b, 0, none⟩) its.length cap) its) (hl : its.length ≤ 60) (hits : ∀ y ∈ its, Shelf.Okx y) (hlim : 0 ≤ lim ∧ lim ≤ 10000) (hnx : 1 ≤ nx ∧ nx ≤ 1000000000)
    (hkb : kb < w.heap.size) (hkc : ∀ i, i < ks.length → w.cell? ⟨kb, ko + i, none⟩ = some (.string (ks.getD i ByteArray.empty))) (hnow : 0 ≤ now ∧ now ≤ 1000000000) (hg : GoodCmd.gcB (Kind.kindN nm.toList) ks f x n dt q = true) (O : Shelf.Out) (hO : Shelf.ansO lim nx (keepB its now) now nm.toList ks f x n dt = O) :
    Calls Tryz.prog 23 #[.agg #[.int .i64 lim, .int .i64 nx, .slice (some ⟨b, 0, none⟩) its.length cap], .int .i64 now, .agg #[.string nm, .slice (some ⟨kb, ko, none⟩) ks.length kc, .int .i64 f, .int .i64 x, .int .i64 n, .string dt, .bool q]] w (DEnd ⟨O.its, O.nx, O.lost, if q = true then ⟨#[]⟩ else O.ans⟩ lim w) := by
  have HDO := hide (fun w' (hb : Below w.heap.size w w') => l2Do_any lim nx b cap B its now nm kb ko kc ks f x n dt q w' (hr.below hb (Nat.le_refl _)) hl hits hlim hnx (Nat.lt_of_lt_of_le hkb hb.size) (fun i hi => (hb.cell (p := ⟨kb, ko + i, none⟩) hkb).trans (hkc i hi)) hnow hg)
  rw [hO] at HDO
  clear hr hits hkc hg hnow hlim hnx hl hO
  obtain ⟨Oi, On, Ol, Oa⟩ := O
  dsimp only
  cases q
  · show Calls _ _ _ w (DEnd ⟨Oi, On, Ol, Oa⟩ lim w)
    go_enter Tryz.func23, Tryz.ntmps23
    go_wp2_with fail
    refine (unhide HDO _ (bel3 w _ _ _)).mono ?_
    rintro e w2 ⟨a2, c2, rfl, hr2, hb2⟩
    simp only [World.size_alloc] at hb2 hr2
    have X2 := hide ((bw_new w lim nx (.slice (some ⟨b, 0, none⟩) its.length cap) nm (.slice (some ⟨kb, ko, none⟩) ks.length kc) f x n dt _).below hb2 (by omega))
    have B2 := hide ((bel3 w _ _ _).trans (hb2.mono (by omega)))
    have R2 : Hid (Row w2 (w.heap.size + 3) (.slice a2 Oi.length c2) Oi) := hr2
    have z2 : w.heap.size + 3 ≤ w2.heap.size := (unhide X2).2.2.2.2.2
    have q1 : w.heap.size + 1 < w2.heap.size := by omega
    have q2 : w.heap.size + 1 + 1 < w2.heap.size := by omega
    clear hb2 hr2
    dsimp only
    obtain ⟨⟨a0, a1, a2'⟩, ⟨i0, i1, i2, i3, i4, i5, i6⟩, ⟨y0, y1, y2⟩, f0, f2, -⟩ := unhide X2
    go_wp2
    have rr := fun o => (bel1 (((w2.setCell ⟨w.heap.size + 1 + 1, 0, none⟩ (.int .i64 lim)).setCell ⟨w.heap.size + 1 + 1, 1, none⟩ (.int .i64 On)).setCell ⟨w.heap.size + 1 + 1, 2, none⟩ (.slice a2 Oi.length c2)) (.cells #[.int .i64 lim, .int .i64 On, .slice a2 Oi.length c2] 25)).cell (p := ⟨w.heap.size + 1 + 1, o, none⟩) (by simp; omega)
    refine bodyPost_ret (v := .tuple #[.agg #[.int .i64 lim, .int .i64 On, .slice a2 Oi.length c2], .string Oa, .int .i64 (Ol : Int)]) (by simp [results, Tryz.results23, go_sem, rr, y0, y1, y2]; done) rfl ⟨a2, c2, rfl, ?_, ?_⟩
    · refine Row.le (B := w.heap.size + 3) ?_ (by omega)
      repeat (first | (refine ownsRow_setCell_below ?_ (by first | (simp; done) | (simp; omega)) _) | (refine Row.below ?_ (bel1 _ _) (Nat.le_refl _)))
      exact unhide R2
    · repeat (first | (refine Below.setCell ?_ (by first | (simp; done) | (simp; omega)) _) | (refine Below.alloc ?_ (by first | omega | (simp; omega)) _))
      exact unhide B2
  · show Calls _ _ _ w (DEnd ⟨Oi, On, Ol, ⟨#[]⟩⟩ lim w)
    go_enter Tryz.func23, Tryz.ntmps23
    go_wp2_with fail
    refine (unhide HDO _ (bel3 w _ _ _)).mono ?_
    rintro e w2 ⟨a2, c2, rfl, hr2, hb2⟩
    simp only [World.size_alloc] at hb2 hr2
    have X2 := hide ((bw_new w lim nx (.slice (some ⟨b, 0, none⟩) its.length cap) nm (.slice (some ⟨kb, ko, none⟩) ks.length kc) f x n dt _).below hb2 (by omega))
    have B2 := hide ((bel3 w _ _ _).trans (hb2.mono (by omega)))
    have R2 : Hid (Row w2 (w.heap.size + 3) (.slice a2 Oi.length c2) Oi) := hr2
    have z2 : w.heap.size + 3 ≤ w2.heap.size := (unhide X2).2.2.2.2.2
    have q1 : w.heap.size + 1 < w2.heap.size := by omega
    have q2 : w.heap.size + 1 + 1 < w2.heap.size := by omega
    clear hb2 hr2
    dsimp only
    obtain ⟨⟨a0, a1, a2'⟩, ⟨i0, i1, i2, i3, i4, i5, i6⟩, ⟨y0, y1, y2⟩, f0, f2, -⟩ := unhide X2
    go_wp2
    have rr := fun o => (bel1 (((w2.setCell ⟨w.heap.size + 1 + 1, 0, none⟩ (.int .i64 lim)).setCell ⟨w.heap.size + 1 + 1, 1, none⟩ (.int .i64 On)).setCell ⟨w.heap.size + 1 + 1, 2, none⟩ (.slice a2 Oi.length c2)) (.cells #[.int .i64 lim, .int .i64 On, .slice a2 Oi.length c2] 25)).cell (p := ⟨w.heap.size + 1 + 1, o, none⟩) (by simp; omega)
    refine bodyPost_ret (v := .tuple #[.agg #[.int .i64 lim, .int .i64 On, .slice a2 Oi.length c2], .string ⟨#[]⟩, .int .i64 (Ol : Int)]) (by simp [results, Tryz.results23, go_sem, rr, y0, y1, y2]; done) rfl ⟨a2, c2, rfl, ?_, ?_⟩
    · refine Row.le (B := w.heap.size + 3) ?_ (by omega)
      repeat (first | (refine ownsRow_setCell_below ?_ (by first | (simp; done) | (simp; omega)) _) | (refine Row.below ?_ (bel1 _ _) (Nat.le_refl _)))
      exact unhide R2
    · repeat (first | (refine Below.setCell ?_ (by first | (simp; done) | (simp; omega)) _) | (refine Below.alloc ?_ (by first | omega | (simp; omega)) _))
      exact unhide B2
end Rw
end Go.Proofs.YtkdcofmpbmiloaaGreatDoor
