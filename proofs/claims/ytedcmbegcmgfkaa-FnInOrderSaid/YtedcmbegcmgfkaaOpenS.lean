/-
  The model's l5Open: one slot more, in a row of the call's own.
-/
import Derived.Test.YtedcmbegcmgfkaaSlotR
import Derived.Deep.DeepCutAuto
namespace Go.Proofs.Ytedcmbegcmgfkaa
namespace Sess
open Go.RowKit Base Slots Marks OwnR SlotsW
set_option linter.unusedVariables false

theorem two_new (W : World) (a o : Obj) : ((W.alloc a).alloc o).heap[W.heap.size + 1]? = some o := by
  have h := heap_alloc_new (W.alloc a) o
  rw [World.size_alloc] at h
  exact h
theorem two_old (W : World) (o b : Obj) : ((W.alloc o).alloc b).heap[W.heap.size]? = some o :=
  ((bel1 (W.alloc o) b).block W.heap.size (by simp)).trans (heap_alloc_new W o)

set_option maxRecDepth 10000 in
set_option maxHeartbeats 4000000 in
theorem l5Open_any (nx : Int) (a : Option Addr) (n cap : Nat) (l : List D) (w : World) (hs : Src w a n cap l) (hl : l.length ≤ 100) (h0 : 0 ≤ nx) (h1 : nx ≤ 1000000) :
    Calls Try.prog 16 #[.agg #[.int .i64 nx, .slice a n cap]] w fun e w' =>
      ∃ g c, e = .returned (.tuple #[.agg #[.int .i64 (nx + 1), .slice (some ⟨g, 0, none⟩) (n + 1) c], .int .i64 nx]) ∧ OwnV w' w.heap.size (.slice (some ⟨g, 0, none⟩) (n + 1) c) (l ++ [⟨nx, false, ByteArray.empty⟩]) ∧ Below w.heap.size w w' := by
  obtain ⟨W, hW⟩ : ∃ W, W = (w.alloc (.cells #[.int .i64 nx, .slice a n cap] 52)).alloc (.cells #[.int .i64 0, .slice none 0 0] 52) := ⟨_, rfl⟩
  have hBW : Below w.heap.size w W := by rw [hW]; exact bel2 w _ _
  have hzW : w.heap.size + 2 ≤ W.heap.size := by rw [hW]; simp
  have hX : Bx W w.heap.size nx (.slice a n cap) := by rw [hW]; exact (bx_new w nx _).below (bel1 _ _) (by simp)
  have hY : Bx W (w.heap.size + 1) 0 (.slice none 0 0) := by
    rw [hW]
    have := bx_new (w.alloc (.cells #[.int .i64 nx, .slice a n cap] 52)) 0 (.slice none 0 0)
    rw [World.size_alloc] at this
    exact this
  have hn := hs.len
  have hn100 : n ≤ 100 := by omega
  have HN : Hid (n = ([] ++ l : List D).length) := by show n = ([] ++ l : List D).length; simp; omega
  clear hn
  have hS := hs.below hBW (Nat.le_refl _)
  have E1 : Hid (OwnV (W.alloc (.cells #[] 41)) W.heap.size (.slice (some ⟨W.heap.size, 0, none⟩) 0 0) []) := row_empty W (Nat.le_refl _)
  have E2 : Hid (OwnV ((W.alloc (.cells #[] 41)).alloc (.cells #[.int .i64 nx, .bool false, .string ByteArray.empty] 41)) W.heap.size (.slice (some ⟨W.heap.size, 0, none⟩) 0 0) []) := (unhide E1).below (bel1 _ _) (Nat.le_refl _)
  have E3 : Hid (OwnV ((W.alloc (.cells #[.int .i64 nx, .bool false, .string ByteArray.empty] 41)).alloc (.cells #[] 41)) W.heap.size (.slice (some ⟨W.heap.size + 1, 0, none⟩) 0 0) []) := by
    have := row_empty (W.alloc (.cells #[.int .i64 nx, .bool false, .string ByteArray.empty] 41)) (B := W.heap.size) (by simp)
    rw [World.size_alloc] at this
    exact this
  have S1 : Hid (∀ o, Src (W.alloc o) a n cap l) := fun o => hS.below (bel1 W o) (Nat.le_refl _)
  have S2 : Hid (∀ o p, Src ((W.alloc o).alloc p) a n cap l) := fun o p => hS.below (bel2 W o p) (Nat.le_refl _)
  have b1 : Hid (∀ o, Below W.heap.size W (W.alloc o)) := fun o => bel1 W o
  have b2 : Hid (∀ o p, Below W.heap.size W ((W.alloc o).alloc p)) := fun o p => bel2 W o p
  have HBW := hide hBW
  have HX := hide hX
  have HY := hide hY
  have HWE := hide hW
  obtain ⟨x0, x1, xf, xz⟩ := hX
  clear hs hS hBW hY hW
  go_enter Try.func16, Try.ntmps16
  go_wp2
  rw [← unhide HWE]
  clear HWE
  go_cut [12] (fun s12 wx => ∃ g c, s12 = .slice (some ⟨g, 0, none⟩) (n + 1) c ∧ Hid (OwnV wx W.heap.size (.slice (some ⟨g, 0, none⟩) (n + 1) c) (l ++ [⟨nx, false, ByteArray.empty⟩])) ∧ Hid (Bx wx w.heap.size nx (.slice (some ⟨g, 0, none⟩) (n + 1) c)) ∧ Hid (Bx wx (w.heap.size + 1) 0 (.slice none 0 0)) ∧ Hid (Below w.heap.size w wx))
  case first =>
    go_region_law (first
      | (refine step_src _ (by rfl) (.tmp 7) (.tmp 11) (by rfl) W.heap.size g1 cap1 n ([] ++ l) (by rfl) (unhide HR1) (unhide HN) _ 1 1 [⟨nx, false, ByteArray.empty⟩] (by rfl) (src_one (unhide HXB)) (n + 1) (by omega) (by omega) (unhide HB1).size ?_; intro g2 cap2 w2 hrow2 hg2; have HB2 := hide ((unhide HB1).grown hg2 (unhide HB1).size (fun k e => by have := (unhide HR1).lt.2; simp at e; omega)); have HR2 := hide hrow2; clear hrow2 hg2; obtain ⟨x20, x21, x2f, x2z⟩ := (unhide HX).below (unhide HB2) xz)
      | (refine step_src _ (by rfl) (.tmp 7) (.tmp 11) (by rfl) W.heap.size g1 cap1 n ([] ++ l) (by rfl) ((unhide HR1).below (bel1 w1 _) (Nat.le_refl _)) (unhide HN) _ 1 1 [⟨nx, false, ByteArray.empty⟩] (by rfl) (src_one (heap_alloc_new w1 _)) (n + 1) (by omega) (by omega) (by have := (unhide HB1).size; simp; omega) ?_; intro g2 cap2 w2 hrow2 hg2; have HB2 := hide (((unhide HB1).alloc (unhide HB1).size _).grown hg2 (by have := (unhide HB1).size; simp; omega) (fun k e => by have := (unhide HR1).lt.2; simp at e; omega)); have HR2 := hide hrow2; clear hrow2 hg2; obtain ⟨x20, x21, x2f, x2z⟩ := (unhide HX).below (unhide HB2) xz)
      | (refine step_src _ (by rfl) (.tmp 4) (.tmp 6) (by rfl) W.heap.size W.heap.size 0 0 [] (by rfl) (unhide E1) rfl a n cap l (by rfl) (unhide S1 _) n (by omega) (by omega) (by simp) ?_; intro g1 cap1 w1 hrow1 hg1; have HR1 := hide hrow1; have HB1 := hide ((unhide b1 _).drew.grown hg1 (by simp) (fun k e => by simp at e; omega)); obtain ⟨x10, x11, x1f, x1z⟩ := (unhide HX).below (unhide HB1) xz; clear hrow1 hg1)
      | (refine step_src _ (by rfl) (.tmp 4) (.tmp 6) (by rfl) W.heap.size W.heap.size 0 0 [] (by rfl) (unhide E2) rfl a n cap l (by rfl) (unhide S2 _ _) n (by omega) (by omega) (by simp; omega) ?_; intro g1 cap1 w1 hrow1 hg1; have HR1 := hide hrow1; have HB1 := hide ((unhide b2 _ _).drew.grown hg1 (by simp; omega) (fun k e => by simp at e; omega)); have HXB := hide ((hg1.block (W.heap.size + 1) (by simp) (by simp)).trans (two_new W _ _)); obtain ⟨x10, x11, x1f, x1z⟩ := (unhide HX).below (unhide HB1) xz; clear hrow1 hg1)
      | (refine step_src _ (by rfl) (.tmp 4) (.tmp 6) (by rfl) W.heap.size (W.heap.size + 1) 0 0 [] (by rfl) (unhide E3) rfl a n cap l (by rfl) (unhide S2 _ _) n (by omega) (by omega) (by simp; omega) ?_; intro g1 cap1 w1 hrow1 hg1; have HR1 := hide hrow1; have HB1 := hide ((unhide b2 _ _).drew.grown hg1 (by simp; omega) (fun k e => by simp at e; omega)); have HXB := hide ((hg1.block W.heap.size (by simp; omega) (by simp)).trans (two_old W _ _)); obtain ⟨x10, x11, x1f, x1z⟩ := (unhide HX).below (unhide HB1) xz; clear hrow1 hg1))
    all_goals
      go_wp2_with fail
      go_meet
      refine ⟨g2, cap2, rfl, hide (OwnV.set (unhide HR2) (p := ⟨w.heap.size, 1, none⟩) (show w.heap.size < W.heap.size by omega) _), hide (Bx.set1 ((unhide HX).below (unhide HB2) xz) _), hide (Bx.other ((unhide HY).below (unhide HB2) (by omega)) (p := ⟨w.heap.size, 1, none⟩) (by simp) _), hide (((unhide HBW).trans ((unhide HB2).mono (by omega))).setCell (p := ⟨w.heap.size, 1, none⟩) (Nat.le_refl _) _)⟩
  case rest =>
  obtain ⟨g2, cap2, rfl, O2, X2, Y2, B2⟩ := hcut
  clear x0 x1 xf xz HX HY E1 E2 E3 S1 S2 b1 b2 HBW
  have X3 := hide ((unhide X2).set0 (nx + 1))
  have Y3 := hide ((unhide Y2).other (p := ⟨w.heap.size, 0, none⟩) (by simp) (.int .i64 (nx + 1)))
  have O3 := hide (OwnV.set (unhide O2) (p := ⟨w.heap.size, 0, none⟩) (show w.heap.size < W.heap.size by omega) (.int .i64 (nx + 1)))
  have B3 := hide ((unhide B2).setCell (p := ⟨w.heap.size, 0, none⟩) (Nat.le_refl _) (.int .i64 (nx + 1)))
  obtain ⟨x0, x1, xf, xz⟩ := unhide X2
  go_upto_region 3 with fail
  generalize wc.setCell ⟨w.heap.size, 0, none⟩ (.int .i64 (nx + 1)) = w3 at X3 Y3 O3 B3 ⊢
  clear x0 x1 xf xz X2 Y2 O2 B2
  obtain ⟨x0, x1, xf, xz⟩ := unhide X3
  obtain ⟨y0, y1, yf, yz⟩ := unhide Y3
  have hwn : IntKind.i64.wrap (nx + 1 - 1) = nx := by rw [IntKind.wrap_i64]; omega
  go_region
  all_goals
    go_wp2
    refine bodyPost_ret (v := .tuple #[.agg #[.int .i64 (nx + 1), .slice (some ⟨g2, 0, none⟩) (n + 1) cap2], .int .i64 nx]) (by simp [results, Try.results16, go_sem, y0, y1]) rfl ⟨g2, cap2, rfl, ?_, ?_⟩
    · refine OwnV.le (B := W.heap.size) ?_ (by omega)
      repeat (first | refine OwnV.set ?_ (by first | (simp; done) | (simp; omega)) _ | refine OwnV.below ?_ (Below.refl _ _).drew (Nat.le_refl _))
      exact unhide O3
    · repeat (first | refine Below.setCell ?_ (by first | (simp; done) | (simp; omega)) _ | refine Below.drew ?_)
      exact unhide B3
end Sess
end Go.Proofs.Ytedcmbegcmgfkaa
