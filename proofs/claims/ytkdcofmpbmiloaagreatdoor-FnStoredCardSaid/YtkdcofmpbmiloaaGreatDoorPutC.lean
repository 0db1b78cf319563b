/-
  The model's l2Put where it stores.
-/
import Derived.Test.YtkdcofmpbmiloaaGreatDoorY6
import Derived.Deep.DeepCutAuto
namespace Go.Proofs.YtkdcofmpbmiloaaGreatDoor
namespace Rw
open Go.RowKit Base GoodKey Items Store Own
set_option linter.unusedVariables false

theorem bx_new (w : World) (lim nx : Int) (v : Value) (x : Itm) : Bx (((w.alloc (.cells #[.int .i64 lim, .int .i64 nx, v] 25)).alloc (.cells #[.string x.key, .int .i64 x.flags, .string x.data, .int .i64 x.upto, .int .i64 x.token] 37)).alloc (.cells #[.int .i64 0, .int .i64 0, .slice none 0 0] 25)) w.heap.size lim nx v x := by
  refine ⟨⟨?_, ?_, ?_⟩, ⟨?_, ?_, ?_, ?_, ?_⟩, ⟨?_, ?_, ?_⟩, ?_, by simp⟩
  all_goals try go_simp
  intro b o h1 h2
  obtain rfl | rfl | rfl : b = w.heap.size ∨ b = w.heap.size + 1 ∨ b = w.heap.size + 1 + 1 := by omega
  all_goals go_simp

/-- Ahead of a round of the loop: the items that are left, in a row of the call's own, in the store's box. -/
def Mid (w : World) (lim nx : Int) (y : Itm) (D : List Itm) (n g cap : Nat) (wr : World) : Prop :=
  Row wr (w.heap.size + 3) (.slice (some ⟨g, 0, none⟩) n cap) D ∧ n = D.length ∧ Bx wr w.heap.size lim nx (.slice (some ⟨g, 0, none⟩) n cap) y ∧ Below w.heap.size w wr
theorem l2All_n (lim nx : Int) (b n cap : Nat) (its : List Itm) (w : World) (B : Nat) (hn : n = its.length) (hr : Row w B (.slice (some ⟨b, 0, none⟩) n cap) its) (hl : n ≤ 1000) (hs : ∀ x ∈ its, Small x) :
    Calls Tryz.prog 51 #[.agg #[.int .i64 lim, .int .i64 nx, .slice (some ⟨b, 0, none⟩) n cap]] w fun e w' => e = .returned (.int .i64 (total its)) ∧ Below w.heap.size w w' := by
  subst hn
  exact l2All_some lim nx b 0 cap its w hr.lt.1 (hr.at rfl) (by omega) hs
theorem l2Without_n (lim nx : Int) (b n cap B : Nat) (its : List Itm) (k : Nat) (w : World) (hn : n = its.length) (hr : Row w B (.slice (some ⟨b, 0, none⟩) n cap) its) (hk : k < its.length) (hl : its.length ≤ 100) :
    Calls Tryz.prog 85 #[.agg #[.int .i64 lim, .int .i64 nx, .slice (some ⟨b, 0, none⟩) n cap], .int .i64 (k : Int)] w fun e w' =>
      ∃ g cap', e = .returned (.slice (some ⟨g, 0, none⟩) (its.eraseIdx k).length cap') ∧ Row w' w.heap.size (.slice (some ⟨g, 0, none⟩) (its.eraseIdx k).length cap') (its.eraseIdx k) ∧ Below w.heap.size w w' := by
  subst hn
  exact l2Without_row lim nx b cap B its k w hr hk hl

set_option maxRecDepth 10000 in
set_option maxHeartbeats 16000000 in
theorem l2Put_keep (lim nx : Int) (a : Option Addr) (n cap B : Nat) (its : List Itm) (x : Itm) (w : World) (hr : Row w B (.slice a n cap) its) (hn : n = its.length) (hx : Small x) (hits : ∀ y ∈ its, Small y) (hl : its.length ≤ 60) (h1 : ¬ lim < charge x) (h2 : ¬ nx = 1000000000) (hlim : 0 ≤ lim ∧ lim ≤ 10000) (hnx : 1 ≤ nx ∧ nx ≤ 1000000000) :
    Calls Tryz.prog 88 #[.agg #[.int .i64 lim, .int .i64 nx, .slice a n cap], .agg #[.string x.key, .int .i64 x.flags, .string x.data, .int .i64 x.upto, .int .i64 x.token]] w fun e w' =>
      ∃ g cap', e = .returned (.tuple #[.agg #[.int .i64 lim, .int .i64 (nx + 1), .slice (some ⟨g, 0, none⟩) ((without its x.key ++ [{ x with token := nx }]).drop (trimN lim (without its x.key ++ [{ x with token := nx }]))).length cap'], .string Shelf.storedT, .int .i64 (trimN lim (without its x.key ++ [{ x with token := nx }]) : Int)]) ∧
        Row w' w.heap.size (.slice (some ⟨g, 0, none⟩) ((without its x.key ++ [{ x with token := nx }]).drop (trimN lim (without its x.key ++ [{ x with token := nx }]))).length cap') ((without its x.key ++ [{ x with token := nx }]).drop (trimN lim (without its x.key ++ [{ x with token := nx }]))) ∧ Below w.heap.size w w' := by
  have hmix : Tryz.prog.follows .mixedOrders = true := by kernel_rfl
  have hcc := fun w' => l2Charge_any x w' hx
  generalize charge x = ch at hcc h1
  have hcase : (atI its x.key = -1 ∧ without its x.key = its) ∨ ∃ k : Nat, k < its.length ∧ atI its x.key = k ∧ without its x.key = its.eraseIdx k := by
    cases eat : atN its x.key with
    | none => exact .inl ⟨by unfold atI; rw [eat], by unfold without; rw [eat]⟩
    | some k => exact .inr ⟨k, atN_lt eat, by unfold atI; rw [eat], by unfold without; rw [eat]⟩
  generalize without its x.key = r at hcase ⊢
  generalize hRR : r ++ [{ x with token := nx }] = R
  have HRR := hide hRR
  have HCASE := hide hcase
  clear hRR hcase
  obtain ⟨W, hW⟩ : ∃ W, W = (((w.alloc (.cells #[.int .i64 lim, .int .i64 nx, .slice a n cap] 25)).alloc (.cells #[.string x.key, .int .i64 x.flags, .string x.data, .int .i64 x.upto, .int .i64 x.token] 37)).alloc (.cells #[.int .i64 0, .int .i64 0, .slice none 0 0] 25)) := ⟨_, rfl⟩
  have cC := fun d os => Calls.regrown_of (hcc (Go.Sort.grow (redrawn W d) os))
  have hBW : Below w.heap.size w W := by rw [hW]; exact bel3 w _ _ _
  have hzW : W.heap.size = w.heap.size + 1 + 1 + 1 := by rw [hW]; simp
  have hbx : Bx W w.heap.size lim nx (.slice a n cap) x := by rw [hW]; exact bx_new w lim nx _ x
  have hap : Apart w.heap.size a := fun b e => by subst e; exact .inl hr.lt.1
  have HAT := hide (fun w' (h : Row w' B (.slice a n cap) its) => l2At_row lim nx (.slice a n cap) B its x.key w' h (by unfold maxLen; omega))
  have HWO := hide (fun k (hk : k < its.length) b w' (h : Row w' B (.slice (some ⟨b, 0, none⟩) n cap) its) => l2Without_n lim nx b n cap B its k w' hn h hk (by omega))
  have HW := hide hW
  have HR := hide hr
  have HX := hide hbx
  have hd2 : decide (nx = 1000000000) = false := decide_eq_false h2
  have hd1 : decide (lim < ch) = false := decide_eq_false h1
  have hd3 : (nx == 1000000000) = false := by simp [h2]
  have HSM := hide hits
  have HHX := hide hx
  obtain ⟨⟨a0, a1, a2⟩, ⟨b0, b1, b2, b3, b4⟩, ⟨r0, r1, r2⟩, fz, _⟩ := hbx
  have p0 := cell_regrown a0
  have p1 := cell_regrown a1
  have q0 := cell_regrown b0
  have q1 := cell_regrown b1
  have q2 := cell_regrown b2
  have q3 := cell_regrown b3
  have q4 := cell_regrown b4
  have HN := hide hn
  have hn60 : n ≤ 60 := by omega
  clear hcc hW hr hits hx r0 r1 r2 fz hn
  go_enter Tryz.func88, Tryz.ntmps88
  go_wp2_with fail
  rw [← unhide HW]
  refine wp_region_quiet_below hmix (by kernel_rfl) ?_
  repeat (quiet_step (exact cC _ _))
  refine wpQuiet_nil ?_
  intro _ hw'
  obtain ⟨⟨dq, osq⟩, hw''⟩ := hw'
  subst hw''
  have hbq := below_regrown W dq osq
  generalize (Go.Sort.grow (redrawn W dq) osq) = wc at hbq ⊢
  have HXc := hide ((unhide HX).below hbq (by omega))
  have HRc := hide ((unhide HR).below (hBW.trans (hbq.mono (by omega))) (Nat.le_refl _))
  have HBc := hide (hBW.trans (hbq.mono (show w.heap.size ≤ W.heap.size by omega)))
  clear p0 p1 q0 q1 q2 q3 q4 cC a0 a1 a2 b0 b1 b2 b3 b4 HW hBW hbq HX
  obtain ⟨⟨a0, a1, a2⟩, ⟨b0, b1, b2, b3, b4⟩, ⟨r0, r1, r2⟩, fz, hzc⟩ := unhide HXc
  go_wp2_with fail
  refine (unhide HAT _ (unhide HRc)).mono ?_
  rintro e w1 ⟨rfl, hb1⟩
  have HX1 := hide ((unhide HXc).below hb1 hzc)
  have HR1 := hide ((unhide HRc).below hb1 (Nat.le_refl _))
  have HB1 := hide ((unhide HBc).trans (hb1.mono (by omega)))
  have hz1 : w.heap.size + 3 ≤ w1.heap.size := by have := hb1.size; omega
  clear hb1 a0 a1 a2 b0 b1 b2 b3 b4 r0 r1 r2 fz HXc HRc HBc
  obtain ⟨⟨a0, a1, a2⟩, ⟨b0, b1, b2, b3, b4⟩, ⟨r0, r1, r2⟩, fz, _⟩ := unhide HX1
  have sf := fun o => fz w.heap.size o (by omega) (by omega)
  have tf := fun o => fz (w.heap.size + 1) o (by omega) (by omega)
  have hwn : IntKind.i64.wrap (nx + 1) = nx + 1 := by rw [IntKind.wrap_i64]; omega
  rcases unhide HCASE with ⟨ei, er⟩ | ⟨k, hk, ei, er⟩
  case' inr =>
    rw [ei]
    have HER := hide er
    clear ei er
    obtain ⟨b, cap', hv⟩ := (unhide HR1).has (by omega)
    simp only [Value.slice.injEq] at hv
    obtain ⟨rfl, hv2, rfl⟩ := hv
    clear hv2
    have c1 := unhide HWO k hk b
    rw [← unhide HER] at c1
    have HW1 := hide c1
    have hrl : r.length ≤ 60 := by rw [unhide HER]; exact Nat.le_trans (List.length_eraseIdx_le _ _) hl
    clear c1
    go_wp2_with fail
    refine (unhide HW1 _ (unhide HR1)).mono ?_
    rintro e w2 ⟨g, cap8, rfl, hr2, hb2⟩
    have hg2 : w.heap.size + 3 ≤ g := by have := hr2.lt.2.1; omega
    have HX2 := hide ((unhide HX1).below hb2 hz1)
    have HR2 := hide hr2
    have HB2 := hide ((unhide HB1).trans (hb2.mono (by omega)))
    clear hr2 hb2 a0 a1 a2 b0 b1 b2 b3 b4 r0 r1 r2 fz sf tf HX1 HR1 HB1
    obtain ⟨⟨a0, a1, a2⟩, ⟨b0, b1, b2, b3, b4⟩, ⟨r0, r1, r2⟩, fz, hz2⟩ := unhide HX2
    have sf := fun o => fz w.heap.size o (by omega) (by omega)
    have tf := fun o => fz (w.heap.size + 1) o (by omega) (by omega)
    have hap8 : Apart w.heap.size (some ⟨g, 0, none⟩) := fun b e => by simp at e; omega
    go_wp2_with fail
    have HX8 := hide ((((unhide HX2).setS (.slice (some ⟨g, 0, none⟩) r.length cap8)).setT nx).setN (nx + 1))
    have HR8 := hide ((((unhide HR2).set (b := w.heap.size) (o := 2) hap8 (by omega) (.slice (some ⟨g, 0, none⟩) r.length cap8)).set (b := w.heap.size + 1) (o := 4) hap8 (by omega) (.int .i64 nx)).set (b := w.heap.size) (o := 1) hap8 (by omega) (.int .i64 (nx + 1)))
    have HB8 : Hid (Below w.heap.size w (((w2.setCell ⟨w.heap.size, 2, none⟩ (.slice (some ⟨g, 0, none⟩) r.length cap8)).setCell ⟨w.heap.size + 1, 4, none⟩ (.int .i64 nx)).setCell ⟨w.heap.size, 1, none⟩ (.int .i64 (nx + 1)))) := by
      show Below _ _ _
      repeat (refine Below.setCell ?_ (by first | (simp; done) | (simp; omega)) _)
      exact unhide HB2
    clear a0 a1 a2 b0 b1 b2 b3 b4 r0 r1 r2 fz sf tf HX2 HR2 HB2 HW1 HWO HAT HR
    generalize (((w2.setCell ⟨w.heap.size, 2, none⟩ (.slice (some ⟨g, 0, none⟩) r.length cap8)).setCell ⟨w.heap.size + 1, 4, none⟩ (.int .i64 nx)).setCell ⟨w.heap.size, 1, none⟩ (.int .i64 (nx + 1))) = wv at HX8 HR8 HB8 ⊢
    generalize (some (⟨g, 0, none⟩ : Addr)) = a8 at HX8 HR8 hap8 ⊢
    generalize w1.heap.size = B8 at HR8
    generalize hn8 : r.length = n8 at HX8 HR8 hrl ⊢
    have HN8 : Hid (n8 = r.length) := hn8.symm
    have hn8' : n8 ≤ 60 := hrl
    have HSR : Hid (∀ y ∈ r, Small y) := fun y hy => unhide HSM y (List.eraseIdx_subset (by rw [unhide HER] at hy; exact hy))
    clear hn8 hrl HSM HER HN hap
  case' inl =>
    rw [ei]
    have HER := hide er
    clear ei er
    go_wp2_with fail
    have HX8 := hide (((unhide HX1).setT nx).setN (nx + 1))
    have HR8 := hide (((unhide HR1).set (b := w.heap.size + 1) (o := 4) hap (by omega) (.int .i64 nx)).set (b := w.heap.size) (o := 1) hap (by omega) (.int .i64 (nx + 1)))
    have HB8 : Hid (Below w.heap.size w ((w1.setCell ⟨w.heap.size + 1, 4, none⟩ (.int .i64 nx)).setCell ⟨w.heap.size, 1, none⟩ (.int .i64 (nx + 1)))) := by
      show Below _ _ _
      repeat (refine Below.setCell ?_ (by first | (simp; done) | (simp; omega)) _)
      exact unhide HB1
    rw [← unhide HER] at HR8
    have HN8 : Hid (n = r.length) := by show n = r.length; rw [unhide HER]; exact unhide HN
    have hn8' : n ≤ 60 := hn60
    have HSR : Hid (∀ y ∈ r, Small y) := fun y hy => unhide HSM y (by rw [unhide HER] at hy; exact hy)
    clear a0 a1 a2 b0 b1 b2 b3 b4 r0 r1 r2 fz sf tf HX1 HR1 HB1 HWO HAT HR HSM HER HN hn60
    generalize ((w1.setCell ⟨w.heap.size + 1, 4, none⟩ (.int .i64 nx)).setCell ⟨w.heap.size, 1, none⟩ (.int .i64 (nx + 1))) = wv at HX8 HR8 HB8 ⊢
    have hap8 := hap
    generalize a = a8 at HX8 HR8 hap8 ⊢
    generalize n = n8 at HX8 HR8 HN8 hn8' ⊢
    generalize cap = cap8 at HX8 HR8 ⊢
    generalize B = B8 at HR8
  all_goals
    have HHY : Hid (Small { x with token := nx }) := unhide HHX
    generalize ({ x with token := nx } : Itm) = y at HRR HX8 HHY
    obtain ⟨⟨a0, a1, a2⟩, ⟨b0, b1, b2, b3, b4⟩, ⟨r0, r1, r2⟩, fz, hz8⟩ := unhide HX8
    have sf := fun o => fz w.heap.size o (by omega) (by omega)
    have hnr := unhide HN8
    have HR9 := hide (fun w' (hb : Below wv.heap.size wv w') => ((unhide HR8).below hb (Nat.le_refl _)).src)
    have HX9 := hide (fun w' (hb : Below wv.heap.size wv w') => (unhide HX8).below hb hz8)
    have hl0 : w.heap.size < wv.heap.size := by omega
    have hl1 : w.heap.size + 1 < wv.heap.size := by omega
    have hm0 : w.heap.size < wv.heap.size + 1 := by omega
    have hm1 : w.heap.size + 1 < wv.heap.size + 1 := by omega
    clear hnr HHX HCASE
    go_cut [43] (fun s43 wx => ∃ (g cap : Nat), Hid (Mid w lim (nx + 1) y R (n8 + 1) g cap wx))
    case first =>
     go_region_law (first
      | (refine step_src _ (by rfl) (.tmp 37) (.tmp 39) (by rfl) wv.heap.size wv.heap.size 0 0 [] (by rfl) (row_empty wv (Nat.le_refl _)).drew rfl a8 n8 cap8 r (by rfl) (unhide HR9 _ (bel1 wv _).drew) n8 (Nat.zero_add _) (by omega) (by simp) ?_; intro g1 cap1 w4 hrow4 hg4; have HB4 := hide ((bel1 wv _).drew.grown hg4 (by simp) (fun k e => by simp at e; omega)); obtain ⟨e0, e1, e2, e3, e4⟩ := (unhide HX9 _ (unhide HB4)).2.1; have y40 : w.heap.size < w4.heap.size := by { have := hg4.size; simp at this; omega }; have z4 : wv.heap.size < w4.heap.size := by { have := hg4.size; simp at this; omega }; have HROW4 := hide hrow4; clear hg4 hrow4)
      | (refine step_src _ (by rfl) (.tmp 37) (.tmp 39) (by rfl) wv.heap.size wv.heap.size 0 0 [] (by rfl) ((row_empty wv (Nat.le_refl _)).below (bel1 _ _) (Nat.le_refl _)).drew rfl a8 n8 cap8 r (by rfl) (unhide HR9 _ (bel2 wv _ _).drew) n8 (Nat.zero_add _) (by omega) (by simp; omega) ?_; intro g1 cap1 w4 hrow4 hg4; have HB4 := hide ((bel2 wv _ _).drew.grown hg4 (by simp; omega) (fun k e => by simp at e; omega)); have HI4 := hide ((hg4.block (wv.heap.size + 1) (by simp) (by simp)).trans (new2 wv _ _)); have y40 : w.heap.size < w4.heap.size := by { have := hg4.size; simp at this; omega }; have z4 : wv.heap.size < w4.heap.size := by { have := hg4.size; simp at this; omega }; have HROW4 := hide hrow4; clear hg4 hrow4)
      | (refine step_src _ (by rfl) (.tmp 37) (.tmp 39) (by rfl) wv.heap.size (wv.heap.size + 1) 0 0 [] (by rfl) ((row_empty1 wv _).le (by omega)).drew rfl a8 n8 cap8 r (by rfl) (unhide HR9 _ (bel2 wv _ _).drew) n8 (Nat.zero_add _) (by omega) (by simp; omega) ?_; intro g1 cap1 w4 hrow4 hg4; have HB4 := hide ((bel2 wv _ _).drew.grown hg4 (by simp; omega) (fun k e => by simp at e; omega)); have HI4 := hide ((hg4.block wv.heap.size (by simp; omega) (by simp)).trans (new2' wv _ _)); have y40 : w.heap.size < w4.heap.size := by { have := hg4.size; simp at this; omega }; have z4 : wv.heap.size < w4.heap.size := by { have := hg4.size; simp at this; omega }; have HROW4 := hide hrow4; clear hg4 hrow4)
      | (refine step_items _ (by rfl) (.tmp 40) (.tmp 42) (by rfl) wv.heap.size g1 cap1 n8 r (by rfl) (unhide HROW4) (unhide HN8) _ 1 1 [y] (by rfl) rfl (news1 (unhide HI4)) (n8 + 1) rfl (by omega) (by omega) ?_; intro g2 cap2 w5 hrow5 hg5; have hg1 := (unhide HROW4).lt.2.1; have HB5 := hide ((unhide HB4).grown hg5 (by omega) (fun k e => by simp at e; omega)); obtain ⟨f0, f1, f2⟩ := (unhide HX9 _ (unhide HB5)).1; have sf5 := fun o => (unhide HX9 _ (unhide HB5)).2.2.2.1 w.heap.size o (by omega) (by omega); have HROW5 := hide hrow5; clear hg5 hrow5)
      | (refine step_items _ (by rfl) (.tmp 40) (.tmp 42) (by rfl) wv.heap.size g1 cap1 n8 r (by rfl) ((unhide HROW4).below (bel1 w4 _) (Nat.le_refl _)) (unhide HN8) _ 1 1 [y] (by rfl) rfl (news1 (heap_alloc_new w4 _)) (n8 + 1) rfl (by omega) (by simp; omega) ?_; intro g2 cap2 w5 hrow5 hg5; have hg1 := (unhide HROW4).lt.2.1; have HB5 := hide (((unhide HB4).alloc (by omega) _).grown hg5 (by simp; omega) (fun k e => by simp at e; omega)); obtain ⟨f0, f1, f2⟩ := (unhide HX9 _ (unhide HB5)).1; have sf5 := fun o => (unhide HX9 _ (unhide HB5)).2.2.2.1 w.heap.size o (by omega) (by omega); have HROW5 := hide hrow5; clear hg5 hrow5))
     all_goals
       have hap5 : Apart w.heap.size (some ⟨g2, 0, none⟩) := fun b e => by have := (unhide HROW5).lt.2.1; simp at e; omega
       go_wp2_with fail
       go_meet
       refine ⟨g2, cap2, hide ⟨?_, ?_, (unhide HX9 _ (unhide HB5)).setS _, ?_⟩⟩
       · rw [← unhide HRR]
         exact Row.set (b := w.heap.size) (o := 2) ((unhide HROW5).le hz8) hap5 (by omega) _
       · rw [← unhide HRR, List.length_append, ← unhide HN8]
         rfl
       · exact Below.setCell ((unhide HB8).trans ((unhide HB5).mono (by omega))) (Nat.le_refl _) _
    case rest =>
     obtain ⟨g, cc, hmid⟩ := hcut
     clear a0 a1 a2 b0 b1 b2 b3 b4 r0 r1 r2 fz sf HR9 HX9 HX8 HR8 HB8 hl0 hl1 hm0 hm1
     go_wp2_with fail
     have HSR2 : Hid (∀ z ∈ R, Small z) := fun z hz => by
       rw [← unhide HRR] at hz
       rcases List.mem_append.1 hz with h | h
       · exact unhide HSR z h
       · rw [List.mem_singleton.1 h]; exact unhide HHY
     have hRl : R.length ≤ 61 := by
       have := unhide HN8
       rw [← unhide HRR, List.length_append]
       simp
       omega
     have hnR : n8 + 1 = R.length := (unhide hmid).2.1
     rw [hnR] at hmid
     clear HSR HHY HRR HN8 hn8' hap8 hnR
     go_loopw [8] (fun lv wr => ∃ (k g cap : Nat), k ≤ R.length ∧ lv = .int .i64 (k : Int) ∧ Hid (k + trimN lim (R.drop k) = trimN lim R) ∧ Hid (Mid w lim (nx + 1) y (R.drop k) (R.drop k).length g cap wr)) (fun lv _ => R.length - (intOf lv).toNat)
     case atStart => exact ⟨0, g, cc, Nat.zero_le _, rfl, hide (by simp), by simpa using hmid⟩
     case round =>
      obtain ⟨k, g1, cap1, hk, rfl, htr, hmd⟩ := hrel
      have HDS : Hid (∀ z ∈ R.drop k, Small z) := fun z hz => unhide HSR2 z (List.mem_of_mem_drop hz)
      have hDl : Hid ((R.drop k).length = R.length - k) := List.length_drop
      have hstep : Hid (fitsB lim (R.drop k) = false → k < R.length → trimN lim (R.drop k) = trimN lim (R.drop (k + 1)) + 1) := fun h1 h2 => trimN_step h2 h1
      have hdd : Hid ((R.drop k).drop 1 = R.drop (k + 1)) := by show (R.drop k).drop 1 = _; rw [List.drop_drop]
      generalize hD : R.drop k = D at htr hmd HDS hDl hstep hdd
      have HD := hide hD
      clear hD
      generalize hnD : D.length = nd at hmd hDl
      have hdl1 : nd + k ≤ R.length := by have := unhide hDl; omega
      have hdl2 : R.length ≤ nd + k := by have := unhide hDl; omega
      have HND := hide hnD
      clear hnD
      obtain ⟨hrow, hq, hbx, hbel⟩ := unhide hmd
      clear hq
      have hcA := fun d os => Calls.regrown_of (l2All_n lim (nx + 1) g1 nd cap1 D (Go.Sort.grow (redrawn wr d) os) (w.heap.size + 3) (unhide HND).symm (hrow.below (below_regrown wr d os) (Nat.le_refl _)) (by omega) (unhide HDS))
      have hgl := hrow.lt
      have hfit : Hid (fitsB lim D = (decide (total D ≤ lim) && decide ((nd : Int) ≤ 60))) := by show fitsB lim D = _; unfold fitsB; rw [unhide HND]
      have hpos : Hid (lim < total D → 0 < nd) := by
        intro h
        rw [← unhide HND]
        cases D with
        | nil => simp [total] at h; omega
        | cons _ _ => simp
      generalize total D = tot at hcA hfit hpos
      obtain ⟨⟨a0, a1, a2⟩, ⟨b0, b1, b2, b3, b4⟩, ⟨r0, r1, r2⟩, fz, hzr⟩ := hbx
      have p0 := cell_regrown a0
      have p1 := cell_regrown a1
      have p2 := cell_regrown a2
      have HROW := hide hrow
      have HBEL := hide hbel
      clear hrow hbel b0 b1 b2 b3 b4 r0 r1 r2 fz
      have hcs : (lim < tot ∧ decide (lim < tot) = true) ∨ (¬ lim < tot ∧ decide (lim < tot) = false ∧ 60 < nd ∧ decide (60 < (nd : Int)) = true) ∨ (¬ lim < tot ∧ decide (lim < tot) = false ∧ ¬ 60 < nd ∧ decide (60 < (nd : Int)) = false) := by
        by_cases t1 : lim < tot
        · exact .inl ⟨t1, decide_eq_true t1⟩
        · by_cases t2 : 60 < nd
          · exact .inr (.inl ⟨t1, decide_eq_false t1, t2, decide_eq_true (by omega)⟩)
          · exact .inr (.inr ⟨t1, decide_eq_false t1, t2, decide_eq_false (by omega)⟩)
      rcases hcs with ⟨t1, t2⟩ | ⟨t1, t2, t3, t4⟩ | ⟨t1, t2, t3, t4⟩
      all_goals
        go_wp2_with fail
        refine wp_region_quiet_below hmix (by kernel_rfl) ?_
        repeat (quiet_step (exact hcA _ _))
        refine wpQuiet_nil ?_
        intro _ hw'
        obtain ⟨⟨dq, osq⟩, hw''⟩ := hw'
        subst hw''
        have hbq := below_regrown wr dq osq
        generalize (Go.Sort.grow (redrawn wr dq) osq) = wq at hbq ⊢
        have HMq : Hid (Row wq (w.heap.size + 3) (.slice (some ⟨g1, 0, none⟩) nd cap1) D) := (unhide HROW).below hbq (Nat.le_refl _)
        have HXq := hide ((unhide hmd).2.2.1.below hbq hzr)
        have HBq := hide ((unhide HBEL).trans (hbq.mono (by omega)))
        clear hbq p0 p1 p2 a0 a1 a2 hcA
        obtain ⟨⟨a0, a1, a2⟩, ⟨b0, b1, b2, b3, b4⟩, ⟨r0, r1, r2⟩, fz, hzq⟩ := unhide HXq
        have sf := fun o => fz w.heap.size o (by omega) (by omega)
        have rf := fun o => fz (w.heap.size + 1 + 1) o (by omega) (by omega)
        have hq0 : w.heap.size < wq.heap.size := by omega
        have hq2 : w.heap.size + 1 + 1 < wq.heap.size := by omega
      case' inl => have hnf : Hid (fitsB lim D = false) := by { show fitsB lim D = false; rw [unhide hfit, decide_eq_false (show ¬ tot ≤ lim by omega)]; rfl }
      case' inl => have hnp : 0 < nd := unhide hpos t1
      case' inr.inl => have hnf : Hid (fitsB lim D = false) := by { show fitsB lim D = false; rw [unhide hfit, decide_eq_false (show ¬ (nd : Int) ≤ 60 by omega)]; simp }
      case' inr.inl => have hnp : 0 < nd := by omega
      case' inr.inr => have hyf : Hid (fitsB lim D = true) := by { show fitsB lim D = true; rw [unhide hfit, decide_eq_true (show tot ≤ lim by omega), decide_eq_true (show (nd : Int) ≤ 60 by omega)]; rfl }
      case inr.inr =>
        have HT : Hid (trimN lim R = k) := by show trimN lim R = k; rw [← unhide htr, trimN_fit (unhide hyf)]; rfl
        go_wp2_with fail
        refine bodyPost_ret (v := .tuple #[.agg #[.int .i64 lim, .int .i64 (nx + 1), .slice (some ⟨g1, 0, none⟩) nd cap1], .string Shelf.storedT, .int .i64 (k : Int)]) (by simp [results, Tryz.results88, go_sem, Shelf.storedT, r0, r1, r2]; done) rfl ⟨g1, cap1, ?_, ?_, ?_⟩
        · rw [unhide HT, unhide HD, unhide HND]
        · rw [unhide HT, unhide HD, unhide HND]
          refine Row.le (B := w.heap.size + 3) ?_ (by omega)
          repeat (refine ownsRow_setCell_below ?_ (by first | (simp; done) | (simp; omega)) _)
          exact unhide HMq
        · repeat (refine Below.setCell ?_ (by first | (simp; done) | (simp; omega)) _)
          exact unhide HBq
      all_goals
        have hs1 := fun w => slice_from g1 nd cap1 1 1 rfl hnp w
        have HNW := hide (((unhide HMq).below (bel1 wq (.cells #[] 37)) (Nat.le_refl _)).news_from (unhide HND).symm 1 (by rw [unhide HND]; exact hnp))
        have HLD : Hid ((D.drop 1).length = nd - 1) := by show (D.drop 1).length = _; rw [List.length_drop, unhide HND]
        go_wp2_with (at_builtin; refine list_items _ rfl (.tmp 56) (.tmp 59) rfl (w.heap.size + 3) wq.heap.size 0 0 [] rfl (row_empty wq hzq) rfl (sadr g1 1 cap1) (nd - 1) (cap1 - 1) (D.drop 1) rfl (unhide HLD) (unhide HNW) (nd - 1) (Nat.zero_add _) (by omega) (by simp; omega) ?_)
        intro g2 cap2 w2 hrow2 hg2
        have HX2 := hide (((unhide HXq).below (bel1 wq _) hzq).gb hg2 hzq)
        have HB2 := hide (((unhide HBq).alloc (by omega) _).grown hg2 (by simp; omega) (fun k e => by simp at e; omega))
        have hg2b := hrow2.lt.2.1
        have HROW2 := hide hrow2
        clear a0 a1 a2 b0 b1 b2 b3 b4 r0 r1 r2 fz sf rf hrow2 hg2 HNW hs1
        obtain ⟨⟨a0, a1, a2⟩, ⟨b0, b1, b2, b3, b4⟩, ⟨r0, r1, r2⟩, fz, hz2⟩ := unhide HX2
        have sf := fun o => fz w.heap.size o (by omega) (by omega)
        have hap2 : Apart w.heap.size (some ⟨g2, 0, none⟩) := fun b e => by simp at e; omega
        go_wp2
        go_roundw
        case rel =>
          refine ⟨k + 1, g2, cap2, by omega, by go_num, ?_, ?_⟩
          · have e1 := unhide hstep (unhide hnf) (by omega)
            have e2 := unhide htr
            exact hide (by omega)
          · have e3 := unhide hdd
            have e4 := unhide HLD
            rw [e3] at e4
            rw [e4, ← e3]
            refine hide ⟨?_, (unhide HLD).symm, (unhide HX2).setS _, ?_⟩
            · rw [List.drop_one]
              exact Row.set (b := w.heap.size) (o := 2) (unhide HROW2) hap2 (by omega) _
            · exact Below.setCell (unhide HB2) (Nat.le_refl _) _
        case measure => simp [intOf]; omega
end Rw
end Go.Proofs.YtkdcofmpbmiloaaGreatDoor
