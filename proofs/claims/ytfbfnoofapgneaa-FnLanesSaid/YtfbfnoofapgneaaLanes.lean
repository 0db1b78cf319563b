/-
  FnLanes returns true for every slice of bytes: for the lane, the id and the time that are drawn from it the program's SendOn answers as the model's; where it is sent, answers come to those who wait in their order, a stale one to nobody, and a break tells all who wait. No condition.
-/
import Derived.Test.YtfbfnoofapgneaaLaneE
import Derived.Test.YtfbfnoofapgneaaLaneQ
import Derived.Test.YtfbfnoofapgneaaSendIA
import Derived.Test.YtfbfnoofapgneaaAnswerIA
import Derived.Test.YtfbfnoofapgneaaBreakIA
import Derived.Test.YtfbfnoofapgneaaCurO
import Derived.Lib.QuietBelow
import Derived.OpenShut
import Derived.ChangeOld
namespace Go.Proofs.Ytfbfnoofapgneaa
namespace LanesL
open Go.ChangeShapes Go.WideShapes Go.ChangeAt Go.RowKit Base GoodKey Waits Marks OwnR WaitsW Lanes
set_option linter.unusedVariables false

theorem send_bad (ep fa : Int) (l : List D) (x : D) (h : ¬ (sendR ep fa l x).code = 0) : glB ep fa l = false ∨ (sendR ep fa l x).l.length = l.length := by
  cases g1 : glB ep fa l
  · exact .inl rfl
  · right
    cases g2 : mayB l x
    · rw [send_2 g1 g2]
    · by_cases g3 : l.length = 20
      · rw [send_3 g1 g2 g3]
      · rw [send_4 g1 g2 g3] at h; simp at h
theorem send_good (ep fa : Int) (l : List D) (x : D) (h : (sendR ep fa l x).code = 0) : ∃ L : List D, sendR ep fa l x = ⟨ep, fa, L, 0⟩ ∧ glB ep fa L = true ∧ 0 < L.length := by
  cases g1 : glB ep fa l
  · rw [send_1 g1] at h; simp at h
  · cases g2 : mayB l x
    · rw [send_2 g1 g2] at h; simp at h
    · by_cases g3 : l.length = 20
      · rw [send_3 g1 g2 g3] at h; simp at h
      · exact ⟨l ++ [x], send_4 g1 g2 g3, gl_snoc g1 g2 g3, by rw [List.length_append, List.length_singleton]; omega⟩

set_option maxRecDepth 100000 in
set_option maxHeartbeats 3000000 in
theorem walk (a0 : Option Addr) (cap0 n0 : Nat) (z : Nat → Int) (w : World) (hc : Cur.BAt w a0 n0 z) (hl0 : n0 ≤ maxLen) :
    Calls Try.prog 3 #[.slice a0 n0 cap0] w fun e w' => e = .returned (.bool true) ∧ Below w.heap.size w w' := by
  by_cases hbig : 1048576 < (n0 : Int)
  · clear hc
    go_enter Try.func3, Try.ntmps3
    go_wp2
    go_ret
    exact ⟨rfl, Below.refl _ _⟩
  have hmix : Try.prog.follows .mixedOrders = true := by kernel_rfl
  have HD := hide (drawSend_any a0 n0 cap0 z w hc (by omega))
  have HMIX := hide hmix
  clear hc hmix
  go_enter Try.func3, Try.ntmps3
  go_wp2_with fail
  refine (unhide HD).mono ?_
  rintro e w2 ⟨ep, fa, a, l, cc, id, now, rfl, hl41, hlcc, L2, B2⟩
  clear HD
  -- the lane's own box, at w2's end
  have P2 := hide (xb_new w2 ep fa (.slice a l.length cc))
  have LA2 := hide (L2.below (bel1 w2 (.cells #[.int .i64 ep, .int .i64 fa, .slice a l.length cc] 25)) (Nat.le_refl _))
  have B3 := hide (B2.trans ((bel1 w2 (.cells #[.int .i64 ep, .int .i64 fa, .slice a l.length cc] 25)).mono B2.size))
  clear L2 B2
  have HT1 := hide (send_bad ep fa l ⟨id, now⟩)
  have HT2 := hide (send_good ep fa l ⟨id, now⟩)
  go_wp2_with fail
  generalize hv2 : w2.alloc (.cells #[.int .i64 ep, .int .i64 fa, .slice a l.length cc] 25) = v2 at P2 LA2 B3 ⊢
  clear hv2
  have zP := (unhide P2).2.2
  generalize w2.heap.size = P at P2 zP ⊢
  refine (sendI_any ep fa a cc l id now v2 (unhide LA2) (by omega) hlcc).mono ?_
  have HS := hide (fun v' (hb : Below v2.heap.size v2 v') => sendS_any ep fa a cc l id now v' ((unhide LA2).below hb (Nat.le_refl _)) (by omega) hlcc)
  generalize sendR ep fa l ⟨id, now⟩ = T at HT1 HT2 HS
  obtain ⟨te, tf, tl, tc⟩ := T
  rintro e w4 ⟨a4, c4, he4, hf4⟩
  dsimp only at he4 hf4
  subst he4
  have F4 := hide hf4
  have P4 := hide ((unhide P2).below hf4.bel zP)
  have B4 := hide ((unhide B3).trans (hf4.bel.mono (unhide B3).size))
  have LA4 := hide ((unhide LA2).below hf4.bel (Nat.le_refl _))
  have BV := hide hf4.bel
  have zP4 := (unhide P4).2.2
  have zv : v2.heap.size ≤ w4.heap.size := hf4.bel.size
  clear hf4
  obtain ⟨⟨p0, p1, p2⟩, fP, -⟩ := unhide P4
  go_wp2_with fail
  refine (unhide HS _ ((unhide BV).trans ((bel1 w4 _).mono zv))).mono ?_
  rintro e w6 ⟨a6, c6, he6, hf6⟩
  dsimp only at he6 hf6
  subst he6
  have hb6 := hf6.bel
  rw [World.size_alloc] at hb6
  have X6 := hide ((xb_new w4 te tf (.slice a4 tl.length c4)).below hb6 (Nat.lt_succ_self _))
  have BX6 := hide ((bel1 w4 (.cells #[.int .i64 te, .int .i64 tf, .slice a4 tl.length c4] 25)).trans (hb6.mono (Nat.le_succ _)))
  clear hf6 hb6 HS p0 p1 p2 fP BV
  have zX6 := (unhide X6).2.2
  have P6 := hide ((unhide P4).below (unhide BX6) zP4)
  have LA6 := hide ((unhide LA4).below (unhide BX6) (Nat.le_refl _))
  by_cases hcode : tc = 0
  case neg =>
    have hq : (tc != 0) = true := by simp [hcode]
    have hq2 : (tc == 0) = false := by simp [hcode]
    have hor := unhide HT1 hcode
    try dsimp only at hor
    have HGS := hide (fun v' (hb : Below w6.heap.size w6 v') => goodS_any ep fa a cc l v' ((unhide LA6).below hb (Nat.le_refl _)) (by omega) hlcc)
    obtain ⟨⟨p0, p1, p2⟩, fP, zP6⟩ := unhide P6
    obtain ⟨⟨x0, x1, x2⟩, fX, -⟩ := unhide X6
    cases g1 : glB ep fa l
    · rw [g1] at HGS
      clear hor g1 HT1 HT2
      go_wp2_with fail
      refine (unhide HGS _ (bel1 w6 _)).mono ?_
      rintro e w8 ⟨rfl, hb8⟩
      have BE := hide (((unhide B4).trans ((unhide BX6).mono (unhide B4).size)).trans (((bel1 w6 _).trans (hb8.mono (by simp))).mono (Nat.le_trans (unhide B4).size (unhide BX6).size)))
      clear hb8
      go_wp2
      go_ret
      exact ⟨rfl, unhide BE⟩
    · have hlen : tl.length = l.length := by
        rcases hor with h | h
        · rw [g1] at h; simp at h
        · exact h
      rw [g1] at HGS
      rw [hlen] at x2 ⊢
      clear hor g1 HT1 HT2 hlen
      go_wp2_with fail
      refine (unhide HGS _ (bel1 w6 _)).mono ?_
      rintro e w8 ⟨rfl, hb8⟩
      have hb9 : Below w6.heap.size w6 w8 := (bel1 w6 _).trans (hb8.mono (by simp))
      have BE := hide (((unhide B4).trans ((unhide BX6).mono (unhide B4).size)).trans (hb9.mono (Nat.le_trans (unhide B4).size (unhide BX6).size)))
      obtain ⟨⟨q0, q1, q2⟩, _, _⟩ := (unhide P6).below hb9 zP6
      have y2 := (hb9.cell (p := ⟨w4.heap.size, 2, none⟩) zX6).trans x2
      clear hb8 hb9
      go_wp2
      go_ret
      exact ⟨rfl, unhide BE⟩
  obtain ⟨L, hTe, hgl, hL0⟩ := unhide HT2 hcode
  simp only [Sent.mk.injEq] at hTe
  obtain ⟨rfl, rfl, rfl, -⟩ := hTe
  subst hcode
  clear HT1 HT2
  -- sent: everybody who waits
  have hL20 := glB_len hgl
  have hef := glB_ep hgl
  have GL := hide hgl
  clear hgl
  have hc4 : tl.length ≤ c4 := (unhide F4).2.1
  generalize hX : w4.heap.size = X at X6 BX6 zX6 zP4 zv ⊢
  have LX4 : Hid (LX w4 X a4 tl) := full_lx (unhide F4) (.inr (by omega))
  have LX6 := hide ((unhide LX4).keep (unhide BX6).size (fun b hb _ => (unhide BX6).block b (by omega)))
  have LL4 := hide ((unhide F4).lat)
  clear F4 LA4 LA2
  obtain ⟨⟨x0, x1, x2⟩, fX, -⟩ := unhide X6
  have hne1 : ¬ te + 1 = te := by omega
  have HA1 := hide (fun v' (hb : Below w6.heap.size w6 v') => answerI_any te tf a4 c4 tl (te + 1) v' ((unhide LX6).below hb).lat (by omega) hc4)
  rw [answer_2 (unhide GL) hne1] at HA1
  go_wp2_with fail
  refine (unhide HA1 _ (bel1 w6 _)).mono ?_
  rintro e w8 ⟨a8, c8, he8, hf8⟩
  dsimp only at he8
  subst he8
  have hb8 := hf8.bel
  have X8 := hide (((unhide X6).below (bel1 w6 _) zX6).below hb8 (by simp; omega))
  have LX8 := hide ((((unhide LX6).below (bel1 w6 _)).below hb8))
  have BX8 := hide (((unhide BX6).trans ((bel1 w6 _).mono (by omega))).trans (hb8.mono (by simp; omega)))
  have zX8 := (unhide X8).2.2
  clear hf8 hb8 HA1 x0 x1 x2 fX X6 LX6 BX6
  obtain ⟨⟨x0, x1, x2⟩, fX, -⟩ := unhide X8
  have HBK := hide (fun v' (hb : Below w8.heap.size w8 v') => breakI_any te tf a4 c4 tl v' ((unhide LX8).below hb).lat (by omega) hc4)
  by_cases hlast : te = 1000000
  · rw [break_2 (unhide GL) hlast] at HBK
    clear hlast
    go_wp2_with fail
    refine (unhide HBK _ (bel1 w8 _)).mono ?_
    rintro e w10 ⟨a10, c10, i10, d10, he10, r10, q10, o1, o2, o3, o4, -, hb10⟩
    dsimp only at he10 o1 o2
    subst he10
    have hne10 : ∀ g, q10 = some g → g ≠ X := fun g e => by have := o4 g e; rw [World.size_alloc] at this; omega
    have NI10 := hide (ours_nx (X := X) o2 hne10)
    have X10 := hide (((unhide X8).below (bel1 w8 _) zX8).below hb10 (by simp; omega))
    have LX10 := hide ((((unhide LX8).below (bel1 w8 _)).below hb10))
    have BX10 := hide (((unhide BX8).trans ((bel1 w8 _).mono (by omega))).trans (hb10.mono (by simp; omega)))
    have zX10 := (unhide X10).2.2
    clear o1 o2 o3 o4 hb10 HBK x0 x1 x2 fX X8 LX8 BX8 hne10
    obtain ⟨⟨x0, x1, x2⟩, fX, -⟩ := unhide X10
    have hids := ids_len tl
    have hup : IntKind.i64.wrap (te + 1) = te + 1 := by rw [IntKind.wrap_i64]; omega
    go_wp2_with fail
    have NI11 := hide ((unhide NI10).below (bel1 w10 (.cells #[.int .i64 te, .int .i64 tf, .slice a10 tl.length c10] 25)))
    have X11 := hide ((unhide X10).below (bel1 w10 (.cells #[.int .i64 te, .int .i64 tf, .slice a10 tl.length c10] 25)) zX10)
    have LX11 := hide ((unhide LX10).below (bel1 w10 (.cells #[.int .i64 te, .int .i64 tf, .slice a10 tl.length c10] 25)))
    have BX11 := hide ((unhide BX10).trans ((bel1 w10 (.cells #[.int .i64 te, .int .i64 tf, .slice a10 tl.length c10] 25)).mono (by omega)))
    generalize w10.alloc (.cells #[.int .i64 te, .int .i64 tf, .slice a10 tl.length c10] 25) = v10 at NI11 X11 LX11 BX11 ⊢
    clear x0 x1 x2 fX X10 LX10 BX10 NI10
    go_loopw [110] (fun iv wr => ∃ (k : Nat) (f : Int) (ak : Option Addr) (ck m : Nat), k ≤ tl.length ∧ iv = .int .i64 k ∧ m = tl.length - k ∧ m ≤ ck ∧ Hid (glB te f (tl.drop k) = true) ∧ Hid (Xb wr X te f (.slice ak m ck)) ∧ Hid (LX wr X ak (tl.drop k)) ∧ Hid (NX wr X i10 []) ∧ Hid (Below X w4 wr)) (fun iv _ => tl.length - (intOf iv).toNat)
    case atStart => exact ⟨0, tf, a4, c4, tl.length, Nat.zero_le _, rfl, rfl, hc4, GL, X11, LX11, NI11, BX11⟩
    case round =>
      obtain ⟨k, f, ak, ck, m, hk, rfl, hm, hmc, GR, XR, LR, NR, BR⟩ := hrel
      have hdl : (tl.drop k).length = m := by rw [List.length_drop]; omega
      have zXR := (unhide XR).2.2
      have zRX : X ≤ wr.heap.size := by omega
      obtain ⟨⟨x0, x1, x2⟩, fX, -⟩ := unhide XR
      have HDL := hide hdl
      have HM := hide hm
      have hm20 : m ≤ 20 := by omega
      by_cases hlt : k < tl.length
      · obtain ⟨b4, o4, hab4, hb4, hcc4⟩ := unhide LL4 (by intro h; simp [h] at hlt)
        obtain ⟨d0, d1⟩ := (hcc4 k hlt).below (unhide BR) (by omega)
        have hb4r : b4 < wr.heap.size := by omega
        have hb4X : b4 < X := by omega
        have hget := drop_get tl k hlt
        have HA := hide (fun v' (hb : Below wr.heap.size wr v') => answerI_any te f ak ck (tl.drop k) te v' ((unhide LR).below hb).lat (by omega) (by omega))
        rw [answer_4 (unhide GR) (by omega), drop_drop1, hget, hdl] at HA
        have GN : Hid (glB te 0 (tl.drop (k + 1)) = true) := by
          show glB te 0 (tl.drop (k + 1)) = true
          rw [← drop_drop1]; exact gl_drop (unhide GR)
        have hdl1 : (tl.drop (k + 1)).length = m - 1 := by rw [List.length_drop]; omega
        obtain ⟨m1, hm1⟩ : ∃ m1, m1 = m - 1 := ⟨_, rfl⟩
        rw [← hm1] at hdl1
        have hm20' : m1 ≤ 20 := by omega
        have HM1 : Hid (m1 = tl.length - (k + 1)) := by show m1 = _; omega
        generalize tl.getD k zero = x at d0 d1 HA
        have HDL1 := hide hdl1
        subst hab4
        clear hget hdl hdl1 hm hm1 hcc4
        go_wp2_with fail
        refine (unhide HA _ (bel1 wr _)).mono ?_
        rintro e w12 ⟨a12, c12, he12, hf12⟩
        dsimp only at he12 hf12
        rw [unhide HDL1] at he12
        subst he12
        have hb12 := hf12.bel
        have hc12 : m1 ≤ c12 := by have := hf12.2.1; rw [unhide HDL1] at this; exact this
        have LN12 : Hid (LX w12 X a12 (tl.drop (k + 1))) := full_lx hf12 (.inl (by simp; omega))
        have X12 := hide (((unhide XR).below (bel1 wr _) zXR).below hb12 (by simp; omega))
        have NI12 := hide (((unhide NR).below (bel1 wr _)).below hb12)
        have BX12 := hide (((unhide BR).trans ((bel1 wr _).mono zRX)).trans (hb12.mono (by simp; omega)))
        have e12 := fun o => hb12.cell (p := ⟨wr.heap.size, o, none⟩) (by simp)
        have e0 : w12.cell? ⟨wr.heap.size, 0, none⟩ = some (.int .i64 x.id) := (e12 0).trans (by go_simp)
        have e1 : w12.cell? ⟨wr.heap.size, 1, none⟩ = some (.int .i64 x.since) := (e12 1).trans (by go_simp)
        have zw12 : wr.heap.size < w12.heap.size := by have := hb12.size; simp at this; omega
        clear hf12 hb12 HA x0 x1 x2 fX XR LR NR BR e12
        -- the lane that came out, in a box of its own
        have Y13 := hide (xb_new w12 te 0 (.slice a12 m1 c12))
        have LN13 := hide ((unhide LN12).below (bel1 w12 (.cells #[.int .i64 te, .int .i64 0, .slice a12 m1 c12] 25)))
        have X13 := hide ((unhide X12).below (bel1 w12 (.cells #[.int .i64 te, .int .i64 0, .slice a12 m1 c12] 25)) (unhide X12).2.2)
        have NI13 := hide ((unhide NI12).below (bel1 w12 (.cells #[.int .i64 te, .int .i64 0, .slice a12 m1 c12] 25)))
        have BX13 := hide ((unhide BX12).trans ((bel1 w12 (.cells #[.int .i64 te, .int .i64 0, .slice a12 m1 c12] 25)).mono (by omega)))
        have e013 := ((bel1 w12 (.cells #[.int .i64 te, .int .i64 0, .slice a12 m1 c12] 25)).cell (p := ⟨wr.heap.size, 0, none⟩) zw12).trans e0
        have zw13 : wr.heap.size < (w12.alloc (.cells #[.int .i64 te, .int .i64 0, .slice a12 m1 c12] 25)).heap.size := by simp; omega
        have hw13 : w12.heap.size < (w12.alloc (.cells #[.int .i64 te, .int .i64 0, .slice a12 m1 c12] 25)).heap.size := by simp
        go_upto_region 18 with fail
        generalize w12.alloc (.cells #[.int .i64 te, .int .i64 0, .slice a12 m1 c12] 25) = v13 at Y13 LN13 X13 NI13 BX13 e013 zw13 hw13 ⊢
        generalize w12.heap.size = Y at Y13 hw13 ⊢
        clear e0 e1 X12 NI12 BX12 LN12
        have HG13 := hide (fun v' (hb : Below v13.heap.size v13 v') => goodI_any te 0 a12 c12 (tl.drop (k + 1)) v' ((unhide LN13).below hb).lat (by rw [unhide HDL1]; omega) (by rw [unhide HDL1]; exact hc12))
        rw [unhide GN, unhide HDL1] at HG13
        have cC := fun d os => Calls.regrown_of (unhide HG13 (Go.Sort.grow (redrawn v13 d) os) (below_regrown v13 d os))
        obtain ⟨⟨y0, y1, y2⟩, fY, -⟩ := unhide Y13
        have q0 := cell_regrown e013
        have q1 := cell_regrown y0
        have q2 := cell_regrown y1
        have q3 := cell_regrown y2
        refine wp_region_quiet_below (unhide HMIX) (by kernel_rfl) ?_
        repeat (go_big_quiet_step (exact cC _ _))
        refine wpQuiet_nil ?_
        intro _ hw'
        obtain ⟨⟨dq, osq⟩, hw''⟩ := hw'
        subst hw''
        have hbq := below_regrown v13 dq osq
        clear cC q0 q1 q2 q3
        generalize (Go.Sort.grow (redrawn v13 dq) osq) = v14 at hbq ⊢
        have Y14 := hide ((unhide Y13).below hbq hw13)
        have X14 := hide ((unhide X13).below hbq (unhide X13).2.2)
        have NI14 := hide ((unhide NI13).below hbq)
        have LN14 := hide ((unhide LN13).below hbq)
        have BX14 := hide ((unhide BX13).trans (hbq.mono (by have := (unhide X13).2.2; omega)))
        clear hbq y0 y1 y2 fY X13 NI13 LN13 BX13 e013 Y13 HG13 hw13 zw13
        obtain ⟨⟨x0, x1, x2⟩, fX, zX14⟩ := unhide X14
        obtain ⟨⟨y0, y1, y2⟩, fY, zY14⟩ := unhide Y14
        have XE := hide (xb_put (unhide X14) te 0 (.slice a12 m1 c12))
        have GE := hide (gb_put v14 X te 0 (.slice a12 m1 c12))
        go_wp2
        go_roundw
        case rel => exact ⟨k + 1, 0, a12, c12, m1, by omega, by go_num, unhide HM1, hc12, GN, XE, hide ((unhide LN14).put (unhide GE)), hide ((unhide NI14).put (unhide GE)), hide (bel_put (unhide BX14) (unhide GE) (by omega))⟩
        case measure => simp [intOf]; omega
      · obtain rfl : k = tl.length := by omega
        have hm0 : m = 0 := by omega
        subst hm0
        have hnil : tl.drop tl.length = [] := List.drop_length
        rw [hnil] at GR LR HDL
        have HA := hide (fun v' (hb : Below wr.heap.size wr v') => answerI_any te f ak ck [] te v' (fun h => absurd rfl h) (by simp) (by simp))
        rw [answer_3 (unhide GR) rfl] at HA
        clear hnil hdl hm
        go_wp2_with fail
        refine (unhide HA _ (Below.refl _ _)).mono ?_
        rintro e w12 ⟨a12, c12, he12, hf12⟩
        dsimp only at he12
        subst he12
        have hb12 := hf12.bel
        have P12 := hide (((unhide P4).below (unhide BR) zP4).below hb12 (by omega))
        have BE := hide ((unhide B4).trans (((unhide BR).trans (hb12.mono zRX)).mono (by rw [← hX]; exact (unhide B4).size)))
        clear hf12 hb12
        obtain ⟨⟨p0, p1, p2⟩, fP, zP12⟩ := unhide P12
        have hge : ¬ (l.length : Int) < 0 := by omega
        have hge' : decide ((0 : Int) ≤ (l.length : Int)) = true := by simp
        go_wp2
        go_ret
        exact ⟨rfl, (unhide BE).alloc (by have := (unhide BE).size; omega) _⟩
  · rw [break_3 (unhide GL) hlast] at HBK
    clear hlast
    go_wp2_with fail
    refine (unhide HBK _ (bel1 w8 _)).mono ?_
    rintro e w10 ⟨a10, c10, i10, d10, he10, r10, q10, o1, o2, o3, o4, -, hb10⟩
    dsimp only at he10 o1 o2
    subst he10
    have hne10 : ∀ g, q10 = some g → g ≠ X := fun g e => by have := o4 g e; rw [World.size_alloc] at this; omega
    have NI10 := hide (ours_nx (X := X) o2 hne10)
    have X10 := hide (((unhide X8).below (bel1 w8 _) zX8).below hb10 (by simp; omega))
    have LX10 := hide ((((unhide LX8).below (bel1 w8 _)).below hb10))
    have BX10 := hide (((unhide BX8).trans ((bel1 w8 _).mono (by omega))).trans (hb10.mono (by simp; omega)))
    have zX10 := (unhide X10).2.2
    clear o1 o2 o3 o4 hb10 HBK x0 x1 x2 fX X8 LX8 BX8 hne10
    obtain ⟨⟨x0, x1, x2⟩, fX, -⟩ := unhide X10
    have hids := ids_len tl
    have hup : IntKind.i64.wrap (te + 1) = te + 1 := by rw [IntKind.wrap_i64]; omega
    rw [hids]
    have HIDS := hide hids
    clear hids
    go_wp2_with fail
    have NI11 := hide ((unhide NI10).below (bel1 w10 (.cells #[.int .i64 (te + 1), .int .i64 (upB tf), .slice a10 0 c10] 25)))
    have X11 := hide ((unhide X10).below (bel1 w10 (.cells #[.int .i64 (te + 1), .int .i64 (upB tf), .slice a10 0 c10] 25)) zX10)
    have LX11 := hide ((unhide LX10).below (bel1 w10 (.cells #[.int .i64 (te + 1), .int .i64 (upB tf), .slice a10 0 c10] 25)))
    have BX11 := hide ((unhide BX10).trans ((bel1 w10 (.cells #[.int .i64 (te + 1), .int .i64 (upB tf), .slice a10 0 c10] 25)).mono (by omega)))
    generalize w10.alloc (.cells #[.int .i64 (te + 1), .int .i64 (upB tf), .slice a10 0 c10] 25) = v10 at NI11 X11 LX11 BX11 ⊢
    clear x0 x1 x2 fX X10 LX10 BX10 NI10
    go_loopw [110] (fun iv wr => ∃ (k : Nat) (f : Int) (ak : Option Addr) (ck m : Nat), k ≤ tl.length ∧ iv = .int .i64 k ∧ m = tl.length - k ∧ m ≤ ck ∧ Hid (glB te f (tl.drop k) = true) ∧ Hid (Xb wr X te f (.slice ak m ck)) ∧ Hid (LX wr X ak (tl.drop k)) ∧ Hid (NX wr X i10 (idsOf tl)) ∧ Hid (Below X w4 wr)) (fun iv _ => tl.length - (intOf iv).toNat)
    case atStart => exact ⟨0, tf, a4, c4, tl.length, Nat.zero_le _, rfl, rfl, hc4, GL, X11, LX11, NI11, BX11⟩
    case round =>
      obtain ⟨k, f, ak, ck, m, hk, rfl, hm, hmc, GR, XR, LR, NR, BR⟩ := hrel
      have hdl : (tl.drop k).length = m := by rw [List.length_drop]; omega
      have zXR := (unhide XR).2.2
      have zRX : X ≤ wr.heap.size := by omega
      obtain ⟨⟨x0, x1, x2⟩, fX, -⟩ := unhide XR
      have HDL := hide hdl
      have HM := hide hm
      have hm20 : m ≤ 20 := by omega
      by_cases hlt : k < tl.length
      · obtain ⟨b4, o4, hab4, hb4, hcc4⟩ := unhide LL4 (by intro h; simp [h] at hlt)
        obtain ⟨d0, d1⟩ := (hcc4 k hlt).below (unhide BR) (by omega)
        have hb4r : b4 < wr.heap.size := by omega
        have hb4X : b4 < X := by omega
        have hget := drop_get tl k hlt
        have HA := hide (fun v' (hb : Below wr.heap.size wr v') => answerI_any te f ak ck (tl.drop k) te v' ((unhide LR).below hb).lat (by omega) (by omega))
        rw [answer_4 (unhide GR) (by omega), drop_drop1, hget, hdl] at HA
        have GN : Hid (glB te 0 (tl.drop (k + 1)) = true) := by
          show glB te 0 (tl.drop (k + 1)) = true
          rw [← drop_drop1]; exact gl_drop (unhide GR)
        obtain ⟨bi, oi, habi, hbiX, hbi, hci⟩ := unhide NR (by intro h; have := ids_len tl; rw [h] at this; simp at this; omega)
        have j0 := hci k (by rw [ids_len]; exact hlt)
        rw [ids_get tl k hlt] at j0
        subst habi
        clear hci
        have hdl1 : (tl.drop (k + 1)).length = m - 1 := by rw [List.length_drop]; omega
        obtain ⟨m1, hm1⟩ : ∃ m1, m1 = m - 1 := ⟨_, rfl⟩
        rw [← hm1] at hdl1
        have hm20' : m1 ≤ 20 := by omega
        have HM1 : Hid (m1 = tl.length - (k + 1)) := by show m1 = _; omega
        generalize tl.getD k zero = x at d0 d1 HA j0
        have HDL1 := hide hdl1
        subst hab4
        clear hget hdl hdl1 hm hm1 hcc4
        go_wp2_with fail
        refine (unhide HA _ (bel1 wr _)).mono ?_
        rintro e w12 ⟨a12, c12, he12, hf12⟩
        dsimp only at he12 hf12
        rw [unhide HDL1] at he12
        subst he12
        have hb12 := hf12.bel
        have hc12 : m1 ≤ c12 := by have := hf12.2.1; rw [unhide HDL1] at this; exact this
        have LN12 : Hid (LX w12 X a12 (tl.drop (k + 1))) := full_lx hf12 (.inl (by simp; omega))
        have X12 := hide (((unhide XR).below (bel1 wr _) zXR).below hb12 (by simp; omega))
        have NI12 := hide (((unhide NR).below (bel1 wr _)).below hb12)
        have BX12 := hide (((unhide BR).trans ((bel1 wr _).mono zRX)).trans (hb12.mono (by simp; omega)))
        have e12 := fun o => hb12.cell (p := ⟨wr.heap.size, o, none⟩) (by simp)
        have e0 : w12.cell? ⟨wr.heap.size, 0, none⟩ = some (.int .i64 x.id) := (e12 0).trans (by go_simp)
        have e1 : w12.cell? ⟨wr.heap.size, 1, none⟩ = some (.int .i64 x.since) := (e12 1).trans (by go_simp)
        have zw12 : wr.heap.size < w12.heap.size := by have := hb12.size; simp at this; omega
        have j12 := (hb12.cell (p := ⟨bi, oi + k, none⟩) (show bi < _ by simp; omega)).trans (((bel1 wr (.cells #[.int .i64 x.id, .int .i64 x.since] 36)).cell (p := ⟨bi, oi + k, none⟩) hbi).trans j0)
        have zbi : bi < w12.heap.size := by have := hb12.size; simp at this; omega
        clear j0
        clear hf12 hb12 HA x0 x1 x2 fX XR LR NR BR e12
        -- the lane that came out, in a box of its own
        have Y13 := hide (xb_new w12 te 0 (.slice a12 m1 c12))
        have LN13 := hide ((unhide LN12).below (bel1 w12 (.cells #[.int .i64 te, .int .i64 0, .slice a12 m1 c12] 25)))
        have X13 := hide ((unhide X12).below (bel1 w12 (.cells #[.int .i64 te, .int .i64 0, .slice a12 m1 c12] 25)) (unhide X12).2.2)
        have NI13 := hide ((unhide NI12).below (bel1 w12 (.cells #[.int .i64 te, .int .i64 0, .slice a12 m1 c12] 25)))
        have BX13 := hide ((unhide BX12).trans ((bel1 w12 (.cells #[.int .i64 te, .int .i64 0, .slice a12 m1 c12] 25)).mono (by omega)))
        have e013 := ((bel1 w12 (.cells #[.int .i64 te, .int .i64 0, .slice a12 m1 c12] 25)).cell (p := ⟨wr.heap.size, 0, none⟩) zw12).trans e0
        have zw13 : wr.heap.size < (w12.alloc (.cells #[.int .i64 te, .int .i64 0, .slice a12 m1 c12] 25)).heap.size := by simp; omega
        have j13 := ((bel1 w12 (.cells #[.int .i64 te, .int .i64 0, .slice a12 m1 c12] 25)).cell (p := ⟨bi, oi + k, none⟩) zbi).trans j12
        have zbi13 : bi < (w12.alloc (.cells #[.int .i64 te, .int .i64 0, .slice a12 m1 c12] 25)).heap.size := by simp; omega
        have hw13 : w12.heap.size < (w12.alloc (.cells #[.int .i64 te, .int .i64 0, .slice a12 m1 c12] 25)).heap.size := by simp
        go_upto_region 18 with fail
        generalize w12.alloc (.cells #[.int .i64 te, .int .i64 0, .slice a12 m1 c12] 25) = v13 at Y13 LN13 X13 NI13 BX13 e013 zw13 j13 zbi13 hw13 ⊢
        generalize w12.heap.size = Y at Y13 hw13 ⊢
        clear e0 e1 X12 NI12 BX12 LN12 j12
        have HG13 := hide (fun v' (hb : Below v13.heap.size v13 v') => goodI_any te 0 a12 c12 (tl.drop (k + 1)) v' ((unhide LN13).below hb).lat (by rw [unhide HDL1]; omega) (by rw [unhide HDL1]; exact hc12))
        rw [unhide GN, unhide HDL1] at HG13
        have cC := fun d os => Calls.regrown_of (unhide HG13 (Go.Sort.grow (redrawn v13 d) os) (below_regrown v13 d os))
        obtain ⟨⟨y0, y1, y2⟩, fY, -⟩ := unhide Y13
        have q0 := cell_regrown e013
        have q1 := cell_regrown y0
        have q2 := cell_regrown y1
        have q3 := cell_regrown y2
        have q4 := cell_regrown j13
        refine wp_region_quiet_below (unhide HMIX) (by kernel_rfl) ?_
        repeat (go_big_quiet_step (exact cC _ _))
        refine wpQuiet_nil ?_
        intro _ hw'
        obtain ⟨⟨dq, osq⟩, hw''⟩ := hw'
        subst hw''
        have hbq := below_regrown v13 dq osq
        clear cC q0 q1 q2 q3 q4
        generalize (Go.Sort.grow (redrawn v13 dq) osq) = v14 at hbq ⊢
        have Y14 := hide ((unhide Y13).below hbq hw13)
        have X14 := hide ((unhide X13).below hbq (unhide X13).2.2)
        have NI14 := hide ((unhide NI13).below hbq)
        have LN14 := hide ((unhide LN13).below hbq)
        have BX14 := hide ((unhide BX13).trans (hbq.mono (by have := (unhide X13).2.2; omega)))
        clear hbq y0 y1 y2 fY X13 NI13 LN13 BX13 e013 j13 Y13 HG13 hw13 zw13
        obtain ⟨⟨x0, x1, x2⟩, fX, zX14⟩ := unhide X14
        obtain ⟨⟨y0, y1, y2⟩, fY, zY14⟩ := unhide Y14
        have XE := hide (xb_put (unhide X14) te 0 (.slice a12 m1 c12))
        have GE := hide (gb_put v14 X te 0 (.slice a12 m1 c12))
        go_wp2
        go_roundw
        case rel => exact ⟨k + 1, 0, a12, c12, m1, by omega, by go_num, unhide HM1, hc12, GN, XE, hide ((unhide LN14).put (unhide GE)), hide ((unhide NI14).put (unhide GE)), hide (bel_put (unhide BX14) (unhide GE) (by omega))⟩
        case measure => simp [intOf]; omega
      · obtain rfl : k = tl.length := by omega
        have hm0 : m = 0 := by omega
        subst hm0
        have hnil : tl.drop tl.length = [] := List.drop_length
        rw [hnil] at GR LR HDL
        have HA := hide (fun v' (hb : Below wr.heap.size wr v') => answerI_any te f ak ck [] te v' (fun h => absurd rfl h) (by simp) (by simp))
        rw [answer_3 (unhide GR) rfl] at HA
        clear hnil hdl hm
        go_wp2_with fail
        refine (unhide HA _ (Below.refl _ _)).mono ?_
        rintro e w12 ⟨a12, c12, he12, hf12⟩
        dsimp only at he12
        subst he12
        have hb12 := hf12.bel
        have P12 := hide (((unhide P4).below (unhide BR) zP4).below hb12 (by omega))
        have BE := hide ((unhide B4).trans (((unhide BR).trans (hb12.mono zRX)).mono (by rw [← hX]; exact (unhide B4).size)))
        clear hf12 hb12
        obtain ⟨⟨p0, p1, p2⟩, fP, zP12⟩ := unhide P12
        have hge : ¬ (l.length : Int) < 0 := by omega
        have hge' : decide ((0 : Int) ≤ (l.length : Int)) = true := by simp
        go_wp2
        go_ret
        exact ⟨rfl, (unhide BE).alloc (by have := (unhide BE).size; omega) _⟩

theorem own : ownKnob Try.prog.godebug = none := by kernel_rfl
theorem laidOut : laidOutB Try.prog = true := by kernel_rfl

set_option maxRecDepth 100000 in
theorem lifted (os : Os) (started : os.Started) (H : Type) (enc : TypeId × Value → H) :
    ReturnsInHanded {} Try.checked os 3 .any (Rows.fnLanesSpec.pre6 enc Try.prog Try.f3 Rows.fnLanesRow.domain false) (Rows.fnLanesSpec.post enc Try.prog Try.f3 false true false false) := by
  refine returnsInHanded_of_change (C := Try.checked) own started (by kernel_rfl) Try.func3
    (ChangeSpec.witness6 (enc := enc) (C := Try.checked) false ⟨#[], #[.slice none 0 0], []⟩ 8 (by kernel_rfl) (by kernel_rfl) (by kernel_rfl) (by kernel_rfl)) ?_
  intro W base args ds gs before hval0 hW hcnd _
  have hval : ∀ (j : Nat) t v, Try.f3.params[j]? = some t → args[j]? = some v → Value.okWide Try.prog W .any base t v := hval0
  have hW' := hW
  obtain ⟨p, q, hA0, hV, rfl, hfz, hnd⟩ := hW
  have hA : DataW.TrodAll enc Try.prog W 0 (fun _ => true) true Try.f3.params.toList args.toList ds p := hA0
  rw [Try.params3] at hA hval
  obtain ⟨v0, vs0, d0, ds0, p0, q0, hargs, rfl, rfl, h0, r0⟩ := trodAll_cons hA
  obtain ⟨rfl, rfl, rfl⟩ := trodAll_nil r0
  obtain rfl : args = #[v0] := by cases args; simp_all
  obtain ⟨rfl, rfl⟩ := trodVars_none hV
  have k0 := h0
  have lt0 : ∀ x ∈ p0, x.block < W.heap.size := by obtain ⟨m, hm⟩ := k0; exact DataW.trod_lt m _ _ _ hm
  obtain ⟨x0, y0, z0, rfl⟩ := okWide_slice Try.underlying22 (hval 0 22 v0 rfl rfl)
  obtain ⟨P0, C0, L0, Z0, e0, f0, i0⟩ : ∃ (a : Option Addr) (cap n : Nat) (z : Nat → Int), Value.slice x0 y0 z0 = .slice a n cap ∧ Cur.BAt W a n z ∧ n ≤ maxLen := by
    obtain ⟨fuel, hf⟩ := h0
    exact Cur.open_of Try.underlying22 Try.underlying5 (by kernel_rfl) hf
  simp only [Value.slice.injEq] at e0
  obtain ⟨ex0, ey0, ez0⟩ := e0
  subst x0 y0 z0
  clear hA0 hval0
  refine (walk P0 C0 L0 Z0 W f0 i0).mono fun e W' ⟨he, bel⟩ => ?_
  subst he
  exact ⟨_, rfl, _, _, _, [], _, [], hW', trodAll_mk1 (shut_bool Try.underlying4 _), (trodAll_cons_mk (Below.trod laidOut (by kernel_rfl) (of_decide_eq_true (by kernel_rfl)) k0 bel lt0) trodAll_mk0), rfl, bel.frame _, fun h => by cases h⟩

theorem over : Rows.fnLanesRow.holds Try.pinned (OpenSpec.ofChange Rows.fnLanesSpec) :=
  OpenClaim.holds_of_wide 3 Try.f3 rfl rfl rfl rfl rfl rfl rfl ⟨rfl, rfl, rfl, rfl, rfl⟩ rfl rfl rfl rfl rfl (by kernel_rfl) Try.func3 (by kernel_rfl)
    (of_decide_eq_true (by kernel_rfl)) (by unfold Func.isWrapper; first | (rw [if_pos (by decide +kernel)]; kernel_rfl) | (rw [if_neg (by decide +kernel)]; exact ⟨rfl, rfl⟩))
    (fun os started H enc _ => lifted os started H enc)
end LanesL
theorem lanes_holds : Rows.FnLanesSaid := LanesL.over
end Go.Proofs.Ytfbfnoofapgneaa
