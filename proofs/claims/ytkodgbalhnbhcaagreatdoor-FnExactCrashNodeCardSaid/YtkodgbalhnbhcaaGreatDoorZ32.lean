/-
  The program's goodKeeping: it answers by the plain function, for every cluster that a call has laid itself whose places are good.
-/
import Derived.Test.YtkodgbalhnbhcaaGreatDoorZ23
import Derived.Test.YtkodgbalhnbhcaaGreatDoorZ9
import Derived.Lib.QuietBelow
import Derived.BigQuiet
import Derived.Test.YtkodgbalhnbhcaaGreatDoorZ31
import Derived.Test.YtkodgbalhnbhcaaGreatDoorZ30
import Derived.Test.YtkodgbalhnbhcaaGreatDoorCrashS
namespace Go.Proofs.YtkodgbalhnbhcaaGreatDoor
namespace Clus
open Go.RowKit Base GoodKey Items Store Plc Keep Marks Go.Maps
set_option linter.unusedVariables false

set_option maxRecDepth 10000 in
set_option maxHeartbeats 4000000 in
theorem keep_impl (now nx lim lost : Int) (b1 b2 b3 : Nat) (ns cs : List Nodes.D) (L : List Pls.Pl) (w : World) (hR : CR w b1 b2 b3 ns cs L) (h1 : NodesM.gnB ns = true) (h2 : cs = [] ∨ NodesM.gnB cs = true) (lp : L.length ≤ 16) (fp : ∀ x ∈ L, Pls.Fits x) (hg : ∀ k, k < L.length → gsB (L.getD k Pls.zeroL).lim (L.getD k Pls.zeroL).nx (L.getD k Pls.zeroL).its = true) (hv : Ring.Vars w) :
    Calls Tryz.prog 66 #[.agg #[.int .i64 now, .int .i64 nx, .int .i64 lim, .int .i64 lost, .slice (some ⟨b1, 0, none⟩) ns.length ns.length, .slice (some ⟨b2, 0, none⟩) cs.length cs.length, .slice (some ⟨b3, 0, none⟩) L.length L.length]] w fun e w' => e = .returned (.bool (keepB ⟨now, nx, lim, lost, ns, cs, L.map Pls.core⟩)) ∧ Below w.heap.size w w' := by
  obtain ⟨C, hC⟩ : ∃ C : CC, C = ⟨now, nx, lim, lost, ns, cs, L.map Pls.core⟩ := ⟨_, rfl⟩
  rw [← hC]
  have hCL : C.ps = L.map Pls.core := by rw [hC]
  have hmix : Tryz.prog.follows .mixedOrders = true := by kernel_rfl
  have HMIX := hide hmix
  have HR := hide hR
  have HFP := hide fp
  have HGS := hide hg
  have h3 := goal_good h1 h2
  have HRG := hide (fun w' (hb : Below w.heap.size w w') => rings_any now nx lim lost b1 b2 b3 ns cs L w' (hR.below hb (Nat.le_refl _)) h1 h2 (hv.below hb))
  have HKB := hide (fun k q => @keep_bad C L k q hCL)
  have HKE := hide (@keep_end C L hCL)
  have e3 : C.ns = ns := by rw [hC]
  have e4 : C.cs = cs := by rw [hC]
  rw [e3, e4] at HKB HKE
  have p1 := Ring.points_pos h1
  have p2 := Ring.points_len h1
  have p3 := Ring.points_pos h3
  have p4 := Ring.points_len h3
  have HOF := hide (fun (g c : Nat) (key : ByteArray) w' hr hk => Ring.ownerIn_some g c (Ring.points ns).length (Ring.ring (Ring.points ns)) key w' hr (Ring.ring_length _) (by omega) (by omega) (Ring.ring_sorted _) hk)
  have HOT := hide (fun (g c : Nat) (key : ByteArray) w' hr hk => Ring.ownerIn_some g c (Ring.points (goal ns cs)).length (Ring.ring (Ring.points (goal ns cs))) key w' hr (Ring.ring_length _) (by omega) (by omega) (Ring.ring_sorted _) hk)
  have HOO : Hid (∀ key, Ring.ownerN (Ring.ring (Ring.points ns)) (Hash.hashN key.data.toList) = own ns key) := fun _ => rfl
  have HOP : Hid (∀ key, Ring.ownerN (Ring.ring (Ring.points (goal ns cs))) (Hash.hashN key.data.toList) = own (goal ns cs) key) := fun _ => rfl
  clear e3 e4 hCL fp hg hmix hC hR h1 h2 h3 hv p1 p3
  generalize (Ring.points ns).length = n1 at HRG HOF p2
  generalize (Ring.points (goal ns cs)).length = n2 at HRG HOT p4
  generalize Ring.ring (Ring.points ns) = R1 at HRG HOF HOO
  generalize Ring.ring (Ring.points (goal ns cs)) = R2 at HRG HOT HOP
  have hmm := @run_makeMap Tryz.prog
  go_enter Tryz.func66, Tryz.ntmps66
  go_wp2_with fail
  refine (unhide HRG _ (bel1 w _)).mono ?_
  rintro e w1 ⟨g1, c1, g2, c2, rfl, hr1, hr2, hb1⟩
  simp only [World.size_alloc] at hb1
  have B1 := hide ((bel1 w _).trans (hb1.mono (by omega)))
  have X1 := hide hb1
  have hz1 : w.heap.size + 1 ≤ w1.heap.size := by have := hb1.size; simp at this; omega
  have S1 := hide hr1
  have S2 := hide hr2
  have hx1 := boxcell hb1
  have HCF := hide (fun (key : ByteArray) w' (hb : Below w1.heap.size w1 w') hk => unhide HOF g1 c1 key w' ((unhide S1).below hb (unhide S1).lt) hk)
  have HCT := hide (fun (key : ByteArray) w' (hb : Below w1.heap.size w1 w') hk => unhide HOT g2 c2 key w' ((unhide S2).below hb (unhide S2).lt) hk)
  have hgl1 := (unhide S1).lt
  have hgl2 := (unhide S2).lt
  have M1 : Hid (((w1.alloc (.map #[] 0)).alloc (.map #[] 0)).ownsMap Tryz.prog 9 (unitElem (H := Unit)) w1.heap.size 0 (Maps.setOf (.agg []) (([] : List Itm).map kL))) := (World.ownsMap_made w1 Tryz.prog 9 (unitElem (H := Unit))).alloc _
  have M2 : Hid (((w1.alloc (.map #[] 0)).alloc (.map #[] 0)).ownsMap Tryz.prog 3 (unitElem (H := Unit)) (w1.heap.size + 1) 0 (Maps.setOf (.agg []) (([] : List Itm).map tL))) := by
    have h := World.ownsMap_made (w1.alloc (.map #[] 0)) Tryz.prog 3 (unitElem (H := Unit))
    rw [World.size_alloc] at h
    exact h
  have BM : Hid (Below w1.heap.size w1 ((w1.alloc (.map #[] 0)).alloc (.map #[] 0))) := ((Below.refl _ _).alloc (Nat.le_refl _) _).alloc (by simp) _
  have hbw1 : w.heap.size < w1.heap.size := by omega
  clear hb1 hr1 hr2 HOF HOT HRG S1 S2
  go_wp2
  clear hx1 hmm
  go_loopw [7, 22] (fun mv iv wr => ∃ (k n : Nat), k ≤ L.length ∧ iv = .int .i64 (k : Int) ∧ mv = .int .i64 (n : Int) ∧ n ≤ k * 60 ∧ Hid (n = (fl L k).length) ∧ Hid (∀ j, j < k → ∀ q, q < (L.getD j Pls.zeroL).its.length → homeB ns cs (L.getD j Pls.zeroL).name ((L.getD j Pls.zeroL).its.getD q zero) = true) ∧
      Hid (wr.ownsMap Tryz.prog 9 (unitElem (H := Unit)) w1.heap.size n (Maps.setOf (.agg []) ((fl L k).map kL))) ∧ Hid (wr.ownsMap Tryz.prog 3 (unitElem (H := Unit)) (w1.heap.size + 1) n (Maps.setOf (.agg []) ((fl L k).map tL))) ∧ Hid (Below w1.heap.size w1 wr)) (fun _ iv _ => L.length - (intOf iv).toNat)
  case atStart => exact ⟨0, 0, Nat.zero_le _, rfl, rfl, Nat.zero_le _, hide (by simp [fl]), hide (fun j hj => absurd hj (by omega)), M1, M2, BM⟩
  case round =>
    obtain ⟨k, n, hk, rfl, rfl, hn60, hn, hho, hmk, hmt, hbk⟩ := hrel
    obtain ⟨wk, hname⟩ : ∃ v, v = wr := ⟨_, rfl⟩
    subst hname
    have hzk := (unhide hbk).size
    have hzt : w1.heap.size + 1 < wk.heap.size := (unhide hmt).lt
    have BK := hide ((unhide B1).trans ((unhide hbk).mono (unhide B1).size))
    by_cases hlt : k < L.length
    case neg =>
      obtain rfl : k = L.length := by omega
      have H := hide (unhide HKE (unhide hho))
      rw [← unhide hn] at H
      generalize Maps.setOf (.agg []) ((fl L L.length).map kL) = Dk at H hmk
      generalize Maps.setOf (.agg []) ((fl L L.length).map tL) = Dt at H hmt
      have hlk := fun ty => (unhide hmk).len Tryz.underlying134 ty
      have hlt' := fun ty => (unhide hmt).len Tryz.underlying135 ty
      generalize Maps.size Dk = nk at H hlk
      generalize Maps.size Dt = nt at H hlt'
      clear hmk hmt hn hho
      by_cases a1 : (nk : Int) = (n : Int)
      · have a2 : ((nk : Int) == (n : Int)) = true := by simpa using a1
        have a3 := decide_eq_true a1
        by_cases d1 : (nt : Int) = (n : Int)
        · have d2 : ((nt : Int) == (n : Int)) = true := by simpa using d1
          have d3 := decide_eq_true d1
          rw [a3, d3] at H
          clear a1 d1
          go_wp2
          go_ret
          exact ⟨ret_bool (unhide H).symm, unhide BK⟩
        · have d2 : ((nt : Int) == (n : Int)) = false := by simpa using d1
          have d3 := decide_eq_false d1
          rw [a3, d3] at H
          clear a1 d1
          go_wp2
          go_ret
          exact ⟨ret_bool (unhide H).symm, unhide BK⟩
      · have a2 : ((nk : Int) == (n : Int)) = false := by simpa using a1
        have a3 := decide_eq_false a1
        rw [a3] at H
        clear a1
        go_wp2
        go_ret
        exact ⟨ret_bool (unhide H).symm, unhide BK⟩
    have XK := hide ((unhide X1).trans ((unhide hbk).mono hz1))
    obtain ⟨c0, c1', c2', c3⟩ := Pls.lcell_at ((unhide HR).below (unhide BK) (Nat.le_refl _)).p.row k hlt
    rw [Nat.zero_add] at c0 c1' c2' c3
    have HSTR := hide (fun w' (hb : Below w.heap.size w w') => ((unhide HR).below hb (Nat.le_refl _)).p.str k hlt)
    have HFK := hide (unhide HFP _ (Pls.getD_mem hlt))
    have hi60 := (gs_item (unhide HGS k hlt)).1
    have HIT := hide (gs_item (unhide HGS k hlt)).2
    have hKB := hide (fun q => unhide HKB k q hlt)
    have HFL := hide (fl_succ hlt)
    have HHO : Hid (∀ y, L.getD k Pls.zeroL = y → (∀ q, q < y.its.length → homeB ns cs y.name (y.its.getD q zero) = true) → ∀ j, j < k + 1 → ∀ q, q < (L.getD j Pls.zeroL).its.length → homeB ns cs (L.getD j Pls.zeroL).name ((L.getD j Pls.zeroL).its.getD q zero) = true) := fun y e h j hj => if ej : j = k then (by rw [ej, e]; exact h) else unhide hho j (by omega)
    have HHO := hide (unhide HHO _ rfl)
    generalize L.getD k Pls.zeroL = x at c0 c1' c2' c3 HSTR HFK hi60 HIT hKB HFL HHO
    have ha := (unhide HSTR w (Below.refl _ _)).1
    have hca := (unhide HSTR w (Below.refl _ _)).2.2
    rw [ha, hca] at c3
    clear ha hca hho
    generalize hgi : Pls.blk x = gi at c3
    have HBK := hide hgi
    clear hgi
    go_wp2_with fail
    have q0 : (wk.alloc (.cells #[.string x.name, .int .i64 x.lim, .int .i64 x.nx, .slice (some ⟨gi, 0, none⟩) x.its.length x.its.length] 59)).cell? ⟨wk.heap.size, 0, none⟩ = some (.string x.name) := by rw [World.cell?_alloc_new]; rfl
    have MK := hide ((unhide hmk).alloc (.cells #[.string x.name, .int .i64 x.lim, .int .i64 x.nx, .slice (some ⟨gi, 0, none⟩) x.its.length x.its.length] 59))
    have MT := hide ((unhide hmt).alloc (.cells #[.string x.name, .int .i64 x.lim, .int .i64 x.nx, .slice (some ⟨gi, 0, none⟩) x.its.length x.its.length] 59))
    have BW := hide ((unhide hbk).alloc hzk (.cells #[.string x.name, .int .i64 x.lim, .int .i64 x.nx, .slice (some ⟨gi, 0, none⟩) x.its.length x.its.length] 59))
    have EL : Hid (fl L k = fl L k ++ x.its.take 0) := hide (by simp)
    rw [unhide EL] at MK MT hn
    clear EL
    have hzW : wk.heap.size < (wk.alloc (.cells #[.string x.name, .int .i64 x.lim, .int .i64 x.nx, .slice (some ⟨gi, 0, none⟩) x.its.length x.its.length] 59)).heap.size := by simp
    generalize wk.alloc (.cells #[.string x.name, .int .i64 x.lim, .int .i64 x.nx, .slice (some ⟨gi, 0, none⟩) x.its.length x.its.length] 59) = W at q0 MK MT BW hzW ⊢
    clear c0 c1' c2' c3 hmk hmt hbk XK BK
    generalize wk.heap.size = pb at q0 hzW hzk hzt ⊢
    have P0 := hide q0
    clear q0
    go_loopw [7, 30] (fun mv iv wr => ∃ (q n : Nat), q ≤ x.its.length ∧ iv = .int .i64 (q : Int) ∧ mv = .int .i64 (n : Int) ∧ n ≤ k * 60 + q ∧ Hid (n = (fl L k ++ x.its.take q).length) ∧ Hid (∀ r, r < q → homeB ns cs x.name (x.its.getD r zero) = true) ∧
      Hid (wr.ownsMap Tryz.prog 9 (unitElem (H := Unit)) w1.heap.size n (Maps.setOf (.agg []) ((fl L k ++ x.its.take q).map kL))) ∧ Hid (wr.ownsMap Tryz.prog 3 (unitElem (H := Unit)) (w1.heap.size + 1) n (Maps.setOf (.agg []) ((fl L k ++ x.its.take q).map tL))) ∧ Hid (wr.cell? ⟨pb, 0, none⟩ = some (.string x.name)) ∧ Hid (Below w1.heap.size w1 wr)) (fun _ iv _ => x.its.length - (intOf iv).toNat)
    case atStart => exact ⟨0, n, Nat.zero_le _, rfl, rfl, by omega, hn, hide (fun r hr => absurd hr (by omega)), MK, MT, P0, BW⟩
    case round =>
      obtain ⟨q, n, hq, rfl, rfl, hnq, hn, hhr, hmk, hmt, hpc, hbq⟩ := hrel
      obtain ⟨wq, hname⟩ : ∃ v, v = wr := ⟨_, rfl⟩
      subst hname
      have hzq := (unhide hbq).size
      by_cases hql : q < x.its.length
      case neg =>
        obtain rfl : q = x.its.length := by omega
        rw [List.take_length, ← unhide HFL] at hn hmk hmt
        have HH := hide (unhide HHO (unhide hhr))
        go_wp2
        go_roundw
        case rel => exact ⟨k + 1, n, by omega, by go_num, rfl, by omega, hn, HH, hmk, hmt, hbq⟩
        case measure => simp [intOf]; omega
      have BQ := hide ((unhide B1).trans ((unhide hbq).mono (unhide B1).size))
      obtain ⟨e0, e1, e2, e3, e4⟩ := Items.at_row (unhide HSTR wq (unhide BQ)).2.1 q hql
      rw [Nat.zero_add, unhide HBK] at e0 e1 e2 e3 e4
      have HFI := hide (Items.fits_getD (unhide HFK).2.2.2 q hql)
      have HIB := hide (unhide HIT q hql)
      have hKB1 := hide (unhide hKB q hql)
      have HTI := hide (take_it hql (fl L k))
      have HHR : Hid (∀ y, x.its.getD q zero = y → homeB ns cs x.name y = true → ∀ r, r < q + 1 → homeB ns cs x.name (x.its.getD r zero) = true) := fun y e h r hr => if er : r = q then (by rw [er, e]; exact h) else unhide hhr r (by omega)
      have HHR := hide (unhide HHR _ rfl)
      generalize x.its.getD q zero = it at e0 e1 e2 e3 e4 HFI HIB hKB1 HTI HHR
      rw [home_goal] at hKB1 HHR
      have hOF := fun w' (hb : Below w1.heap.size w1 w') => unhide HCF it.key w' hb (unhide HFI).1
      have hOT := fun w' (hb : Below w1.heap.size w1 w') => unhide HCT it.key w' hb (unhide HFI).1
      rw [unhide HOO] at hOF
      rw [unhide HOP] at hOT
      generalize own ns it.key = o1 at hOF hKB1 HHR
      generalize own (goal ns cs) it.key = o2 at hOT hKB1 HHR
      have HOF := hide hOF
      have HOT := hide hOT
      clear hOF hOT
      have p0 := unhide hpc
      go_wp2_with fail
      have i0 : (wq.alloc (.cells #[.string it.key, .int .i64 it.flags, .string it.data, .int .i64 it.upto, .int .i64 it.token] 85)).cell? ⟨wq.heap.size, 0, none⟩ = some (.string it.key) := by rw [World.cell?_alloc_new]; rfl
      have i4 : (wq.alloc (.cells #[.string it.key, .int .i64 it.flags, .string it.data, .int .i64 it.upto, .int .i64 it.token] 85)).cell? ⟨wq.heap.size, 4, none⟩ = some (.int .i64 it.token) := by rw [World.cell?_alloc_new]; rfl
      have MK := hide ((unhide hmk).alloc (.cells #[.string it.key, .int .i64 it.flags, .string it.data, .int .i64 it.upto, .int .i64 it.token] 85))
      have MT := hide ((unhide hmt).alloc (.cells #[.string it.key, .int .i64 it.flags, .string it.data, .int .i64 it.upto, .int .i64 it.token] 85))
      have BU := hide ((unhide hbq).alloc hzq (.cells #[.string it.key, .int .i64 it.flags, .string it.data, .int .i64 it.upto, .int .i64 it.token] 85))
      have p0 : (wq.alloc (.cells #[.string it.key, .int .i64 it.flags, .string it.data, .int .i64 it.upto, .int .i64 it.token] 85)).cell? ⟨pb, 0, none⟩ = some (.string x.name) := ((bel1 wq (.cells #[.string it.key, .int .i64 it.flags, .string it.data, .int .i64 it.upto, .int .i64 it.token] 85)).cell (p := ⟨pb, 0, none⟩) (block_lt_of_cell p0)).trans p0
      have hzU : wq.heap.size < (wq.alloc (.cells #[.string it.key, .int .i64 it.flags, .string it.data, .int .i64 it.upto, .int .i64 it.token] 85)).heap.size := by simp
      have hpq : pb < wq.heap.size := block_lt_of_cell (unhide hpc)
      generalize wq.alloc (.cells #[.string it.key, .int .i64 it.flags, .string it.data, .int .i64 it.upto, .int .i64 it.token] 85) = U at i0 i4 MK MT BU p0 hzU ⊢
      clear e0 e1 e2 e3 e4 hmk hmt hbq hpc BQ
      generalize wq.heap.size = ib at i0 i4 hzU hzq hpq ⊢
      have I0 := hide i0
      have I4 := hide i4
      have P1 := hide p0
      have cF := fun d os => Calls.regrown_of (unhide HOF (Go.Sort.grow (redrawn U d) os) ((unhide BU).trans ((below_regrown U d os).mono (unhide BU).size)))
      have cT := fun d os => Calls.regrown_of (unhide HOT (Go.Sort.grow (redrawn U d) os) ((unhide BU).trans ((below_regrown U d os).mono (unhide BU).size)))
      have i0 := cell_regrown i0
      have p0 := cell_regrown p0
      by_cases hh1 : o1 = x.name
      · have hs1 := str_eq hh1
        have HH2 := hide (unhide HHR (by rw [decide_eq_true hh1]; rfl))
        clear hh1 hKB1 HHR
        refine wp_region_quiet_below (unhide HMIX) (by kernel_rfl) ?_
        clear cT
        repeat (go_big_quiet_step (exact cF _ _))
        refine wpQuiet_nil ?_
        intro _ hw'
        obtain ⟨⟨dq, osq⟩, hw''⟩ := hw'
        subst hw''
        have hbu := below_regrown U dq osq
        clear i0 p0 cF
        generalize (Go.Sort.grow (redrawn U dq) osq) = u at hbu ⊢
        have MK := hide (map_below (unhide MK) hbu (by have := (unhide MK).lt; omega))
        have MT := hide (map_below (unhide MT) hbu (by have := (unhide MT).lt; omega))
        have BU := hide ((unhide BU).trans (hbu.mono (unhide BU).size))
        have i0 : u.cell? ⟨ib, 0, none⟩ = some (.string it.key) := (hbu.cell (p := ⟨ib, 0, none⟩) hzU).trans (unhide I0)
        have i4 : u.cell? ⟨ib, 4, none⟩ = some (.int .i64 it.token) := (hbu.cell (p := ⟨ib, 4, none⟩) hzU).trans (unhide I4)
        have p0 : u.cell? ⟨pb, 0, none⟩ = some (.string x.name) := (hbu.cell (p := ⟨pb, 0, none⟩) (by show pb < U.heap.size; omega)).trans (unhide P1)
        have hzu : U.heap.size ≤ u.heap.size := hbu.size
        have HP := hide p0
        clear hbu p0
        have HKEY : Hid (keyOf Tryz.prog 9 (.string it.key) = some (kL it)) := Go.WideMaps.keyOf_string_mk Tryz.underlying9 (unhide HFI).1
        have HTOK : Hid (keyOf Tryz.prog 3 (.int .i64 it.token) = some (tL it)) := keyOf_int_mk Tryz.underlying3 (WalkArith.wf_i64 (by have := (itemB_iff it).1 (unhide HIB); omega))
        go_wp2_with (at_mapUpdate; go_loud (refine wpList_mapUpdate_in _ rfl _ _ _ 134 rfl 9 137 keyLaw Tryz.underlying134 _ w1.heap.size n _ rfl (unhide MK) (by unfold maxLen; omega) _ _ _ rfl rfl (unhide HKEY) _ [] unitElem_mk ?_))
        intro w5 hown5 hturn5
        have hg5 := hturn5.grown
        have i4 : w5.cell? ⟨ib, 4, none⟩ = some (.int .i64 it.token) := (World.cell?_of_block (a := ⟨ib, 4, none⟩) (hg5.block ib (by omega) (by simp; omega))).trans i4
        have HP5 : Hid (w5.cell? ⟨pb, 0, none⟩ = some (.string x.name)) := (World.cell?_of_block (a := ⟨pb, 0, none⟩) (hg5.block pb (by omega) (by simp; omega))).trans (unhide HP)
        have MK5 := hide hown5
        have MT5 := hide ((unhide MT).kept hg5 (by simp))
        have B5 := hide ((unhide BU).grown hg5 (unhide BU).size (fun j e => by simp at e; omega))
        have hz5 := hg5.size
        clear i0 hg5 hown5 hturn5 MK MT HKEY BU HP
        go_wp2_with (at_mapUpdate; go_loud (refine wpList_mapUpdate_in _ rfl _ _ _ 135 rfl 3 137 tokLaw Tryz.underlying135 _ (w1.heap.size + 1) n _ rfl (unhide MT5) (by unfold maxLen; omega) _ _ _ rfl rfl (unhide HTOK) _ [] unitElem_mk ?_))
        intro w6 hown6 hturn6
        have hg6 := hturn6.grown
        have HP6 : Hid (w6.cell? ⟨pb, 0, none⟩ = some (.string x.name)) := (World.cell?_of_block (a := ⟨pb, 0, none⟩) (hg6.block pb (by omega) (by simp; omega))).trans (unhide HP5)
        have MT6 := hide hown6
        have MK6 := hide ((unhide MK5).kept hg6 (by simp))
        have B6 := hide ((unhide B5).grown hg6 (unhide B5).size (fun j e => by simp at e; omega))
        clear i4 hg6 hown6 hturn6 MK5 MT5 HTOK B5 HP5
        have HN : Hid (n + 1 = (fl L k ++ x.its.take (q + 1)).length) := hide (by rw [unhide HTI, List.length_append, ← unhide hn]; rfl)
        have hwr : IntKind.i64.wrap ((n : Int) + 1) = ((n + 1 : Nat) : Int) := by rw [IntKind.wrap_i64]; omega
        go_wp2
        go_roundw
        case rel =>
          refine ⟨q + 1, n + 1, by omega, by go_num, by first | rfl | go_num, by omega, HN, HH2, ?_, ?_, HP6, B6⟩
          · have h := unhide MK6; rw [unhide HTI, List.map_append, List.map_cons, List.map_nil, setOf_snoc]; refine hide ?_; simpa only [List.map_append, List.map_take] using h
          · have h := unhide MT6; rw [unhide HTI, List.map_append, List.map_cons, List.map_nil, setOf_snoc]; refine hide ?_; simpa only [List.map_append, List.map_take] using h
        case measure => simp [intOf]; omega
      have hs1 := str_ne hh1
      by_cases hh2 : o2 = x.name
      · have hs2 := str_eq hh2
        have HH2 := hide (unhide HHR (by rw [decide_eq_true hh2]; simp))
        clear hh1 hh2 hKB1 HHR
        refine wp_region_quiet_below (unhide HMIX) (by kernel_rfl) ?_
        iterate 5 (go_big_quiet_step (exact cF _ _))
        clear cF
        repeat (go_big_quiet_step (exact cT _ _))
        refine wpQuiet_nil ?_
        intro _ hw'
        obtain ⟨⟨dq, osq⟩, hw''⟩ := hw'
        subst hw''
        have hbu := below_regrown U dq osq
        clear i0 p0 cT
        generalize (Go.Sort.grow (redrawn U dq) osq) = u at hbu ⊢
        have MK := hide (map_below (unhide MK) hbu (by have := (unhide MK).lt; omega))
        have MT := hide (map_below (unhide MT) hbu (by have := (unhide MT).lt; omega))
        have BU := hide ((unhide BU).trans (hbu.mono (unhide BU).size))
        have i0 : u.cell? ⟨ib, 0, none⟩ = some (.string it.key) := (hbu.cell (p := ⟨ib, 0, none⟩) hzU).trans (unhide I0)
        have i4 : u.cell? ⟨ib, 4, none⟩ = some (.int .i64 it.token) := (hbu.cell (p := ⟨ib, 4, none⟩) hzU).trans (unhide I4)
        have p0 : u.cell? ⟨pb, 0, none⟩ = some (.string x.name) := (hbu.cell (p := ⟨pb, 0, none⟩) (by show pb < U.heap.size; omega)).trans (unhide P1)
        have hzu : U.heap.size ≤ u.heap.size := hbu.size
        have HP := hide p0
        clear hbu p0
        have HKEY : Hid (keyOf Tryz.prog 9 (.string it.key) = some (kL it)) := Go.WideMaps.keyOf_string_mk Tryz.underlying9 (unhide HFI).1
        have HTOK : Hid (keyOf Tryz.prog 3 (.int .i64 it.token) = some (tL it)) := keyOf_int_mk Tryz.underlying3 (WalkArith.wf_i64 (by have := (itemB_iff it).1 (unhide HIB); omega))
        go_wp2_with (at_mapUpdate; go_loud (refine wpList_mapUpdate_in _ rfl _ _ _ 134 rfl 9 137 keyLaw Tryz.underlying134 _ w1.heap.size n _ rfl (unhide MK) (by unfold maxLen; omega) _ _ _ rfl rfl (unhide HKEY) _ [] unitElem_mk ?_))
        intro w5 hown5 hturn5
        have hg5 := hturn5.grown
        have i4 : w5.cell? ⟨ib, 4, none⟩ = some (.int .i64 it.token) := (World.cell?_of_block (a := ⟨ib, 4, none⟩) (hg5.block ib (by omega) (by simp; omega))).trans i4
        have HP5 : Hid (w5.cell? ⟨pb, 0, none⟩ = some (.string x.name)) := (World.cell?_of_block (a := ⟨pb, 0, none⟩) (hg5.block pb (by omega) (by simp; omega))).trans (unhide HP)
        have MK5 := hide hown5
        have MT5 := hide ((unhide MT).kept hg5 (by simp))
        have B5 := hide ((unhide BU).grown hg5 (unhide BU).size (fun j e => by simp at e; omega))
        have hz5 := hg5.size
        clear i0 hg5 hown5 hturn5 MK MT HKEY BU HP
        go_wp2_with (at_mapUpdate; go_loud (refine wpList_mapUpdate_in _ rfl _ _ _ 135 rfl 3 137 tokLaw Tryz.underlying135 _ (w1.heap.size + 1) n _ rfl (unhide MT5) (by unfold maxLen; omega) _ _ _ rfl rfl (unhide HTOK) _ [] unitElem_mk ?_))
        intro w6 hown6 hturn6
        have hg6 := hturn6.grown
        have HP6 : Hid (w6.cell? ⟨pb, 0, none⟩ = some (.string x.name)) := (World.cell?_of_block (a := ⟨pb, 0, none⟩) (hg6.block pb (by omega) (by simp; omega))).trans (unhide HP5)
        have MT6 := hide hown6
        have MK6 := hide ((unhide MK5).kept hg6 (by simp))
        have B6 := hide ((unhide B5).grown hg6 (unhide B5).size (fun j e => by simp at e; omega))
        clear i4 hg6 hown6 hturn6 MK5 MT5 HTOK B5 HP5
        have HN : Hid (n + 1 = (fl L k ++ x.its.take (q + 1)).length) := hide (by rw [unhide HTI, List.length_append, ← unhide hn]; rfl)
        have hwr : IntKind.i64.wrap ((n : Int) + 1) = ((n + 1 : Nat) : Int) := by rw [IntKind.wrap_i64]; omega
        go_wp2
        go_roundw
        case rel =>
          refine ⟨q + 1, n + 1, by omega, by go_num, by first | rfl | go_num, by omega, HN, HH2, ?_, ?_, HP6, B6⟩
          · have h := unhide MK6; rw [unhide HTI, List.map_append, List.map_cons, List.map_nil, setOf_snoc]; refine hide ?_; simpa only [List.map_append, List.map_take] using h
          · have h := unhide MT6; rw [unhide HTI, List.map_append, List.map_cons, List.map_nil, setOf_snoc]; refine hide ?_; simpa only [List.map_append, List.map_take] using h
        case measure => simp [intOf]; omega
      have hs2 := str_ne hh2
      have H := hide (unhide hKB1 (by rw [decide_eq_false hh1, decide_eq_false hh2]; rfl))
      have BF := hide ((unhide B1).trans ((unhide BU).mono (unhide B1).size))
      clear hh1 hh2 hKB1 HHR
      refine wp_region_quiet_below (unhide HMIX) (by kernel_rfl) ?_
      iterate 5 (go_big_quiet_step (exact cF _ _))
      clear cF
      repeat (go_big_quiet_step (exact cT _ _))
      refine wpQuiet_nil ?_
      intro _ hw'
      obtain ⟨⟨dq, osq⟩, hw''⟩ := hw'
      subst hw''
      have BF := hide ((unhide BF).trans ((below_regrown U dq osq).mono (unhide BF).size))
      clear i0 p0 cT
      generalize (Go.Sort.grow (redrawn U dq) osq) = u at BF ⊢
      go_wp2
      go_ret
      exact ⟨ret_bool (unhide H).symm, unhide BF⟩
end Clus
end Go.Proofs.YtkodgbalhnbhcaaGreatDoor
/-
  The program's GoodCluster: it answers by the plain function, for every cluster that a call has laid itself.
-/
namespace Go.Proofs.YtkodgbalhnbhcaaGreatDoor
namespace Clus
open Go.RowKit Base GoodKey Items Store Plc Marks
set_option linter.unusedVariables false

theorem gnow_any (n : Int) (w : World) : Calls Tryz.prog 60 #[.int .i64 n] w fun e w' => e = .returned (.bool (inB n 0 1000000000)) ∧ w' = w := by
  go_enter Tryz.func60, Tryz.ntmps60
  go_wp2
  all_goals
    go_ret
    refine ⟨ret_bool ?_, rfl⟩
    simp [inB]; omega
theorem gnext_any (n : Int) (w : World) : Calls Tryz.prog 61 #[.int .i64 n] w fun e w' => e = .returned (.bool (inB n 1 1000000000)) ∧ w' = w := by
  go_enter Tryz.func61, Tryz.ntmps61
  go_wp2
  all_goals
    go_ret
    refine ⟨ret_bool ?_, rfl⟩
    simp [inB]; omega
theorem glimit_any (n : Int) (w : World) : Calls Tryz.prog 62 #[.int .i64 n] w fun e w' => e = .returned (.bool (inB n 0 10000)) ∧ w' = w := by
  go_enter Tryz.func62, Tryz.ntmps62
  go_wp2
  all_goals
    go_ret
    refine ⟨ret_bool ?_, rfl⟩
    simp [inB]; omega
theorem inodes_row (b : Nat) (l : List Nodes.D) (t : TypeId) (w : World) (h : w.rowIs b t (l.length * 2) (Nodes.icell l)) (hl : l.length ≤ maxLen) (hf : ∀ x ∈ l, Nodes.Fits x) :
    Calls Tryz.prog 63 #[.slice (some ⟨b, 0, none⟩) l.length l.length] w fun e w' => e = .returned (.bool (NodesM.gnB l)) ∧ Below w.heap.size w w' :=
  NodesM.inodes_some b 0 l.length l w h.lt (Nodes.at_row h) hl hf
theorem places_use {c : CC} {L : List Pls.Pl} (hL : c.ps = L.map Pls.core) (h : placesB c = true) (hn : c.ns.length ≤ 8) (hc : c.cs.length ≤ 8) : L.length ≤ 16 ∧ ∀ k, k < L.length → gsB (L.getD k Pls.zeroL).lim (L.getD k Pls.zeroL).nx (L.getD k Pls.zeroL).its = true := by
  unfold placesB at h
  rw [Bool.and_eq_true, decide_eq_true_eq, List.all_eq_true] at h
  have hlen : c.ps.length = L.length := by rw [hL]; simp
  have h1 := insAll_len (c.ns.map (·.name) ++ c.cs.map (·.name))
  rw [List.length_append, List.length_map, List.length_map] at h1
  have h2 : (names c).length = L.length := h.1.trans hlen
  have h3 : (names c).length ≤ c.ns.length + c.cs.length := h1
  refine ⟨by omega, fun k hk => ?_⟩
  exact ((pl_iff hL).1 (h.2 k (by simpa [hlen] using hk))).2.1

set_option maxRecDepth 10000 in
set_option maxHeartbeats 4000000 in
theorem good_impl (now nx lim lost : Int) (b1 b2 b3 : Nat) (ns cs : List Nodes.D) (L : List Pls.Pl) (w : World) (hR : CR w b1 b2 b3 ns cs L) (ln : ns.length ≤ 1048576) (fn : ∀ x ∈ ns, Nodes.Fits x) (lc : cs.length ≤ 1048576) (fc : ∀ x ∈ cs, Nodes.Fits x) (lp : L.length ≤ 1048576) (fp : ∀ x ∈ L, Pls.Fits x) (hv : Ring.Vars w) :
    Calls Tryz.prog 24 #[.agg #[.int .i64 now, .int .i64 nx, .int .i64 lim, .int .i64 lost, .slice (some ⟨b1, 0, none⟩) ns.length ns.length, .slice (some ⟨b2, 0, none⟩) cs.length cs.length, .slice (some ⟨b3, 0, none⟩) L.length L.length]] w fun e w' => e = .returned (.bool (gcB ⟨now, nx, lim, lost, ns, cs, L.map Pls.core⟩)) ∧ Below w.heap.size w w' := by
  obtain ⟨C, hC⟩ : ∃ C : CC, C = ⟨now, nx, lim, lost, ns, cs, L.map Pls.core⟩ := ⟨_, rfl⟩
  rw [← hC]
  have hCL : C.ps = L.map Pls.core := by rw [hC]
  have hEQ := gc_eq C
  have mn : ns.length ≤ maxLen := by unfold maxLen; omega
  have mc : cs.length ≤ maxLen := by unfold maxLen; omega
  have GN := hide (fun w' (hb : Below w.heap.size w w') => inodes_row b1 ns 76 w' (hR.below hb (Nat.le_refl _)).n mn fn)
  have GC := hide (fun w' (hb : Below w.heap.size w w') => inodes_row b2 cs 76 w' (hR.below hb (Nat.le_refl _)).c mc fc)
  have HM := hide (fun w' => moving_any now nx lim lost b1 b2 b3 ns cs L w')
  cases hh : headB C
  · have H := hide (gc_head hh)
    have hno : Hid (¬ (inB now 0 1000000000 = true ∧ inB nx 1 1000000000 = true ∧ inB lim 0 10000 = true ∧ (0 ≤ lost ∧ lost ≤ 1000000) ∧ NodesM.gnB ns = true ∧ (cs = [] ∨ NodesM.gnB cs = true))) := fun e => by
      have := (head_iff C).2 (by rw [hC]; exact ⟨e.1, e.2.1, e.2.2.1, by simp [inB]; omega, e.2.2.2.2⟩)
      rw [hh] at this; cases this
    rw [unhide H]
    clear hh H hCL hC fn fc fp hR mn mc hEQ hv
    have hE : Hid (cs.length = 0 → cs = []) := fun h => List.length_eq_zero_iff.1 h
    generalize NodesM.gnB ns = gn at GN hno
    generalize NodesM.gnB cs = gc at GC hno
    have hl3 : lost < 0 ∨ 1000000 < lost ∨ (0 ≤ lost ∧ lost ≤ 1000000) := by omega
    rcases hl3 with hl3 | hl3 | hl3
    all_goals
      go_enter Tryz.func24, Tryz.ntmps24
      go_wp2_with (first | (go_at_call 60; refine (gnow_any _ _).mono ?_; rintro e w' ⟨rfl, rfl⟩) | (go_at_call 61; refine (gnext_any _ _).mono ?_; rintro e w' ⟨rfl, rfl⟩) | (go_at_call 62; refine (glimit_any _ _).mono ?_; rintro e w' ⟨rfl, rfl⟩) | fail)
      all_goals try (go_ret; exact ⟨rfl, bel1 w _⟩)
    refine (unhide GN _ (bel1 w _)).mono ?_
    rintro e w1 ⟨rfl, hb1⟩
    have B1 := hide ((bel1 w _).trans (hb1.mono (by simp)))
    simp only [World.size_alloc] at hb1
    have X1 := hide hb1
    have hz1 : w.heap.size + 1 ≤ w1.heap.size := by have := hb1.size; simp at this; omega
    have hx := boxcell hb1
    clear hb1
    cases gn
    · go_wp2
      go_ret
      exact ⟨rfl, unhide B1⟩
    by_cases hcz : cs.length = 0
    · exact absurd ⟨by assumption, by assumption, by assumption, ⟨by omega, by omega⟩, by first | trivial | rfl, .inl (unhide hE hcz)⟩ (unhide hno)
    have hcp : decide (0 < (cs.length : Int)) = true := by simp; omega
    rw [hcp] at HM
    clear hcp
    go_wp2_with fail
    refine (unhide HM _).mono ?_
    rintro e w2 ⟨rfl, hb2⟩
    have B2 := hide ((unhide B1).trans (hb2.mono (unhide B1).size))
    have hx2 := boxcell ((unhide X1).trans (hb2.mono hz1))
    clear hb2 hx
    go_wp2_with fail
    refine (unhide GC _ (unhide B2)).mono ?_
    rintro e w3 ⟨rfl, hb3⟩
    have B3 := hide ((unhide B2).trans (hb3.mono (unhide B2).size))
    clear hb3 hx2
    cases gc
    · go_wp2
      go_ret
      exact ⟨rfl, unhide B3⟩
    · exact absurd ⟨by assumption, by assumption, by assumption, ⟨by omega, by omega⟩, by first | trivial | rfl, by first | exact .inr rfl | (right; trivial) | trivial⟩ (unhide hno)
  obtain ⟨g1, g2, g3, g4, g5, g6⟩ : inB now 0 1000000000 = true ∧ inB nx 1 1000000000 = true ∧ inB lim 0 10000 = true ∧ inB lost 0 1000000 = true ∧ NodesM.gnB ns = true ∧ (cs = [] ∨ NodesM.gnB cs = true) := by
    have := (head_iff C).1 hh
    rw [hC] at this
    exact this
  have g4' : 0 ≤ lost ∧ lost ≤ 1000000 := by simp [inB] at g4; omega
  have hn8 := Ring.good_len g5
  have hc8 : cs.length ≤ 8 := by
    rcases g6 with e | e
    · rw [e]; simp
    · exact (Ring.good_len e).2
  have HPI := hide (fun w' (hb : Below w.heap.size w w') => places_impl now nx lim lost b1 b2 b3 ns cs L w' (hR.below hb (Nat.le_refl _)) hn8.2 hc8 (by omega) lp fp)
  have HKI := hide (fun w' (hb : Below w.heap.size w w') (h16 : L.length ≤ 16) hgs => keep_impl now nx lim lost b1 b2 b3 ns cs L w' (hR.below hb (Nat.le_refl _)) g5 g6 h16 fp hgs (hv.below hb))
  rw [← hC] at HPI HKI
  have HUSE := hide (fun h => @places_use C L hCL h (by rw [hC]; exact hn8.2) (by rw [hC]; exact hc8))
  rw [hh, Bool.true_and] at hEQ
  have HEQ := hide hEQ
  rw [g5] at GN
  clear hEQ hh hCL fn fc fp mn mc hC hR hv g4 g5
  generalize placesB C = pB at HPI HEQ HUSE
  generalize keepB C = kB at HKI HEQ
  rcases g6 with g6 | g6
  · have hcp : decide (0 < (cs.length : Int)) = false := by rw [g6]; rfl
    rw [hcp] at HM
    clear hcp g6
    go_enter Tryz.func24, Tryz.ntmps24
    go_wp2_with (first | (go_at_call 60; refine (gnow_any _ _).mono ?_; rintro e w' ⟨rfl, rfl⟩) | (go_at_call 61; refine (gnext_any _ _).mono ?_; rintro e w' ⟨rfl, rfl⟩) | (go_at_call 62; refine (glimit_any _ _).mono ?_; rintro e w' ⟨rfl, rfl⟩) | fail)
    refine (unhide GN _ (bel1 w _)).mono ?_
    rintro e w1 ⟨rfl, hb1⟩
    have B1 := hide ((bel1 w _).trans (hb1.mono (by simp)))
    simp only [World.size_alloc] at hb1
    have X1 := hide hb1
    have hz1 : w.heap.size + 1 ≤ w1.heap.size := by have := hb1.size; simp at this; omega
    have hx1 := boxcell hb1
    clear hb1
    go_wp2_with fail
    refine (unhide HM _).mono ?_
    rintro e w2 ⟨rfl, hb2⟩
    have B2 := hide ((unhide B1).trans (hb2.mono (unhide B1).size))
    have X2 := hide ((unhide X1).trans (hb2.mono hz1))
    have hz2 : w.heap.size + 1 ≤ w2.heap.size := by have := hb2.size; omega
    have hx2 := boxcell (unhide X2)
    clear hb2 hx1 X1
    go_wp2_with fail
    refine (unhide HPI _ (unhide B2)).mono ?_
    rintro e w4 ⟨rfl, hb4⟩
    have B4 := hide ((unhide B2).trans (hb4.mono (unhide B2).size))
    have hx4 := boxcell ((unhide X2).trans (hb4.mono hz2))
    clear hb4 hx2
    cases pB
    · have H : Hid (gcB C = false) := unhide HEQ
      go_wp2
      go_ret
      exact ⟨ret_bool (unhide H).symm, unhide B4⟩
    have HU := hide (unhide HUSE rfl)
    have HKI := hide (unhide HKI w4 (unhide B4) (unhide HU).1 (unhide HU).2)
    have H : Hid (gcB C = kB) := hide (by rw [unhide HEQ]; rfl)
    clear HU HUSE HEQ
    cases kB
    all_goals
      go_wp2_with fail
      refine (unhide HKI).mono ?_
      rintro e w5 ⟨rfl, hb5⟩
      have B5 := hide ((unhide B4).trans (hb5.mono (unhide B4).size))
      clear hb5 hx4
      go_wp2
      go_ret
      exact ⟨ret_bool (unhide H).symm, unhide B5⟩
  · have hcp : decide (0 < (cs.length : Int)) = true := by
      have : 0 < cs.length := List.length_pos_iff.2 (fun e => by rw [e] at g6; simp [NodesM.gnB, inB] at g6)
      simp; omega
    rw [g6] at GC
    rw [hcp] at HM
    clear hcp g6
    go_enter Tryz.func24, Tryz.ntmps24
    go_wp2_with (first | (go_at_call 60; refine (gnow_any _ _).mono ?_; rintro e w' ⟨rfl, rfl⟩) | (go_at_call 61; refine (gnext_any _ _).mono ?_; rintro e w' ⟨rfl, rfl⟩) | (go_at_call 62; refine (glimit_any _ _).mono ?_; rintro e w' ⟨rfl, rfl⟩) | fail)
    refine (unhide GN _ (bel1 w _)).mono ?_
    rintro e w1 ⟨rfl, hb1⟩
    have B1 := hide ((bel1 w _).trans (hb1.mono (by simp)))
    simp only [World.size_alloc] at hb1
    have X1 := hide hb1
    have hz1 : w.heap.size + 1 ≤ w1.heap.size := by have := hb1.size; simp at this; omega
    have hx1 := boxcell hb1
    clear hb1
    go_wp2_with fail
    refine (unhide HM _).mono ?_
    rintro e w2 ⟨rfl, hb2⟩
    have B2 := hide ((unhide B1).trans (hb2.mono (unhide B1).size))
    have X2 := hide ((unhide X1).trans (hb2.mono hz1))
    have hz2 : w.heap.size + 1 ≤ w2.heap.size := by have := hb2.size; omega
    have hx2 := boxcell (unhide X2)
    clear hb2 hx1 X1
    go_wp2_with fail
    refine (unhide GC _ (unhide B2)).mono ?_
    rintro e w3 ⟨rfl, hb3⟩
    have B3 := hide ((unhide B2).trans (hb3.mono (unhide B2).size))
    have X3 := hide ((unhide X2).trans (hb3.mono hz2))
    have hz3 : w.heap.size + 1 ≤ w3.heap.size := by have := hb3.size; omega
    have hx3 := boxcell (unhide X3)
    clear hb3 hx2 X2
    go_wp2_with fail
    refine (unhide HPI _ (unhide B3)).mono ?_
    rintro e w4 ⟨rfl, hb4⟩
    have B4 := hide ((unhide B3).trans (hb4.mono (unhide B3).size))
    have hx4 := boxcell ((unhide X3).trans (hb4.mono hz3))
    clear hb4 hx3
    cases pB
    · have H : Hid (gcB C = false) := unhide HEQ
      go_wp2
      go_ret
      exact ⟨ret_bool (unhide H).symm, unhide B4⟩
    have HU := hide (unhide HUSE rfl)
    have HKI := hide (unhide HKI w4 (unhide B4) (unhide HU).1 (unhide HU).2)
    have H : Hid (gcB C = kB) := hide (by rw [unhide HEQ]; rfl)
    clear HU HUSE HEQ
    cases kB
    all_goals
      go_wp2_with fail
      refine (unhide HKI).mono ?_
      rintro e w5 ⟨rfl, hb5⟩
      have B5 := hide ((unhide B4).trans (hb5.mono (unhide B4).size))
      clear hb5 hx4
      go_wp2
      go_ret
      exact ⟨ret_bool (unhide H).symm, unhide B5⟩
end Clus
end Go.Proofs.YtkodgbalhnbhcaaGreatDoor
/-
  The program's CrashNode: a place that loses all its items.
-/
namespace Go.Proofs.YtkodgbalhnbhcaaGreatDoor
namespace Fleet
open Go.RowKit Base Store Items OwnR Keep Clus Marks Plc
set_option linter.unusedVariables false

/-- How a function ends that tells a cluster, a number and a yes. -/
def End3 (R : CC × Int × Bool) (w : World) (e : Ending) (w' : World) : Prop := ∃ c : Cl, e = .returned (.tuple #[clV c, .int .i64 R.2.1, .bool R.2.2]) ∧ plain c = R.1 ∧ CO w' w.heap.size c ∧ AP c ∧ Below w.heap.size w w'
theorem end3_no {R : CC × Int × Bool} {w w' : World} (h : R = (noCC, 0, false)) (hb : Below w.heap.size w w') : End3 R w (.returned (.tuple #[.agg #[.int .i64 0, .int .i64 0, .int .i64 0, .int .i64 0, .slice none 0 0, .slice none 0 0, .slice none 0 0], .int .i64 0, .bool false])) w' := by
  subst h
  exact ⟨noCl, rfl, rfl, CO.no w' _, ⟨fun q h => by simp [noCl, Value.ownBlock] at h, List.Pairwise.nil⟩, hb⟩

set_option maxRecDepth 10000 in
set_option maxHeartbeats 1000000 in
theorem crash1_any (X nb : Nat) (nm : ByteArray) (w : World) (Q : Ending → World → Prop) (hnb : w.cell? ⟨nb, 0, none⟩ = some (.string nm)) (h : Calls Tryz.prog 36 #[.pointer (some ⟨X, 0, none⟩), .string nm] w fun e w' => ∃ n ok, e = .returned (.tuple #[.int .i64 n, .bool ok]) ∧ Q e w') :
    Calls Tryz.prog 35 #[.pointer (some ⟨X, 0, none⟩), .pointer (some ⟨nb, 0, none⟩)] w Q := by
  have H := hide h
  clear h
  show Calls _ _ _ w (fun e w' => Q e w')
  go_enter Tryz.func35, Tryz.ntmps35
  go_wp2_with fail
  refine (unhide H).mono ?_
  rintro e w1 ⟨n, ok, rfl, hq⟩
  have HQ := hide hq
  clear hq
  go_wp2
  exact unhide HQ

theorem crR_eq {f : Fl} {C : CC} {nm : ByteArray} {k : Nat} {S' : List Nat} (hg : gcB C = true) (hf : f.ps.map pcore = C.ps) (hno : ∀ p ∈ f.ps, p.lost = 0) (hlo : f.lost = C.lost) (hk : k < f.ps.length) (hat : atC C.ps nm = some k) :
    crR C nm = ((⟨C.now, C.nx, C.lim, lostTo f.lost (f.ps.set k (upd (f.ps.getD k zeroP) S' (f.ps.getD k zeroP).lim (f.ps.getD k zeroP).nx (f.ps.getD k zeroP).lost [])), C.ns, C.cs, (f.ps.set k (upd (f.ps.getD k zeroP) S' (f.ps.getD k zeroP).lim (f.ps.getD k zeroP).nx (f.ps.getD k zeroP).lost [])).map pcore⟩ : CC), (((f.ps.getD k zeroP).its.length : Nat) : Int), true) := by
  have hc := core_at hf hk
  have h0 : ∀ p ∈ f.ps.set k (upd (f.ps.getD k zeroP) S' (f.ps.getD k zeroP).lim (f.ps.getD k zeroP).nx (f.ps.getD k zeroP).lost []), p.lost = 0 := by
    intro p hp
    rcases mem_set hp with rfl | ⟨i, hi, _, rfl⟩
    · show (f.ps.getD k zeroP).lost = 0; exact hno _ (getD_mem hk)
    · exact hno _ (List.getElem_mem _)
  rw [crR_some hg hat, lost_none (by rw [hlo]; exact (gc_head' hg).2.1) h0, hlo, List.map_set, hf]
  have e1 : pcore (upd (f.ps.getD k zeroP) S' (f.ps.getD k zeroP).lim (f.ps.getD k zeroP).nx (f.ps.getD k zeroP).lost []) = crashC (C.ps.getD k Pls.zeroC) := by rw [← hc]; rfl
  rw [e1, ← hc]
  rfl

set_option maxRecDepth 10000 in
set_option maxHeartbeats 4000000 in
theorem changed_crash (now nx lim lost : Int) (b1 b2 b3 : Nat) (ns cs : List Nodes.D) (L : List Pls.Pl) (nm : ByteArray) (nb : Nat) (w : World) (hR : CR w b1 b2 b3 ns cs L) (ln : ns.length ≤ 1048576) (fn : ∀ x ∈ ns, Nodes.Fits x) (lc : cs.length ≤ 1048576) (fc : ∀ x ∈ cs, Nodes.Fits x) (lp : L.length ≤ 1048576) (fp : ∀ x ∈ L, Pls.Fits x) (hv : Ring.Vars w) (hnb : w.cell? ⟨nb, 0, none⟩ = some (.string nm)) :
    Calls Tryz.prog 34 #[.agg #[.int .i64 now, .int .i64 nx, .int .i64 lim, .int .i64 lost, .slice (some ⟨b1, 0, none⟩) ns.length ns.length, .slice (some ⟨b2, 0, none⟩) cs.length cs.length, .slice (some ⟨b3, 0, none⟩) L.length L.length], .func (.func 35) #[] #[.pointer (some ⟨nb, 0, none⟩)]] w (End3 (crR ⟨now, nx, lim, lost, ns, cs, L.map Pls.core⟩ nm) w) := by
  obtain ⟨C, hC⟩ : ∃ C : CC, C = ⟨now, nx, lim, lost, ns, cs, L.map Pls.core⟩ := ⟨_, rfl⟩
  rw [← hC]
  have hCL : C.ps = L.map Pls.core := by rw [hC]
  have HGC := hide (fun u (hu : Below w.heap.size w u) => good_impl now nx lim lost b1 b2 b3 ns cs L u (hR.below hu (Nat.le_refl _)) ln fn lc fc lp fp (hv.below hu))
  rw [← hC] at HGC
  have hnl := block_lt_of_cell hnb
  have BW0 := hide (bel2 w (.cells #[.int .i64 now, .int .i64 nx, .int .i64 lim, .int .i64 lost, .slice (some ⟨b1, 0, none⟩) ns.length ns.length, .slice (some ⟨b2, 0, none⟩) cs.length cs.length, .slice (some ⟨b3, 0, none⟩) L.length L.length] 30) zeroB)
  have CX0 : Hid (CB ((w.alloc (.cells #[.int .i64 now, .int .i64 nx, .int .i64 lim, .int .i64 lost, .slice (some ⟨b1, 0, none⟩) ns.length ns.length, .slice (some ⟨b2, 0, none⟩) cs.length cs.length, .slice (some ⟨b3, 0, none⟩) L.length L.length] 30)).alloc zeroB) w.heap.size now nx lim lost (.slice (some ⟨b1, 0, none⟩) ns.length ns.length) (.slice (some ⟨b2, 0, none⟩) cs.length cs.length) (.slice (some ⟨b3, 0, none⟩) L.length L.length)) := (CB.new w now nx lim lost _ _ _).below (bel1 _ zeroB) (by simp)
  have CY0 : Hid (CB ((w.alloc (.cells #[.int .i64 now, .int .i64 nx, .int .i64 lim, .int .i64 lost, .slice (some ⟨b1, 0, none⟩) ns.length ns.length, .slice (some ⟨b2, 0, none⟩) cs.length cs.length, .slice (some ⟨b3, 0, none⟩) L.length L.length] 30)).alloc zeroB) (w.heap.size + 1) 0 0 0 0 (.slice none 0 0) (.slice none 0 0) (.slice none 0 0)) := by
    have := CB.new (w.alloc (.cells #[.int .i64 now, .int .i64 nx, .int .i64 lim, .int .i64 lost, .slice (some ⟨b1, 0, none⟩) ns.length ns.length, .slice (some ⟨b2, 0, none⟩) cs.length cs.length, .slice (some ⟨b3, 0, none⟩) L.length L.length] 30)) 0 0 0 0 (.slice none 0 0) (.slice none 0 0) (.slice none 0 0)
    rw [World.size_alloc] at this
    exact this
  have HR := hide hR
  have HV := hide hv
  have HNB := hide hnb
  have HCE := hide hC
  have HCL := hide hCL
  have hz0 : w.heap.size + 2 ≤ ((w.alloc (.cells #[.int .i64 now, .int .i64 nx, .int .i64 lim, .int .i64 lost, .slice (some ⟨b1, 0, none⟩) ns.length ns.length, .slice (some ⟨b2, 0, none⟩) cs.length cs.length, .slice (some ⟨b3, 0, none⟩) L.length L.length] 30)).alloc zeroB).heap.size := by simp
  clear hR fn fc fp hv hnb hCL hC
  cases hg : gcB C
  · have H : Hid (crR C nm = (noCC, 0, false)) := crR_bad hg
    rw [hg] at HGC
    clear hg
    go_enter Tryz.func34, Tryz.ntmps34
    go_wp2_with fail
    generalize (w.alloc (.cells #[.int .i64 now, .int .i64 nx, .int .i64 lim, .int .i64 lost, .slice (some ⟨b1, 0, none⟩) ns.length ns.length, .slice (some ⟨b2, 0, none⟩) cs.length cs.length, .slice (some ⟨b3, 0, none⟩) L.length L.length] 30)).alloc (.cells #[.int .i64 0, .int .i64 0, .int .i64 0, .int .i64 0, .slice none 0 0, .slice none 0 0, .slice none 0 0] 30) = W at BW0 CX0 CY0 hz0 ⊢
    refine (unhide HGC _ (unhide BW0)).mono ?_
    rintro e w1 ⟨rfl, hb1⟩
    have B1 := hide ((unhide BW0).trans (hb1.mono (unhide BW0).size))
    have CY1 := hide ((unhide CY0).below hb1 (by omega))
    clear hb1
    obtain ⟨y0, y1, y2, y3, y4, y5, y6, yf, yl⟩ := (unhide CY1).cells
    go_wp2
    refine bodyPost_ret (v := .tuple #[.agg #[.int .i64 0, .int .i64 0, .int .i64 0, .int .i64 0, .slice none 0 0, .slice none 0 0, .slice none 0 0], .int .i64 0, .bool false]) (by simp [results, Tryz.results34, go_sem, y0, y1, y2, y3, y4, y5, y6]) rfl (end3_no (unhide H) ?_)
    repeat (refine Below.setCell ?_ (by first | (simp; done) | (simp; omega)) _)
    exact unhide B1
  have HG := hide hg
  rw [hg] at HGC
  have HFO := hide (fun u (hu : Below w.heap.size w u) => fleetOf_any now nx lim lost b1 b2 b3 ns cs L u ((unhide HR).below hu (Nat.le_refl _)) (by rw [← unhide HCE]; exact hg) ((unhide HV).below hu))
  obtain ⟨o1, o2, o3⟩ := gc_ok (unhide HCL) hg
  obtain ⟨d1, d2, d3, d4⟩ := gc_head' hg
  have HOK := hide o3
  have HNS := hide (show ns.length ≤ 1000 ∧ ∀ x ∈ ns, x.name.size ≤ 1048576 from node_small (by have := d3; rw [unhide HCE] at this; exact this))
  have HCS : Hid (cs.length ≤ 1000 ∧ ∀ x ∈ cs, x.name.size ≤ 1048576) := by
    have := d4; rw [unhide HCE] at this
    rcases this with e | e
    · have e' : cs = [] := e
      refine ⟨by rw [e']; simp, fun x hx => by rw [e'] at hx; simp at hx⟩
    · exact node_small e
  have HD := hide (And.intro d1 d2)
  clear d1 d2 d3 d4 o3 hg
  go_enter Tryz.func34, Tryz.ntmps34
  go_wp2_with fail
  generalize (w.alloc (.cells #[.int .i64 now, .int .i64 nx, .int .i64 lim, .int .i64 lost, .slice (some ⟨b1, 0, none⟩) ns.length ns.length, .slice (some ⟨b2, 0, none⟩) cs.length cs.length, .slice (some ⟨b3, 0, none⟩) L.length L.length] 30)).alloc (.cells #[.int .i64 0, .int .i64 0, .int .i64 0, .int .i64 0, .slice none 0 0, .slice none 0 0, .slice none 0 0] 30) = W at BW0 CX0 CY0 hz0 ⊢
  refine (unhide HGC _ (unhide BW0)).mono ?_
  rintro e w1 ⟨rfl, hb1⟩
  have B1 := hide ((unhide BW0).trans (hb1.mono (unhide BW0).size))
  have CX1 := hide ((unhide CX0).below hb1 (by omega))
  have CY1 := hide ((unhide CY0).below hb1 (by omega))
  have hz1 : w.heap.size + 2 ≤ w1.heap.size := Nat.le_trans hz0 hb1.size
  clear hb1 BW0 CX0 CY0 hz0 W HGC
  obtain ⟨x0, x1, x2, x3, x4, x5, x6, xf, xl⟩ := (unhide CX1).cells
  go_wp2_with fail
  refine (unhide HFO _ (unhide B1)).mono ?_
  rintro e w2 ⟨M, X, f, rfl, hfa, hX, hM, hfi, hrg, hb2⟩
  have F2 := hide hfa
  have FI := hide hfi
  have B2 := hide ((unhide B1).trans (hb2.mono (unhide B1).size))
  have CY2 := hide ((unhide CY1).below hb2 (by omega))
  have hz2 : w1.heap.size ≤ w2.heap.size := hb2.size
  clear hb2 hfa hfi hrg x0 x1 x2 x3 x4 x5 x6 xf xl CX1 CY1 HFO
  have hcl : C.ps = L.map Pls.core := unhide HCL
  have hps : f.ps.map pcore = C.ps := by rw [hcl]; exact (unhide FI).ps
  have hfl : f.ps.length = C.ps.length := by rw [← hps]; simp
  have hnm : nms f = C.ps.map (·.name) := nms_core hps
  have hri : Rising ((nms f).map toL) := by rw [hnm]; exact gc_rising (unhide HG)
  have n2 : w2.cell? ⟨nb, 0, none⟩ = some (.string nm) := ((unhide B2).cell (p := ⟨nb, 0, none⟩) hnl).trans (unhide HNB)
  have HRI := hide hri
  rcases at_fnd (gc_rising (unhide HG)) nm with ⟨k, hk, hat, hfn, hkk⟩ | ⟨hat, hfn⟩
  · rw [← hnm] at hfn hkk
    have hkf : k < f.ps.length := by omega
    have HRR := hide (fun S' => crR_eq (f := f) (C := C) (nm := nm) (k := k) (S' := S') (unhide HG) hps (unhide FI).no (by rw [(unhide FI).lost, unhide HCE]) hkf hat)
    have HCY := hide (crash_yes M X f nm k w2 (unhide F2) (by omega) hri hfn hkk hkf hM)
    have HFINE : Hid (∀ S', Fine { f with ps := f.ps.set k (upd (f.ps.getD k zeroP) S' (f.ps.getD k zeroP).lim (f.ps.getD k zeroP).nx (f.ps.getD k zeroP).lost []) }) := fun S' => by
      have hlo : f.lost = C.lost := by rw [(unhide FI).lost, unhide HCE]
      refine fine_of (by show (f.ps.set k _).length ≤ 16; rw [List.length_set]; omega) (by show 0 < (f.ps.set k _).length; rw [List.length_set]; omega) (by show 0 ≤ f.lost ∧ f.lost ≤ _; rw [hlo]; exact unhide HD) ?_ ?_
      · intro p hp
        have h0 : p.lost = 0 := by
          rcases mem_set hp with rfl | ⟨i, hi, _, rfl⟩
          · show (f.ps.getD k zeroP).lost = 0; exact (unhide FI).no _ (getD_mem hkf)
          · exact (unhide FI).no _ (List.getElem_mem _)
        omega
      · intro p hp
        have hok : ∀ q ∈ f.ps, okP (pcore q) := fun q hq => unhide HOK _ (by rw [← hps]; exact List.mem_map_of_mem hq)
        rcases mem_set hp with rfl | ⟨i, hi, _, rfl⟩
        · exact ⟨(hok _ (getD_mem hkf)).1, by show ([] : List Itm).length ≤ 100; simp⟩
        · exact hok _ (List.getElem_mem _)
    have HFE := hide (And.intro (unhide FI).now (And.intro (unhide FI).nx (And.intro (unhide FI).lim (And.intro (unhide FI).v4 (unhide FI).v5))))
    have hxm := (unhide F2).xm
    clear hps hfl hnm hri hat hfn hkk hk hcl
    go_wp2_with fail
    refine crash1_any X nb nm _ _ n2 ?_
    refine (unhide HCY).mono ?_
    rintro e w3 ⟨S', rfl, hf3, hk3⟩
    refine ⟨_, _, rfl, ?_⟩
    have K3 : Below w1.heap.size w2 w3 := hk3.below hX (by omega)
    have B3 := hide ((unhide B2).trans (K3.mono (by omega)))
    have CY3 := hide ((unhide CY2).below K3 (by omega))
    have hz3 : w2.heap.size ≤ w3.heap.size := K3.size
    have HR3 := (unhide HR).below (unhide B3) (Nat.le_refl _)
    obtain ⟨e1, e2, e3, e4, e5⟩ := unhide HFE
    have HCU := cluster_any M X _ (some ⟨b1, 0, none⟩) (some ⟨b2, 0, none⟩) ns.length cs.length ns cs w3 hf3 e4 e5 (Nodes.LAt.row HR3.n) (Nodes.LAt.row HR3.c) (unhide HNS).1 (unhide HCS).1 (unhide HNS).2 (unhide HCS).2 (unhide HFINE S')
    have HRE := unhide HRR S'
    dsimp only at HCU
    rw [e1, e2, e3] at HCU
    have hce := unhide HCE
    have hq : (⟨now, nx, lim, lostTo f.lost (f.ps.set k (upd (f.ps.getD k zeroP) S' (f.ps.getD k zeroP).lim (f.ps.getD k zeroP).nx (f.ps.getD k zeroP).lost [])), ns, cs, (f.ps.set k (upd (f.ps.getD k zeroP) S' (f.ps.getD k zeroP).lim (f.ps.getD k zeroP).nx (f.ps.getD k zeroP).lost [])).map pcore⟩ : CC) = (crR C nm).1 := by
      rw [HRE, hce]
    rw [hq] at HCU
    have h21 : (crR C nm).2.1 = (((f.ps.getD k zeroP).its.length : Nat) : Int) := by rw [HRE]
    have h22 : (crR C nm).2.2 = true := by rw [HRE]
    have HCL2 := hide HCU
    have H21 := hide h21
    have H22 := hide h22
    clear HCU HRE hce hq h21 h22 hf3 hk3 K3 HR3 e1 e2 e3 e4 e5 HFE HFINE HRR HCY F2 FI n2
    generalize (f.ps.getD k zeroP).its.length = many at H21 ⊢
    go_wp2_with fail
    refine (unhide HCL2).mono ?_
    rintro e w4 ⟨c, rfl, hpl, hco, hap, hb4⟩
    have B4 := hide ((unhide B3).trans (hb4.mono (unhide B3).size))
    have CY4 := hide ((unhide CY3).below hb4 (by omega))
    have HPL := hide hpl
    have HCO := hide hco
    have HAP := hide hap
    clear hpl hco hap hb4
    obtain ⟨y0, y1, y2, y3, y4, y5, y6, yf, yl⟩ := (unhide CY4).cells
    unfold clV
    go_wp2
    refine bodyPost_ret (v := .tuple #[clV c, .int .i64 (many : Nat), .bool true]) (by simp [results, Tryz.results34, go_sem, clV, y0, y1, y2, y3, y4, y5, y6]) rfl ⟨c, by rw [unhide H21, unhide H22], unhide HPL, CO.le (B := w3.heap.size) ?_ (by omega), unhide HAP, ?_⟩
    · repeat (refine CO.set ?_ (by first | (simp; done) | (simp; omega)) _)
      exact unhide HCO
    · repeat (refine Below.setCell ?_ (by first | (simp; done) | (simp; omega)) _)
      exact unhide B4
  · rw [← hnm] at hfn
    have H : Hid (crR C nm = (noCC, 0, false)) := crR_none hat
    have HCY := hide (crash_no M X f nm w2 (unhide F2) (by omega) (by omega) hri hfn)
    clear hps hfl hnm hri hat hfn hcl
    go_wp2_with fail
    refine crash1_any X nb nm _ _ n2 ?_
    refine (unhide HCY).mono ?_
    rintro e w3 ⟨rfl, hb3⟩
    refine ⟨_, _, rfl, ?_⟩
    have B3 := hide ((unhide B2).trans (hb3.mono (unhide B2).size))
    have CY3 := hide ((unhide CY2).below hb3 (by omega))
    clear hb3 HCY
    obtain ⟨y0, y1, y2, y3, y4, y5, y6, yf, yl⟩ := (unhide CY3).cells
    go_wp2
    refine bodyPost_ret (v := .tuple #[.agg #[.int .i64 0, .int .i64 0, .int .i64 0, .int .i64 0, .slice none 0 0, .slice none 0 0, .slice none 0 0], .int .i64 0, .bool false]) (by simp [results, Tryz.results34, go_sem, y0, y1, y2, y3, y4, y5, y6]) rfl (end3_no (unhide H) ?_)
    repeat (refine Below.setCell ?_ (by first | (simp; done) | (simp; omega)) _)
    exact unhide B3
end Fleet
end Go.Proofs.YtkodgbalhnbhcaaGreatDoor
