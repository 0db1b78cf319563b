/-
  The program's isMoving and ringsOf.
-/
import Derived.Test.YtpihkjpnaefacaaGreatDoorHelpZ
import Derived.Test.YtpihkjpnaefacaaGreatDoorClusZ
import Derived.Test.YtpihkjpnaefacaaGreatDoorRingWA
import Derived.Test.YtpihkjpnaefacaaGreatDoorGsZ
import Derived.Lib.QuietBelow
import Derived.BigQuiet
namespace Go.Proofs.YtpihkjpnaefacaaGreatDoor
namespace Clus
open Go.RowKit Base GoodKey Marks
set_option linter.unusedVariables false

set_option maxRecDepth 10000 in
set_option maxHeartbeats 1000000 in
theorem moving_any (now nx lim lost : Int) (b1 b2 b3 : Nat) (ns cs : List Nodes.D) (L : List Pls.Pl) (w : World) :
    Calls Tryz.prog 43 #[.agg #[.int .i64 now, .int .i64 nx, .int .i64 lim, .int .i64 lost, .slice (some ⟨b1, 0, none⟩) ns.length ns.length, .slice (some ⟨b2, 0, none⟩) cs.length cs.length, .slice (some ⟨b3, 0, none⟩) L.length L.length]] w fun e w' => e = .returned (.bool (decide (0 < (cs.length : Int)))) ∧ Below w.heap.size w w' := by
  go_enter Tryz.func43, Tryz.ntmps43
  go_wp2
  go_ret
  exact ⟨ret_bool (by first | rfl | simp), bel1 w _⟩

set_option maxRecDepth 10000 in
set_option maxHeartbeats 2000000 in
theorem rings_any (now nx lim lost : Int) (b1 b2 b3 : Nat) (ns cs : List Nodes.D) (L : List Pls.Pl) (w : World) (hR : CR w b1 b2 b3 ns cs L) (h1 : NodesM.gnB ns = true) (h2 : cs = [] ∨ NodesM.gnB cs = true) (hv : Ring.Vars w) :
    Calls Tryz.prog 86 #[.agg #[.int .i64 now, .int .i64 nx, .int .i64 lim, .int .i64 lost, .slice (some ⟨b1, 0, none⟩) ns.length ns.length, .slice (some ⟨b2, 0, none⟩) cs.length cs.length, .slice (some ⟨b3, 0, none⟩) L.length L.length]] w fun e w' => ∃ g1 c1 g2 c2, e = .returned (.tuple #[.slice (some ⟨g1, 0, none⟩) (Ring.points ns).length c1, .slice (some ⟨g2, 0, none⟩) (Ring.points (goal ns cs)).length c2]) ∧
      RowAt w' g1 104 ((Ring.points ns).length * 2) (Points.icell (Ring.ring (Ring.points ns))) ∧ RowAt w' g2 104 ((Ring.points (goal ns cs)).length * 2) (Points.icell (Ring.ring (Ring.points (goal ns cs)))) ∧ Below w.heap.size w w' := by
  have HV := hide hv
  have RN := hide (fun w' (hb : Below w.heap.size w w') => Ring.ringOf_some b1 0 ns.length ns w' (hR.below hb (Nat.le_refl _)).n.lt (Nodes.at_row (hR.below hb (Nat.le_refl _)).n) h1 (hv.below hb))
  have HM := hide (fun w' => moving_any now nx lim lost b1 b2 b3 ns cs L w')
  rcases h2 with h2 | h2
  · have hcp : decide (0 < (cs.length : Int)) = false := by rw [h2]; rfl
    have eg : goal ns cs = ns := by rw [h2]; rfl
    rw [eg]
    rw [hcp] at HM
    clear hR h1 h2 hv eg hcp
    generalize (Ring.points ns).length = n at RN ⊢
    generalize Points.icell (Ring.ring (Ring.points ns)) = F at RN ⊢
    go_enter Tryz.func86, Tryz.ntmps86
    go_wp2_with fail
    refine (unhide RN _ (bel1 w _)).mono ?_
    rintro e w1 ⟨g1, c1, rfl, -, hr1, hb1⟩
    simp only [World.size_alloc] at hb1
    have B1 := hide ((bel1 w _).trans (hb1.mono (by omega)))
    have hx := boxcell hb1
    have R1 := hide hr1
    clear hb1 hr1
    go_wp2_with fail
    refine (unhide HM _).mono ?_
    rintro e w2 ⟨rfl, hb2⟩
    have B2 := hide ((unhide B1).trans (hb2.mono (unhide B1).size))
    have R2 := hide ((unhide R1).below hb2 (unhide R1).lt)
    clear hb2 hx R1
    go_wp2
    go_ret2
    exact ⟨g1, c1, g1, c1, rfl, unhide R2, unhide R2, unhide B2⟩
  · have hne : 0 < cs.length := List.length_pos_iff.2 (fun e => by rw [e] at h2; simp [NodesM.gnB, inB] at h2)
    have hcp : decide (0 < (cs.length : Int)) = true := by simp; omega
    have eg : goal ns cs = cs := by unfold goal; cases cs; simp at hne; rfl
    rw [eg]
    rw [hcp] at HM
    have RC := hide (fun w' (hb : Below w.heap.size w w') => Ring.ringOf_some b2 0 cs.length cs w' (hR.below hb (Nat.le_refl _)).c.lt (Nodes.at_row (hR.below hb (Nat.le_refl _)).c) h2 (hv.below hb))
    clear hR h1 h2 hv eg hcp hne
    generalize (Ring.points ns).length = n at RN ⊢
    generalize Points.icell (Ring.ring (Ring.points ns)) = F at RN ⊢
    generalize (Ring.points cs).length = m at RC ⊢
    generalize Points.icell (Ring.ring (Ring.points cs)) = G at RC ⊢
    go_enter Tryz.func86, Tryz.ntmps86
    go_wp2_with fail
    refine (unhide RN _ (bel1 w _)).mono ?_
    rintro e w1 ⟨g1, c1, rfl, -, hr1, hb1⟩
    simp only [World.size_alloc] at hb1
    have X1 := hide hb1
    have hz1 : w.heap.size + 1 ≤ w1.heap.size := by have := hb1.size; simp at this; omega
    have B1 := hide ((bel1 w _).trans (hb1.mono (by omega)))
    have hx := boxcell hb1
    have R1 := hide hr1
    clear hb1 hr1
    go_wp2_with fail
    refine (unhide HM _).mono ?_
    rintro e w2 ⟨rfl, hb2⟩
    have B2 := hide ((unhide B1).trans (hb2.mono (unhide B1).size))
    have X2 := hide ((unhide X1).trans (hb2.mono hz1))
    have hx2 := boxcell (unhide X2)
    have R2 := hide ((unhide R1).below hb2 (unhide R1).lt)
    clear hb2 hx R1 X1
    go_wp2_with fail
    refine (unhide RC _ (unhide B2)).mono ?_
    rintro e w3 ⟨g2, c2, rfl, -, hr3, hb3⟩
    have B3 := hide ((unhide B2).trans (hb3.mono (unhide B2).size))
    have R3 := hide ((unhide R2).below hb3 (unhide R2).lt)
    have S3 := hide hr3
    clear hb3 hr3 hx2 R2
    go_wp2
    go_ret2
    exact ⟨g1, c1, g2, c2, rfl, unhide R3, unhide S3, unhide B3⟩
end Clus
end Go.Proofs.YtpihkjpnaefacaaGreatDoor
/-
  The program's goodKeeping: it answers by the plain function, for every cluster that a call has laid itself whose places are good.
-/
namespace Go.Proofs.YtpihkjpnaefacaaGreatDoor
namespace Clus
open Go.RowKit Base GoodKey Items Store Plc Keep Marks Go.Maps
set_option linter.unusedVariables false

set_option maxRecDepth 10000 in
set_option maxHeartbeats 4000000 in
theorem keep_impl (now nx lim lost : Int) (b1 b2 b3 : Nat) (ns cs : List Nodes.D) (L : List Pls.Pl) (w : World) (hR : CR w b1 b2 b3 ns cs L) (h1 : NodesM.gnB ns = true) (h2 : cs = [] ∨ NodesM.gnB cs = true) (lp : L.length ≤ 16) (fp : ∀ x ∈ L, Pls.Fits x) (hg : ∀ k, k < L.length → gsB (L.getD k Pls.zeroL).lim (L.getD k Pls.zeroL).nx (L.getD k Pls.zeroL).its = true) (hv : Ring.Vars w) :
    Calls Tryz.prog 45 #[.agg #[.int .i64 now, .int .i64 nx, .int .i64 lim, .int .i64 lost, .slice (some ⟨b1, 0, none⟩) ns.length ns.length, .slice (some ⟨b2, 0, none⟩) cs.length cs.length, .slice (some ⟨b3, 0, none⟩) L.length L.length]] w fun e w' => e = .returned (.bool (keepB ⟨now, nx, lim, lost, ns, cs, L.map Pls.core⟩)) ∧ Below w.heap.size w w' := by
  obtain ⟨C, hC⟩ : ∃ C : CC, C = ⟨now, nx, lim, lost, ns, cs, L.map Pls.core⟩ := ⟨_, rfl⟩
  rw [← hC]
  have hCL : C.ps = L.map Pls.core := by rw [hC]
  have hmix : Tryz.prog.follows .mixedOrders = true := by kernel_rfl
  have HMIX := hide hmix
  have HR := hide hR
  have HFP := hide fp
  have HGS := hide hg
  have h3 := goal_good h1 h2
  have HRG := hide (fun w' (hb : Below w.heap.size w w') => rings_any now nx lim lost b1 b2 b3 ns cs L w' (hR.below hb (Nat.le_refl _)) h1 h2 (hv.below hb))
  have HKB := hide (fun k q => @keep_bad C L k q hCL)
  have HKE := hide (@keep_end C L hCL)
  have e3 : C.ns = ns := by rw [hC]
  have e4 : C.cs = cs := by rw [hC]
  rw [e3, e4] at HKB HKE
  have p1 := Ring.points_pos h1
  have p2 := Ring.points_len h1
  have p3 := Ring.points_pos h3
  have p4 := Ring.points_len h3
  have HOF := hide (fun (g c : Nat) (key : ByteArray) w' hr hk => Ring.ownerIn_some g c (Ring.points ns).length (Ring.ring (Ring.points ns)) key w' hr (Ring.ring_length _) (by omega) (by omega) (Ring.ring_sorted _) hk)
  have HOT := hide (fun (g c : Nat) (key : ByteArray) w' hr hk => Ring.ownerIn_some g c (Ring.points (goal ns cs)).length (Ring.ring (Ring.points (goal ns cs))) key w' hr (Ring.ring_length _) (by omega) (by omega) (Ring.ring_sorted _) hk)
  have HOO : Hid (∀ key, Ring.ownerN (Ring.ring (Ring.points ns)) (Hash.hashN key.data.toList) = own ns key) := fun _ => rfl
  have HOP : Hid (∀ key, Ring.ownerN (Ring.ring (Ring.points (goal ns cs))) (Hash.hashN key.data.toList) = own (goal ns cs) key) := fun _ => rfl
  clear e3 e4 hCL fp hg hmix hC hR h1 h2 h3 hv p1 p3
  generalize (Ring.points ns).length = n1 at HRG HOF p2
  generalize (Ring.points (goal ns cs)).length = n2 at HRG HOT p4
  generalize Ring.ring (Ring.points ns) = R1 at HRG HOF HOO
  generalize Ring.ring (Ring.points (goal ns cs)) = R2 at HRG HOT HOP
  have hmm := @run_makeMap Tryz.prog
  go_enter Tryz.func45, Tryz.ntmps45
  go_wp2_with fail
  refine (unhide HRG _ (bel1 w _)).mono ?_
  rintro e w1 ⟨g1, c1, g2, c2, rfl, hr1, hr2, hb1⟩
  simp only [World.size_alloc] at hb1
  have B1 := hide ((bel1 w _).trans (hb1.mono (by omega)))
  have X1 := hide hb1
  have hz1 : w.heap.size + 1 ≤ w1.heap.size := by have := hb1.size; simp at this; omega
  have S1 := hide hr1
  have S2 := hide hr2
  have hx1 := boxcell hb1
  have HCF := hide (fun (key : ByteArray) w' (hb : Below w1.heap.size w1 w') hk => unhide HOF g1 c1 key w' ((unhide S1).below hb (unhide S1).lt) hk)
  have HCT := hide (fun (key : ByteArray) w' (hb : Below w1.heap.size w1 w') hk => unhide HOT g2 c2 key w' ((unhide S2).below hb (unhide S2).lt) hk)
  have hgl1 := (unhide S1).lt
  have hgl2 := (unhide S2).lt
  have M1 : Hid (((w1.alloc (.map #[] 0)).alloc (.map #[] 0)).ownsMap Tryz.prog 9 (unitElem (H := Unit)) w1.heap.size 0 (Maps.setOf (.agg []) (([] : List Itm).map kL))) := (World.ownsMap_made w1 Tryz.prog 9 (unitElem (H := Unit))).alloc _
  have M2 : Hid (((w1.alloc (.map #[] 0)).alloc (.map #[] 0)).ownsMap Tryz.prog 3 (unitElem (H := Unit)) (w1.heap.size + 1) 0 (Maps.setOf (.agg []) (([] : List Itm).map tL))) := by
    have h := World.ownsMap_made (w1.alloc (.map #[] 0)) Tryz.prog 3 (unitElem (H := Unit))
    rw [World.size_alloc] at h
    exact h
  have BM : Hid (Below w1.heap.size w1 ((w1.alloc (.map #[] 0)).alloc (.map #[] 0))) := ((Below.refl _ _).alloc (Nat.le_refl _) _).alloc (by simp) _
  have hbw1 : w.heap.size < w1.heap.size := by omega
  clear hb1 hr1 hr2 HOF HOT HRG S1 S2
  go_wp2
  clear hx1 hmm
  go_loopw [7, 22] (fun mv iv wr => ∃ (k n : Nat), k ≤ L.length ∧ iv = .int .i64 (k : Int) ∧ mv = .int .i64 (n : Int) ∧ n ≤ k * 60 ∧ Hid (n = (fl L k).length) ∧ Hid (∀ j, j < k → ∀ q, q < (L.getD j Pls.zeroL).its.length → homeB ns cs (L.getD j Pls.zeroL).name ((L.getD j Pls.zeroL).its.getD q zero) = true) ∧
      Hid (wr.ownsMap Tryz.prog 9 (unitElem (H := Unit)) w1.heap.size n (Maps.setOf (.agg []) ((fl L k).map kL))) ∧ Hid (wr.ownsMap Tryz.prog 3 (unitElem (H := Unit)) (w1.heap.size + 1) n (Maps.setOf (.agg []) ((fl L k).map tL))) ∧ Hid (Below w1.heap.size w1 wr)) (fun _ iv _ => L.length - (intOf iv).toNat)
  case atStart => exact ⟨0, 0, Nat.zero_le _, rfl, rfl, Nat.zero_le _, hide (by simp [fl]), hide (fun j hj => absurd hj (by omega)), M1, M2, BM⟩
  case round =>
    obtain ⟨k, n, hk, rfl, rfl, hn60, hn, hho, hmk, hmt, hbk⟩ := hrel
    obtain ⟨wk, hname⟩ : ∃ v, v = wr := ⟨_, rfl⟩
    subst hname
    have hzk := (unhide hbk).size
    have hzt : w1.heap.size + 1 < wk.heap.size := (unhide hmt).lt
    have BK := hide ((unhide B1).trans ((unhide hbk).mono (unhide B1).size))
    by_cases hlt : k < L.length
    case neg =>
      obtain rfl : k = L.length := by omega
      have H := hide (unhide HKE (unhide hho))
      rw [← unhide hn] at H
      generalize Maps.setOf (.agg []) ((fl L L.length).map kL) = Dk at H hmk
      generalize Maps.setOf (.agg []) ((fl L L.length).map tL) = Dt at H hmt
      have hlk := fun ty => (unhide hmk).len Tryz.underlying112 ty
      have hlt' := fun ty => (unhide hmt).len Tryz.underlying113 ty
      generalize Maps.size Dk = nk at H hlk
      generalize Maps.size Dt = nt at H hlt'
      clear hmk hmt hn hho
      by_cases a1 : (nk : Int) = (n : Int)
      · have a2 : ((nk : Int) == (n : Int)) = true := by simpa using a1
        have a3 := decide_eq_true a1
        by_cases d1 : (nt : Int) = (n : Int)
        · have d2 : ((nt : Int) == (n : Int)) = true := by simpa using d1
          have d3 := decide_eq_true d1
          rw [a3, d3] at H
          clear a1 d1
          go_wp2
          go_ret
          exact ⟨ret_bool (unhide H).symm, unhide BK⟩
        · have d2 : ((nt : Int) == (n : Int)) = false := by simpa using d1
          have d3 := decide_eq_false d1
          rw [a3, d3] at H
          clear a1 d1
          go_wp2
          go_ret
          exact ⟨ret_bool (unhide H).symm, unhide BK⟩
      · have a2 : ((nk : Int) == (n : Int)) = false := by simpa using a1
        have a3 := decide_eq_false a1
        rw [a3] at H
        clear a1
        go_wp2
        go_ret
        exact ⟨ret_bool (unhide H).symm, unhide BK⟩
    have XK := hide ((unhide X1).trans ((unhide hbk).mono hz1))
    obtain ⟨c0, c1', c2', c3⟩ := Pls.lcell_at ((unhide HR).below (unhide BK) (Nat.le_refl _)).p.row k hlt
    rw [Nat.zero_add] at c0 c1' c2' c3
    have HSTR := hide (fun w' (hb : Below w.heap.size w w') => ((unhide HR).below hb (Nat.le_refl _)).p.str k hlt)
    have HFK := hide (unhide HFP _ (Pls.getD_mem hlt))
    have hi60 := (gs_item (unhide HGS k hlt)).1
    have HIT := hide (gs_item (unhide HGS k hlt)).2
    have hKB := hide (fun q => unhide HKB k q hlt)
    have HFL := hide (fl_succ hlt)
    have HHO : Hid (∀ y, L.getD k Pls.zeroL = y → (∀ q, q < y.its.length → homeB ns cs y.name (y.its.getD q zero) = true) → ∀ j, j < k + 1 → ∀ q, q < (L.getD j Pls.zeroL).its.length → homeB ns cs (L.getD j Pls.zeroL).name ((L.getD j Pls.zeroL).its.getD q zero) = true) := fun y e h j hj => if ej : j = k then (by rw [ej, e]; exact h) else unhide hho j (by omega)
    have HHO := hide (unhide HHO _ rfl)
    generalize L.getD k Pls.zeroL = x at c0 c1' c2' c3 HSTR HFK hi60 HIT hKB HFL HHO
    have ha := (unhide HSTR w (Below.refl _ _)).1
    have hca := (unhide HSTR w (Below.refl _ _)).2.2
    rw [ha, hca] at c3
    clear ha hca hho
    generalize hgi : Pls.blk x = gi at c3
    have HBK := hide hgi
    clear hgi
    go_wp2_with fail
    have q0 : (wk.alloc (.cells #[.string x.name, .int .i64 x.lim, .int .i64 x.nx, .slice (some ⟨gi, 0, none⟩) x.its.length x.its.length] 61)).cell? ⟨wk.heap.size, 0, none⟩ = some (.string x.name) := by rw [World.cell?_alloc_new]; rfl
    have MK := hide ((unhide hmk).alloc (.cells #[.string x.name, .int .i64 x.lim, .int .i64 x.nx, .slice (some ⟨gi, 0, none⟩) x.its.length x.its.length] 61))
    have MT := hide ((unhide hmt).alloc (.cells #[.string x.name, .int .i64 x.lim, .int .i64 x.nx, .slice (some ⟨gi, 0, none⟩) x.its.length x.its.length] 61))
    have BW := hide ((unhide hbk).alloc hzk (.cells #[.string x.name, .int .i64 x.lim, .int .i64 x.nx, .slice (some ⟨gi, 0, none⟩) x.its.length x.its.length] 61))
    have EL : Hid (fl L k = fl L k ++ x.its.take 0) := hide (by simp)
    rw [unhide EL] at MK MT hn
    clear EL
    have hzW : wk.heap.size < (wk.alloc (.cells #[.string x.name, .int .i64 x.lim, .int .i64 x.nx, .slice (some ⟨gi, 0, none⟩) x.its.length x.its.length] 61)).heap.size := by simp
    generalize wk.alloc (.cells #[.string x.name, .int .i64 x.lim, .int .i64 x.nx, .slice (some ⟨gi, 0, none⟩) x.its.length x.its.length] 61) = W at q0 MK MT BW hzW ⊢
    clear c0 c1' c2' c3 hmk hmt hbk XK BK
    generalize wk.heap.size = pb at q0 hzW hzk hzt ⊢
    have P0 := hide q0
    clear q0
    go_loopw [7, 30] (fun mv iv wr => ∃ (q n : Nat), q ≤ x.its.length ∧ iv = .int .i64 (q : Int) ∧ mv = .int .i64 (n : Int) ∧ n ≤ k * 60 + q ∧ Hid (n = (fl L k ++ x.its.take q).length) ∧ Hid (∀ r, r < q → homeB ns cs x.name (x.its.getD r zero) = true) ∧
      Hid (wr.ownsMap Tryz.prog 9 (unitElem (H := Unit)) w1.heap.size n (Maps.setOf (.agg []) ((fl L k ++ x.its.take q).map kL))) ∧ Hid (wr.ownsMap Tryz.prog 3 (unitElem (H := Unit)) (w1.heap.size + 1) n (Maps.setOf (.agg []) ((fl L k ++ x.its.take q).map tL))) ∧ Hid (wr.cell? ⟨pb, 0, none⟩ = some (.string x.name)) ∧ Hid (Below w1.heap.size w1 wr)) (fun _ iv _ => x.its.length - (intOf iv).toNat)
    case atStart => exact ⟨0, n, Nat.zero_le _, rfl, rfl, by omega, hn, hide (fun r hr => absurd hr (by omega)), MK, MT, P0, BW⟩
    case round =>
      obtain ⟨q, n, hq, rfl, rfl, hnq, hn, hhr, hmk, hmt, hpc, hbq⟩ := hrel
      obtain ⟨wq, hname⟩ : ∃ v, v = wr := ⟨_, rfl⟩
      subst hname
      have hzq := (unhide hbq).size
      by_cases hql : q < x.its.length
      case neg =>
        obtain rfl : q = x.its.length := by omega
        rw [List.take_length, ← unhide HFL] at hn hmk hmt
        have HH := hide (unhide HHO (unhide hhr))
        go_wp2
        go_roundw
        case rel => exact ⟨k + 1, n, by omega, by go_num, rfl, by omega, hn, HH, hmk, hmt, hbq⟩
        case measure => simp [intOf]; omega
      have BQ := hide ((unhide B1).trans ((unhide hbq).mono (unhide B1).size))
      obtain ⟨e0, e1, e2, e3, e4⟩ := Items.at_row (unhide HSTR wq (unhide BQ)).2.1 q hql
      rw [Nat.zero_add, unhide HBK] at e0 e1 e2 e3 e4
      have HFI := hide (Items.fits_getD (unhide HFK).2.2.2 q hql)
      have HIB := hide (unhide HIT q hql)
      have hKB1 := hide (unhide hKB q hql)
      have HTI := hide (take_it hql (fl L k))
      have HHR : Hid (∀ y, x.its.getD q zero = y → homeB ns cs x.name y = true → ∀ r, r < q + 1 → homeB ns cs x.name (x.its.getD r zero) = true) := fun y e h r hr => if er : r = q then (by rw [er, e]; exact h) else unhide hhr r (by omega)
      have HHR := hide (unhide HHR _ rfl)
      generalize x.its.getD q zero = it at e0 e1 e2 e3 e4 HFI HIB hKB1 HTI HHR
      rw [home_goal] at hKB1 HHR
      have hOF := fun w' (hb : Below w1.heap.size w1 w') => unhide HCF it.key w' hb (unhide HFI).1
      have hOT := fun w' (hb : Below w1.heap.size w1 w') => unhide HCT it.key w' hb (unhide HFI).1
      rw [unhide HOO] at hOF
      rw [unhide HOP] at hOT
      generalize own ns it.key = o1 at hOF hKB1 HHR
      generalize own (goal ns cs) it.key = o2 at hOT hKB1 HHR
      have HOF := hide hOF
      have HOT := hide hOT
      clear hOF hOT
      have p0 := unhide hpc
      go_wp2_with fail
      have i0 : (wq.alloc (.cells #[.string it.key, .int .i64 it.flags, .string it.data, .int .i64 it.upto, .int .i64 it.token] 64)).cell? ⟨wq.heap.size, 0, none⟩ = some (.string it.key) := by rw [World.cell?_alloc_new]; rfl
      have i4 : (wq.alloc (.cells #[.string it.key, .int .i64 it.flags, .string it.data, .int .i64 it.upto, .int .i64 it.token] 64)).cell? ⟨wq.heap.size, 4, none⟩ = some (.int .i64 it.token) := by rw [World.cell?_alloc_new]; rfl
      have MK := hide ((unhide hmk).alloc (.cells #[.string it.key, .int .i64 it.flags, .string it.data, .int .i64 it.upto, .int .i64 it.token] 64))
      have MT := hide ((unhide hmt).alloc (.cells #[.string it.key, .int .i64 it.flags, .string it.data, .int .i64 it.upto, .int .i64 it.token] 64))
      have BU := hide ((unhide hbq).alloc hzq (.cells #[.string it.key, .int .i64 it.flags, .string it.data, .int .i64 it.upto, .int .i64 it.token] 64))
      have p0 : (wq.alloc (.cells #[.string it.key, .int .i64 it.flags, .string it.data, .int .i64 it.upto, .int .i64 it.token] 64)).cell? ⟨pb, 0, none⟩ = some (.string x.name) := ((bel1 wq (.cells #[.string it.key, .int .i64 it.flags, .string it.data, .int .i64 it.upto, .int .i64 it.token] 64)).cell (p := ⟨pb, 0, none⟩) (block_lt_of_cell p0)).trans p0
      have hzU : wq.heap.size < (wq.alloc (.cells #[.string it.key, .int .i64 it.flags, .string it.data, .int .i64 it.upto, .int .i64 it.token] 64)).heap.size := by simp
      have hpq : pb < wq.heap.size := block_lt_of_cell (unhide hpc)
      generalize wq.alloc (.cells #[.string it.key, .int .i64 it.flags, .string it.data, .int .i64 it.upto, .int .i64 it.token] 64) = U at i0 i4 MK MT BU p0 hzU ⊢
      clear e0 e1 e2 e3 e4 hmk hmt hbq hpc BQ
      generalize wq.heap.size = ib at i0 i4 hzU hzq hpq ⊢
      have I0 := hide i0
      have I4 := hide i4
      have P1 := hide p0
      have cF := fun d os => Calls.regrown_of (unhide HOF (Go.Sort.grow (redrawn U d) os) ((unhide BU).trans ((below_regrown U d os).mono (unhide BU).size)))
      have cT := fun d os => Calls.regrown_of (unhide HOT (Go.Sort.grow (redrawn U d) os) ((unhide BU).trans ((below_regrown U d os).mono (unhide BU).size)))
      have i0 := cell_regrown i0
      have p0 := cell_regrown p0
      by_cases hh1 : o1 = x.name
      · have hs1 := str_eq hh1
        have HH2 := hide (unhide HHR (by rw [decide_eq_true hh1]; rfl))
        clear hh1 hKB1 HHR
        refine wp_region_quiet_below (unhide HMIX) (by kernel_rfl) ?_
        clear cT
        repeat (go_big_quiet_step (exact cF _ _))
        refine wpQuiet_nil ?_
        intro _ hw'
        obtain ⟨⟨dq, osq⟩, hw''⟩ := hw'
        subst hw''
        have hbu := below_regrown U dq osq
        clear i0 p0 cF
        generalize (Go.Sort.grow (redrawn U dq) osq) = u at hbu ⊢
        have MK := hide (map_below (unhide MK) hbu (by have := (unhide MK).lt; omega))
        have MT := hide (map_below (unhide MT) hbu (by have := (unhide MT).lt; omega))
        have BU := hide ((unhide BU).trans (hbu.mono (unhide BU).size))
        have i0 : u.cell? ⟨ib, 0, none⟩ = some (.string it.key) := (hbu.cell (p := ⟨ib, 0, none⟩) hzU).trans (unhide I0)
        have i4 : u.cell? ⟨ib, 4, none⟩ = some (.int .i64 it.token) := (hbu.cell (p := ⟨ib, 4, none⟩) hzU).trans (unhide I4)
        have p0 : u.cell? ⟨pb, 0, none⟩ = some (.string x.name) := (hbu.cell (p := ⟨pb, 0, none⟩) (by show pb < U.heap.size; omega)).trans (unhide P1)
        have hzu : U.heap.size ≤ u.heap.size := hbu.size
        have HP := hide p0
        clear hbu p0
        have HKEY : Hid (keyOf Tryz.prog 9 (.string it.key) = some (kL it)) := Go.WideMaps.keyOf_string_mk Tryz.underlying9 (unhide HFI).1
        have HTOK : Hid (keyOf Tryz.prog 3 (.int .i64 it.token) = some (tL it)) := keyOf_int_mk Tryz.underlying3 (WalkArith.wf_i64 (by have := (itemB_iff it).1 (unhide HIB); omega))
        go_wp2_with (at_mapUpdate; go_loud (refine wpList_mapUpdate_in _ rfl _ _ _ 112 rfl 9 115 keyLaw Tryz.underlying112 _ w1.heap.size n _ rfl (unhide MK) (by unfold maxLen; omega) _ _ _ rfl rfl (unhide HKEY) _ [] unitElem_mk ?_))
        intro w5 hown5 hturn5
        have hg5 := hturn5.grown
        have i4 : w5.cell? ⟨ib, 4, none⟩ = some (.int .i64 it.token) := (World.cell?_of_block (a := ⟨ib, 4, none⟩) (hg5.block ib (by omega) (by simp; omega))).trans i4
        have HP5 : Hid (w5.cell? ⟨pb, 0, none⟩ = some (.string x.name)) := (World.cell?_of_block (a := ⟨pb, 0, none⟩) (hg5.block pb (by omega) (by simp; omega))).trans (unhide HP)
        have MK5 := hide hown5
        have MT5 := hide ((unhide MT).kept hg5 (by simp))
        have B5 := hide ((unhide BU).grown hg5 (unhide BU).size (fun j e => by simp at e; omega))
        have hz5 := hg5.size
        clear i0 hg5 hown5 hturn5 MK MT HKEY BU HP
        go_wp2_with (at_mapUpdate; go_loud (refine wpList_mapUpdate_in _ rfl _ _ _ 113 rfl 3 115 tokLaw Tryz.underlying113 _ (w1.heap.size + 1) n _ rfl (unhide MT5) (by unfold maxLen; omega) _ _ _ rfl rfl (unhide HTOK) _ [] unitElem_mk ?_))
        intro w6 hown6 hturn6
        have hg6 := hturn6.grown
        have HP6 : Hid (w6.cell? ⟨pb, 0, none⟩ = some (.string x.name)) := (World.cell?_of_block (a := ⟨pb, 0, none⟩) (hg6.block pb (by omega) (by simp; omega))).trans (unhide HP5)
        have MT6 := hide hown6
        have MK6 := hide ((unhide MK5).kept hg6 (by simp))
        have B6 := hide ((unhide B5).grown hg6 (unhide B5).size (fun j e => by simp at e; omega))
        clear i4 hg6 hown6 hturn6 MK5 MT5 HTOK B5 HP5
        have HN : Hid (n + 1 = (fl L k ++ x.its.take (q + 1)).length) := hide (by rw [unhide HTI, List.length_append, ← unhide hn]; rfl)
        have hwr : IntKind.i64.wrap ((n : Int) + 1) = ((n + 1 : Nat) : Int) := by rw [IntKind.wrap_i64]; omega
        go_wp2
        go_roundw
        case rel =>
          refine ⟨q + 1, n + 1, by omega, by go_num, by first | rfl | go_num, by omega, HN, HH2, ?_, ?_, HP6, B6⟩
          · have h := unhide MK6; rw [unhide HTI, List.map_append, List.map_cons, List.map_nil, setOf_snoc]; refine hide ?_; simpa only [List.map_append, List.map_take] using h
          · have h := unhide MT6; rw [unhide HTI, List.map_append, List.map_cons, List.map_nil, setOf_snoc]; refine hide ?_; simpa only [List.map_append, List.map_take] using h
        case measure => simp [intOf]; omega
      have hs1 := str_ne hh1
      by_cases hh2 : o2 = x.name
      · have hs2 := str_eq hh2
        have HH2 := hide (unhide HHR (by rw [decide_eq_true hh2]; simp))
        clear hh1 hh2 hKB1 HHR
        refine wp_region_quiet_below (unhide HMIX) (by kernel_rfl) ?_
        iterate 5 (go_big_quiet_step (exact cF _ _))
        clear cF
        repeat (go_big_quiet_step (exact cT _ _))
        refine wpQuiet_nil ?_
        intro _ hw'
        obtain ⟨⟨dq, osq⟩, hw''⟩ := hw'
        subst hw''
        have hbu := below_regrown U dq osq
        clear i0 p0 cT
        generalize (Go.Sort.grow (redrawn U dq) osq) = u at hbu ⊢
        have MK := hide (map_below (unhide MK) hbu (by have := (unhide MK).lt; omega))
        have MT := hide (map_below (unhide MT) hbu (by have := (unhide MT).lt; omega))
        have BU := hide ((unhide BU).trans (hbu.mono (unhide BU).size))
        have i0 : u.cell? ⟨ib, 0, none⟩ = some (.string it.key) := (hbu.cell (p := ⟨ib, 0, none⟩) hzU).trans (unhide I0)
        have i4 : u.cell? ⟨ib, 4, none⟩ = some (.int .i64 it.token) := (hbu.cell (p := ⟨ib, 4, none⟩) hzU).trans (unhide I4)
        have p0 : u.cell? ⟨pb, 0, none⟩ = some (.string x.name) := (hbu.cell (p := ⟨pb, 0, none⟩) (by show pb < U.heap.size; omega)).trans (unhide P1)
        have hzu : U.heap.size ≤ u.heap.size := hbu.size
        have HP := hide p0
        clear hbu p0
        have HKEY : Hid (keyOf Tryz.prog 9 (.string it.key) = some (kL it)) := Go.WideMaps.keyOf_string_mk Tryz.underlying9 (unhide HFI).1
        have HTOK : Hid (keyOf Tryz.prog 3 (.int .i64 it.token) = some (tL it)) := keyOf_int_mk Tryz.underlying3 (WalkArith.wf_i64 (by have := (itemB_iff it).1 (unhide HIB); omega))
        go_wp2_with (at_mapUpdate; go_loud (refine wpList_mapUpdate_in _ rfl _ _ _ 112 rfl 9 115 keyLaw Tryz.underlying112 _ w1.heap.size n _ rfl (unhide MK) (by unfold maxLen; omega) _ _ _ rfl rfl (unhide HKEY) _ [] unitElem_mk ?_))
        intro w5 hown5 hturn5
        have hg5 := hturn5.grown
        have i4 : w5.cell? ⟨ib, 4, none⟩ = some (.int .i64 it.token) := (World.cell?_of_block (a := ⟨ib, 4, none⟩) (hg5.block ib (by omega) (by simp; omega))).trans i4
        have HP5 : Hid (w5.cell? ⟨pb, 0, none⟩ = some (.string x.name)) := (World.cell?_of_block (a := ⟨pb, 0, none⟩) (hg5.block pb (by omega) (by simp; omega))).trans (unhide HP)
        have MK5 := hide hown5
        have MT5 := hide ((unhide MT).kept hg5 (by simp))
        have B5 := hide ((unhide BU).grown hg5 (unhide BU).size (fun j e => by simp at e; omega))
        have hz5 := hg5.size
        clear i0 hg5 hown5 hturn5 MK MT HKEY BU HP
        go_wp2_with (at_mapUpdate; go_loud (refine wpList_mapUpdate_in _ rfl _ _ _ 113 rfl 3 115 tokLaw Tryz.underlying113 _ (w1.heap.size + 1) n _ rfl (unhide MT5) (by unfold maxLen; omega) _ _ _ rfl rfl (unhide HTOK) _ [] unitElem_mk ?_))
        intro w6 hown6 hturn6
        have hg6 := hturn6.grown
        have HP6 : Hid (w6.cell? ⟨pb, 0, none⟩ = some (.string x.name)) := (World.cell?_of_block (a := ⟨pb, 0, none⟩) (hg6.block pb (by omega) (by simp; omega))).trans (unhide HP5)
        have MT6 := hide hown6
        have MK6 := hide ((unhide MK5).kept hg6 (by simp))
        have B6 := hide ((unhide B5).grown hg6 (unhide B5).size (fun j e => by simp at e; omega))
        clear i4 hg6 hown6 hturn6 MK5 MT5 HTOK B5 HP5
        have HN : Hid (n + 1 = (fl L k ++ x.its.take (q + 1)).length) := hide (by rw [unhide HTI, List.length_append, ← unhide hn]; rfl)
        have hwr : IntKind.i64.wrap ((n : Int) + 1) = ((n + 1 : Nat) : Int) := by rw [IntKind.wrap_i64]; omega
        go_wp2
        go_roundw
        case rel =>
          refine ⟨q + 1, n + 1, by omega, by go_num, by first | rfl | go_num, by omega, HN, HH2, ?_, ?_, HP6, B6⟩
          · have h := unhide MK6; rw [unhide HTI, List.map_append, List.map_cons, List.map_nil, setOf_snoc]; refine hide ?_; simpa only [List.map_append, List.map_take] using h
          · have h := unhide MT6; rw [unhide HTI, List.map_append, List.map_cons, List.map_nil, setOf_snoc]; refine hide ?_; simpa only [List.map_append, List.map_take] using h
        case measure => simp [intOf]; omega
      have hs2 := str_ne hh2
      have H := hide (unhide hKB1 (by rw [decide_eq_false hh1, decide_eq_false hh2]; rfl))
      have BF := hide ((unhide B1).trans ((unhide BU).mono (unhide B1).size))
      clear hh1 hh2 hKB1 HHR
      refine wp_region_quiet_below (unhide HMIX) (by kernel_rfl) ?_
      iterate 5 (go_big_quiet_step (exact cF _ _))
      clear cF
      repeat (go_big_quiet_step (exact cT _ _))
      refine wpQuiet_nil ?_
      intro _ hw'
      obtain ⟨⟨dq, osq⟩, hw''⟩ := hw'
      subst hw''
      have BF := hide ((unhide BF).trans ((below_regrown U dq osq).mono (unhide BF).size))
      clear i0 p0 cT
      generalize (Go.Sort.grow (redrawn U dq) osq) = u at BF ⊢
      go_wp2
      go_ret
      exact ⟨ret_bool (unhide H).symm, unhide BF⟩
end Clus
end Go.Proofs.YtpihkjpnaefacaaGreatDoor
