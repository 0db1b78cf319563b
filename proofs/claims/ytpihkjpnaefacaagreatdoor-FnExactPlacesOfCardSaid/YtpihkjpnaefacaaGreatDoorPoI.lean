/-
  The program's PlacesOf: the names of the places where a key stands and is not old.
-/
import Derived.Test.YtpihkjpnaefacaaGreatDoorPoZ
import Derived.Test.YtpihkjpnaefacaaGreatDoorClusI
import Derived.Test.YtpihkjpnaefacaaGreatDoorCloneS
namespace Go.Proofs.YtpihkjpnaefacaaGreatDoor
namespace Clus
open Go.RowKit Base GoodKey Items Store Plc Marks
set_option linter.unusedVariables false

set_option maxRecDepth 10000 in
set_option maxHeartbeats 400000 in
theorem old_any (x : Itm) (now : Int) (w : World) :
    Calls Tryz.prog 52 #[.agg #[.string x.key, .int .i64 x.flags, .string x.data, .int .i64 x.upto, .int .i64 x.token], .int .i64 now] w fun e w' => e = .returned (.bool (oldB x now)) ∧ Below w.heap.size w w' := by
  cases h : (x.upto != 0)
  · have H : Hid (oldB x now = false) := by show oldB x now = false; rw [oldB, h]; rfl
    go_enter Tryz.func52, Tryz.ntmps52
    go_wp2
    go_ret
    exact ⟨ret_bool (unhide H).symm, bel1 w _⟩
  · have H : Hid (oldB x now = decide (x.upto ≤ now)) := by show oldB x now = _; rw [oldB, h]; rfl
    go_enter Tryz.func52, Tryz.ntmps52
    go_wp2
    go_ret
    exact ⟨ret_bool (unhide H).symm, bel1 w _⟩
set_option maxRecDepth 10000 in
set_option maxHeartbeats 1000000 in
theorem stands_any (x : Itm) (key : ByteArray) (now : Int) (kb cb : Nat) (w : World) (hk : w.cell? ⟨kb, 0, none⟩ = some (.string key)) (hc : w.cell? ⟨cb, 0, none⟩ = some (.int .i64 now)) :
    Calls Tryz.prog 51 #[.agg #[.string x.key, .int .i64 x.flags, .string x.data, .int .i64 x.upto, .int .i64 x.token], .pointer (some ⟨kb, 0, none⟩), .pointer (some ⟨cb, 0, none⟩)] w fun e w' => e = .returned (.bool (standB now key x)) ∧ Below w.heap.size w w' := by
  have hkb : kb < w.heap.size := block_lt_of_cell hk
  have hcb : cb < w.heap.size := block_lt_of_cell hc
  have HO := hide (fun w' => old_any x now w')
  cases e1 : (x.key.toList == key.toList)
  · have H : Hid (standB now key x = false) := hide (by unfold standB hasKey; rw [e1]; rfl)
    go_enter Tryz.func51, Tryz.ntmps51
    go_wp2
    go_ret
    exact ⟨ret_bool (unhide H).symm, bel1 w _⟩
  · have H : Hid (standB now key x = !oldB x now) := hide (by unfold standB hasKey; rw [e1]; rfl)
    generalize oldB x now = ob at HO H
    cases ob
    all_goals
      go_enter Tryz.func51, Tryz.ntmps51
      go_wp2_with fail
      refine (unhide HO _).mono ?_
      rintro e w1 ⟨rfl, hb1⟩
      have B1 := hide ((bel1 w _).trans (hb1.mono (by simp)))
      clear hb1
      go_wp2
      go_ret
      exact ⟨ret_bool (unhide H).symm, unhide B1⟩
theorem any_none {its : List Itm} {f : Itm → Bool} (h : ∀ j, j < its.length → f (its.getD j zero) = false) : its.any f = false := by
  rw [List.any_eq_false]
  intro x hx
  obtain ⟨j, hj, rfl⟩ := List.getElem_of_mem hx
  have := h j hj
  rw [List.getD_eq_getElem?_getD, List.getElem?_eq_getElem hj] at this
  simpa using this
theorem any_some {its : List Itm} {f : Itm → Bool} {j : Nat} (hj : j < its.length) (h : f (its.getD j zero) = true) : its.any f = true := by
  rw [List.any_eq_true]
  rw [List.getD_eq_getElem?_getD, List.getElem?_eq_getElem hj] at h
  exact ⟨_, List.getElem_mem hj, h⟩
set_option maxRecDepth 10000 in
set_option maxHeartbeats 1000000 in
theorem index_any (b cap : Nat) (its : List Itm) (key : ByteArray) (now : Int) (kb cb : Nat) (w : World) (hb : b < w.heap.size) (hi : ∀ i, i < its.length → At w b (0 + i * 5) (its.getD i zero)) (hl : its.length ≤ 60) (hk : w.cell? ⟨kb, 0, none⟩ = some (.string key)) (hc : w.cell? ⟨cb, 0, none⟩ = some (.int .i64 now)) :
    Calls Tryz.prog 89 #[.slice (some ⟨b, 0, none⟩) its.length cap, .func (.func 51) #[] #[.pointer (some ⟨kb, 0, none⟩), .pointer (some ⟨cb, 0, none⟩)]] w fun e w' => ∃ i : Int, e = .returned (.int .i64 i) ∧ decide (0 ≤ i) = its.any (standB now key) ∧ Below w.heap.size w w' := by
  have HIT := hide hi
  have HS := hide (fun (x : Itm) w' (hbw : Below w.heap.size w w') => stands_any x key now kb cb w' ((hbw.cell (block_lt_of_cell hk)).trans hk) ((hbw.cell (block_lt_of_cell hc)).trans hc))
  have HN := hide (@any_none its (standB now key))
  have HY := hide (fun j => @any_some its (standB now key) j)
  obtain ⟨T, hT⟩ : ∃ T, T = its.any (standB now key) := ⟨_, rfl⟩
  rw [← hT] at HN HY ⊢
  clear hi hk hc hT
  go_enter Tryz.func89, Tryz.ntmps89
  go_wp2_with fail
  go_loopw [8] (fun iv wr => ∃ k : Nat, k ≤ its.length ∧ iv = .int .i64 (k : Int) ∧ Hid (∀ j, j < k → standB now key (its.getD j zero) = false) ∧ Hid (Below w.heap.size w wr)) (fun iv _ => its.length - (intOf iv).toNat)
  case atStart => exact ⟨0, Nat.zero_le _, rfl, hide (fun j hj => absurd hj (by omega)), hide (Below.refl _ _)⟩
  case round =>
    obtain ⟨k, hk, rfl, hno, hbk⟩ := hrel
    by_cases hlt : k < its.length
    · obtain ⟨c0, c1, c2, c3, c4⟩ := (unhide HIT k hlt).below (unhide hbk) hb
      rw [Nat.zero_add] at c0 c1 c2 c3 c4
      have hY := hide (unhide HY k hlt)
      have hN : Hid (standB now key (its.getD k zero) = false → ∀ j, j < k + 1 → standB now key (its.getD j zero) = false) := fun h j hj => if e : j = k then (by rw [e]; exact h) else unhide hno j (by omega)
      generalize its.getD k zero = x at c0 c1 c2 c3 c4 hY hN
      have HC := hide (unhide HS x wr (unhide hbk))
      generalize standB now key x = sb at HC hY hN
      go_wp2_with fail
      refine (unhide HC).mono ?_
      rintro e w1 ⟨rfl, hb1⟩
      have B1 := hide ((unhide hbk).trans (hb1.mono (unhide hbk).size))
      clear hb1 c0 c1 c2 c3 c4 HC
      cases sb
      · have H := hide (unhide hN rfl)
        go_wp2
        go_roundw
        case rel => exact ⟨k + 1, by omega, by go_num, H, B1⟩
        case measure => simp [intOf]; omega
      · have H := hide (unhide hY rfl)
        go_wp2
        go_ret
        exact ⟨(k : Int), rfl, by rw [unhide H]; simp, unhide B1⟩
    · obtain rfl : k = its.length := by omega
      have H := hide (unhide HN (unhide hno))
      go_wp2
      go_ret
      exact ⟨-1, rfl, by rw [unhide H]; rfl, unhide hbk⟩
set_option maxRecDepth 10000 in
set_option maxHeartbeats 1000000 in
theorem contains_any (b cap : Nat) (its : List Itm) (key : ByteArray) (now : Int) (kb cb : Nat) (w : World) (hb : b < w.heap.size) (hi : ∀ i, i < its.length → At w b (0 + i * 5) (its.getD i zero)) (hl : its.length ≤ 60) (hk : w.cell? ⟨kb, 0, none⟩ = some (.string key)) (hc : w.cell? ⟨cb, 0, none⟩ = some (.int .i64 now)) :
    Calls Tryz.prog 53 #[.slice (some ⟨b, 0, none⟩) its.length cap, .func (.func 51) #[] #[.pointer (some ⟨kb, 0, none⟩), .pointer (some ⟨cb, 0, none⟩)]] w fun e w' => e = .returned (.bool (its.any (standB now key))) ∧ Below w.heap.size w w' := by
  have HI := hide (index_any b cap its key now kb cb w hb hi hl hk hc)
  generalize its.any (standB now key) = T at HI ⊢
  clear hi hk hc
  go_enter Tryz.func53, Tryz.ntmps53
  go_wp2_with fail
  refine (unhide HI).mono ?_
  rintro e w1 ⟨i, rfl, hi, hb1⟩
  have B1 := hide hb1
  have H := hide hi
  clear hb1 hi HI
  go_wp2
  go_ret
  exact ⟨ret_bool (unhide H), unhide B1⟩

set_option maxRecDepth 10000 in
set_option maxHeartbeats 4000000 in
theorem po_impl (now nx lim lost : Int) (b1 b2 b3 : Nat) (ns cs : List Nodes.D) (L : List Pls.Pl) (key : ByteArray) (w : World) (hR : CR w b1 b2 b3 ns cs L) (ln : ns.length ≤ 1048576) (fn : ∀ x ∈ ns, Nodes.Fits x) (lc : cs.length ≤ 1048576) (fc : ∀ x ∈ cs, Nodes.Fits x) (lp : L.length ≤ 1048576) (fp : ∀ x ∈ L, Pls.Fits x) (hk : key.size ≤ maxLen)  (hv : Ring.Vars w) :
    Calls Tryz.prog 14 #[.agg #[.int .i64 now, .int .i64 nx, .int .i64 lim, .int .i64 lost, .slice (some ⟨b1, 0, none⟩) ns.length ns.length, .slice (some ⟨b2, 0, none⟩) cs.length cs.length, .slice (some ⟨b3, 0, none⟩) L.length L.length], .string key] w (PoEnd (poR ⟨now, nx, lim, lost, ns, cs, L.map Pls.core⟩ key) w) := by
  obtain ⟨C, hC⟩ : ∃ C : CC, C = ⟨now, nx, lim, lost, ns, cs, L.map Pls.core⟩ := ⟨_, rfl⟩
  rw [← hC]
  have hCL : C.ps = L.map Pls.core := by rw [hC]
  have hCN : C.now = now := by rw [hC]
  have hmix : Tryz.prog.follows .mixedOrders = true := by kernel_rfl
  have HMIX := hide hmix
  have HR := hide hR
  have HFP := hide fp
  have HK := hide (fun w' => GoodKey.impl_any key w' hk)
  have HG := hide (fun w' (hb : Below w.heap.size w w') => good_impl now nx lim lost b1 b2 b3 ns cs L w' (hR.below hb (Nat.le_refl _)) ln fn lc fc lp fp (hv.below hb))
  rw [← hC] at HG
  obtain ⟨R, hRR⟩ : ∃ R, R = poR C key := ⟨_, rfl⟩
  rw [← hRR]
  cases hg : gcB C
  · have H : Hid (R = ([], false)) := hide (hRR.trans (poR_no (.inl hg)))
    rw [hg] at HG
    clear hg hRR hC hCL hCN hR fn fc fp hmix
    unfold maxLen at hk
    go_enter Tryz.func14, Tryz.ntmps14
    go_wp2_with fail
    refine (unhide HG _ (bel2 w _ _)).mono ?_
    rintro e w1 ⟨rfl, hb1⟩
    have B1 := hide ((bel2 w _ _).trans (hb1.mono (by simp; omega)))
    clear hb1
    go_wp2
    go_ret2
    exact po_no (unhide H) (unhide B1)
  rw [hg] at HG
  cases hgk : gk key.data.toList
  · have H : Hid (R = ([], false)) := hide (hRR.trans (poR_no (.inr hgk)))
    rw [hgk] at HK
    clear hg hgk hRR hC hCL hCN hR fn fc fp hmix
    unfold maxLen at hk
    go_enter Tryz.func14, Tryz.ntmps14
    go_wp2_with fail
    refine (unhide HG _ (bel2 w _ _)).mono ?_
    rintro e w1 ⟨rfl, hb1⟩
    have B1 := hide ((bel2 w _ _).trans (hb1.mono (by simp; omega)))
    have y1 := fun o => hb1.cell (p := ⟨w.heap.size + 1, o, none⟩) (by simp)
    clear hb1
    go_wp2_with fail
    refine (unhide HK _).mono ?_
    rintro e w2 ⟨rfl, h2⟩
    rw [h2]; clear h2 w2
    go_wp2
    go_ret2
    exact po_no (unhide H) (unhide B1)
  rw [hgk] at HK
  have HRY : Hid (R = (poN L now key L.length, true)) := hide (hRR.trans (by rw [poR_yes hCL hg hgk, hCN]))
  obtain ⟨l16, hgs⟩ := gc_stores hCL hg
  have HGS := hide hgs
  obtain ⟨i0, hi, hz0, hz1, hz2⟩ := StrN.info_ex
  have HI := hide hi
  have HZ0 := hide hz0
  have HZ1 := hide hz1
  have HZ2 := hide hz2
  have HKS := hide hk
  clear hg hgk hRR hC hCL hCN hR fn fc fp hmix hgs hi hz0 hz1 hz2
  unfold maxLen at hk
  go_enter Tryz.func14, Tryz.ntmps14
  go_wp2_with fail
  refine (unhide HG _ (bel2 w _ _)).mono ?_
  rintro e w1 ⟨rfl, hb1⟩
  simp only [World.size_alloc] at hb1
  have hz1 : w.heap.size + 1 + 1 ≤ w1.heap.size := by have := hb1.size; simp at this; omega
  have B1 := hide ((bel2 w _ _).trans (hb1.mono (by omega)))
  have hx1 := fun o => hb1.cell (p := ⟨w.heap.size, o, none⟩) (by show w.heap.size < w.heap.size + 1 + 1; omega)
  have hy1 := fun o => hb1.cell (p := ⟨w.heap.size + 1, o, none⟩) (by show w.heap.size + 1 < w.heap.size + 1 + 1; omega)
  have N1 : Hid (w1.cell? ⟨w.heap.size, 0, none⟩ = some (.int .i64 now)) := hide ((hx1 0).trans (by
    rw [World.cell?_of_block (a := ⟨w.heap.size, 0, none⟩) (Below.heap_alloc (w.alloc (.cells #[.int .i64 now, .int .i64 nx, .int .i64 lim, .int .i64 lost, .slice (some ⟨b1, 0, none⟩) ns.length ns.length, .slice (some ⟨b2, 0, none⟩) cs.length cs.length, .slice (some ⟨b3, 0, none⟩) L.length L.length] 31)) _ w.heap.size (by simp)), World.cell?_alloc_new]; rfl))
  have K1 : Hid (w1.cell? ⟨w.heap.size + 1, 0, none⟩ = some (.string key)) := hide ((hy1 0).trans (by
    have e : w.heap.size + 1 = (w.alloc (.cells #[.int .i64 now, .int .i64 nx, .int .i64 lim, .int .i64 lost, .slice (some ⟨b1, 0, none⟩) ns.length ns.length, .slice (some ⟨b2, 0, none⟩) cs.length cs.length, .slice (some ⟨b3, 0, none⟩) L.length L.length] 31)).heap.size := by simp
    rw [e, World.cell?_alloc_new]; rfl))
  clear hb1
  go_wp2_with fail
  refine (unhide HK _).mono ?_
  rintro e w2 ⟨rfl, h2⟩
  rw [h2]; clear h2 w2
  go_wp2_with fail
  clear hx1 hy1
  go_loopw [6, 21] (fun nv iv wr => ∃ (k n : Nat) (oa : Option Addr) (oc : Nat), k ≤ L.length ∧ iv = .int .i64 (k : Int) ∧ nv = .slice oa n oc ∧ n ≤ k ∧ Hid (n = (poN L now key k).length) ∧ Hid (wr.ownsRow w1.heap.size 9 1 (.slice oa n oc) n (StrN.cells (poN L now key k))) ∧ Hid (Below w1.heap.size w1 wr)) (fun _ iv _ => L.length - (intOf iv).toNat)
  case atStart => exact ⟨0, 0, none, 0, Nat.zero_le _, rfl, rfl, Nat.le_refl _, hide rfl, hide (World.ownsRow_nil _ _ _ _), hide (Below.refl _ _)⟩
  case round =>
    obtain ⟨k, n, oa, oc, hkk, rfl, rfl, hnk, hn, how, hbk⟩ := hrel
    obtain ⟨wk, hname⟩ : ∃ v, v = wr := ⟨_, rfl⟩
    subst hname
    have hzk := (unhide hbk).size
    have BK := hide ((unhide B1).trans ((unhide hbk).mono (unhide B1).size))
    by_cases hlt : k < L.length
    case neg =>
      obtain rfl : k = L.length := by omega
      have HO := hide (OwnR.own_le (unhide how) (unhide B1).size)
      have HNN : Hid ((poN L now key L.length).length = n) := hide (unhide hn).symm
      clear how hn
      go_wp2
      go_ret2
      exact po_yes (unhide HRY) (unhide HNN) (unhide HO) (unhide BK)
    obtain ⟨c0, c1', c2', c3⟩ := Pls.lcell_at ((unhide HR).below (unhide BK) (Nat.le_refl _)).p.row k hlt
    rw [Nat.zero_add] at c0 c1' c2' c3
    have HSTR := hide (fun w' (hb : Below w.heap.size w w') => ((unhide HR).below hb (Nat.le_refl _)).p.str k hlt)
    have HFK := hide (unhide HFP _ (Pls.getD_mem hlt))
    have HGK := hide (unhide HGS k hlt).1
    have hnm8 := (unhide HGS k hlt).2
    have HST := hide (poN_succ (now := now) (key := key) hlt)
    generalize L.getD k Pls.zeroL = x at c0 c1' c2' c3 HSTR HFK HGK HST hnm8
    have ha := (unhide HSTR w (Below.refl _ _)).1
    have hca := (unhide HSTR w (Below.refl _ _)).2.2
    rw [ha, hca] at c3
    have hil := (gs_item (unhide HGK)).1
    have HAT := hide (fun w' (hb : Below w.heap.size w w') h1 h2 => contains_any (Pls.blk x) x.its.length x.its key now (w.heap.size + 1) w.heap.size w' (unhide HSTR w' hb).lt (Items.at_row (unhide HSTR w' hb).2.1) hil h1 h2)
    have hnl : x.name.size ≤ 1048576 := by omega
    have HST : Hid (poN L now key (k + 1) = if x.its.any (standB now key) then poN L now key k ++ [x.name] else poN L now key k) := unhide HST
    clear ha hca
    generalize hgi : Pls.blk x = gi at c3 HAT
    have HBK := hide hgi
    clear hgi
    generalize x.its.any (standB now key) = sb at HAT HST
    go_wp2_with fail
    have q0 : (wk.alloc (.cells #[.string x.name, .int .i64 x.lim, .int .i64 x.nx, .slice (some ⟨gi, 0, none⟩) x.its.length x.its.length] 61)).cell? ⟨wk.heap.size, 0, none⟩ = some (.string x.name) := by rw [World.cell?_alloc_new]; rfl
    have BW := hide ((unhide BK).alloc (unhide BK).size (.cells #[.string x.name, .int .i64 x.lim, .int .i64 x.nx, .slice (some ⟨gi, 0, none⟩) x.its.length x.its.length] 61))
    have YW := hide ((unhide hbk).alloc hzk (.cells #[.string x.name, .int .i64 x.lim, .int .i64 x.nx, .slice (some ⟨gi, 0, none⟩) x.its.length x.its.length] 61))
    have OW := hide ((unhide how).alloc (.cells #[.string x.name, .int .i64 x.lim, .int .i64 x.nx, .slice (some ⟨gi, 0, none⟩) x.its.length x.its.length] 61))
    have hzW : wk.heap.size < (wk.alloc (.cells #[.string x.name, .int .i64 x.lim, .int .i64 x.nx, .slice (some ⟨gi, 0, none⟩) x.its.length x.its.length] 61)).heap.size := by simp
    generalize wk.alloc (.cells #[.string x.name, .int .i64 x.lim, .int .i64 x.nx, .slice (some ⟨gi, 0, none⟩) x.its.length x.its.length] 61) = W at q0 BW YW OW hzW ⊢
    clear c0 c1' c2' c3 how hbk BK
    generalize wk.heap.size = pb at q0 hzW hzk ⊢
    have P0 := hide q0
    clear q0
    have hN : W.cell? ⟨w.heap.size, 0, none⟩ = some (.int .i64 now) := ((unhide YW).cell (p := ⟨w.heap.size, 0, none⟩) (by show w.heap.size < w1.heap.size; omega)).trans (unhide N1)
    have hK : W.cell? ⟨w.heap.size + 1, 0, none⟩ = some (.string key) := ((unhide YW).cell (p := ⟨w.heap.size + 1, 0, none⟩) (by show w.heap.size + 1 < w1.heap.size; omega)).trans (unhide K1)
    refine (unhide HAT _ (unhide BW) hK hN).mono ?_
    rintro e w5 ⟨rfl, hb5⟩
    have Y5 := hide ((unhide YW).trans (hb5.mono (unhide YW).size))
    have O5 := hide (OwnR.own_below (unhide OW) hb5 (Nat.le_refl _))
    have p0 : w5.cell? ⟨pb, 0, none⟩ = some (.string x.name) := (hb5.cell (p := ⟨pb, 0, none⟩) hzW).trans (unhide P0)
    clear hb5 BW YW OW P0 hN hK
    cases sb
    · have HS3 : Hid (poN L now key (k + 1) = poN L now key k) := unhide HST
      rw [← unhide HS3] at O5 hn
      go_wp2
      go_roundw
      case rel => exact ⟨k + 1, n, oa, oc, by omega, by go_num, rfl, by omega, hn, O5, Y5⟩
      case measure => simp [intOf]; omega
    · have HS3 : Hid (poN L now key (k + 1) = poN L now key k ++ [x.name]) := unhide HST
      go_wp2_with fail
      refine (CloneS.clone_any x.name _ hnl).mono ?_
      rintro e v ⟨rfl, hbv⟩
      have YQ := hide ((unhide Y5).trans (hbv.mono (unhide Y5).size))
      have OQ := hide (OwnR.own_below (unhide O5) hbv (Nat.le_refl _))
      clear hbv p0
      have hvz := (unhide YQ).size
      have HNN : Hid (n + 1 = (poN L now key (k + 1)).length) := hide (by rw [unhide HS3, List.length_append, ← unhide hn]; rfl)
      go_wp2_with (at_builtin; go_loud (refine wpList_append_own _ rfl _ _ 35 rfl w1.heap.size 9 i0 _ 1 16 Tryz.underlying35 (unhide HI) (unhide HZ0) (unhide HZ1) (unhide HZ2) rfl (by decide) _ _ _ rfl ((unhide OQ).alloc _) ⟨v.heap.size, 0, none⟩ 1 1 [.string x.name] rfl rfl (StrN.news_cells v x.name _) (StrN.news_one x.name) ?c3 ?c4 ?c5 ?_))
      case c3 => unfold maxLen; omega
      case c4 => omega
      case c5 => first | omega | (simp; omega)
      intro v' we hown' hgrow _
      obtain ⟨a5, c5, rfl⟩ := OwnR.own_form hown'
      have O4 : Hid (we.ownsRow w1.heap.size 9 1 (.slice a5 (n + 1) c5) (n + 1) (StrN.cells (poN L now key (k + 1)))) := by
        rw [unhide HS3]
        have : StrN.cells (poN L now key k ++ [x.name]) = StrN.cells (poN L now key k) ++ [.string x.name] := by simp [StrN.cells]
        rw [this]
        exact hown'
      have C4 := hide (((unhide YQ).alloc hvz _).grown hgrow (by simp; omega) (OwnR.own_block (unhide OQ)))
      clear hown' hgrow OQ
      go_wp2
      go_roundw
      case rel => exact ⟨k + 1, n + 1, a5, c5, by omega, by go_num, rfl, by omega, HNN, O4, C4⟩
      case measure => simp [intOf]; omega
end Clus
end Go.Proofs.YtpihkjpnaefacaaGreatDoor
