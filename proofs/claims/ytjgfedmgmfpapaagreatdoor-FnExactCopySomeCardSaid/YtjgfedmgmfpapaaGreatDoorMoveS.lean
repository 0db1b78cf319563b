/-
  The model's l7Move where a key moves.
-/
import Derived.Test.YtjgfedmgmfpapaaGreatDoorZ31
import Derived.Test.YtjgfedmgmfpapaaGreatDoorZ32
import Derived.Test.YtjgfedmgmfpapaaGreatDoorZ30
import Derived.Deep.DeepCutAuto
import Derived.Lib.QuietBelow
import Derived.BigQuiet
namespace Go.Proofs.YtjgfedmgmfpapaaGreatDoor
namespace Clus
open Go.RowKit Base OwnR Plc Store Rw
set_option linter.unusedVariables false

/-- Ahead of a round of the loop: the items that are left, in a row of the call's own, in the store's box. -/
structure Md (w : World) (B g : Nat) (c : Cl) (T I : Nat) (x : Items.Itm) (lim nx : Int) (D : List Items.Itm) (n g1 cap : Nat) (u : World) : Prop where
  ms : MS w B g c u
  sb : SB u T lim nx (.slice (some ⟨g1, 0, none⟩) n cap)
  ib : IB u I x
  row : Rw.Row u (T + 1) (.slice (some ⟨g1, 0, none⟩) n cap) D
  len : n = D.length
theorem Md.below {w u u' : World} {B g T I : Nat} {c : Cl} {x : Items.Itm} {lim nx : Int} {D : List Items.Itm} {n g1 cap : Nat} (h : Md w B g c T I x lim nx D n g1 cap u) (hb : Below u.heap.size u u') : Md w B g c T I x lim nx D n g1 cap u' :=
  ⟨h.ms.below hb, h.sb.below hb h.sb.lt, h.ib.below hb h.ib.lt, h.row.below hb (Nat.le_refl _), h.len⟩
/-- The box takes another row. -/
theorem Md.put {w u : World} {B g T I : Nat} {c : Cl} {x : Items.Itm} {lim nx : Int} {v : Value} {D : List Items.Itm} {n g1 cap : Nat} (hm : MS w B g c u) (hs : SB u T lim nx v) (hi : IB u I x) (hT : w.heap.size + 2 ≤ T) (hTI : T ≠ I) (hr : Rw.Row u (T + 1) (.slice (some ⟨g1, 0, none⟩) n cap) D) (hn : n = D.length) : Md w B g c T I x lim nx D n g1 cap (u.setCell ⟨T, 2, none⟩ (.slice (some ⟨g1, 0, none⟩) n cap)) :=
  ⟨hm.sto hs hT 2 _, hs.set2 _, hi.other (p := ⟨T, 2, none⟩) hTI _, ownsRow_setCell_below hr (a := ⟨T, 2, none⟩) (Nat.lt_succ_self _) _, hn⟩
theorem Md.next {w u : World} {B g T I : Nat} {c : Cl} {x : Items.Itm} {lim nx : Int} {D : List Items.Itm} {n g1 cap : Nat} (h : Md w B g c T I x lim nx D n g1 cap u) (hT : w.heap.size + 2 ≤ T) (hTI : T ≠ I) (m : Int) : Md w B g c T I x lim m D n g1 cap (u.setCell ⟨T, 1, none⟩ (.int .i64 m)) :=
  ⟨h.ms.sto h.sb hT 1 _, h.sb.set1 m, h.ib.other (p := ⟨T, 1, none⟩) hTI _, ownsRow_setCell_below h.row (a := ⟨T, 1, none⟩) (Nat.lt_succ_self _) _, h.len⟩
/-- How l7Move ends where a key moves. -/
def MoEnd (now nx lim lost : Int) (a1 : Option Addr) (c1 : Nat) (ns : List Nodes.D) (a2 : Option Addr) (c2 : Nat) (cs : List Nodes.D) (g c3 : Nat) (M : List Pls.Pl) (B i r k : Nat) (w : World) (e : Ending) (w' : World) : Prop :=
  ∃ (y1 y2 : Pls.Pl) (L : Int), e = .returned (.agg #[.int .i64 now, .int .i64 nx, .int .i64 lim, .int .i64 L, .slice a1 ns.length c1, .slice a2 cs.length c2, .slice (some ⟨g, 0, none⟩) M.length c3]) ∧
    Pls.core y1 = ⟨(M.getD i Pls.zeroL).name, (M.getD i Pls.zeroL).lim, (M.getD i Pls.zeroL).nx, (M.getD i Pls.zeroL).its.eraseIdx r⟩ ∧
    Pls.core y2 = ⟨(M.getD k Pls.zeroL).name, (M.getD k Pls.zeroL).lim, max (M.getD k Pls.zeroL).nx (((M.getD i Pls.zeroL).its.getD r Items.zero).token + 1), ((M.getD k Pls.zeroL).its ++ [(M.getD i Pls.zeroL).its.getD r Items.zero]).drop (trimN (M.getD k Pls.zeroL).lim ((M.getD k Pls.zeroL).its ++ [(M.getD i Pls.zeroL).its.getD r Items.zero]))⟩ ∧
    L = min (lost + (trimN (M.getD k Pls.zeroL).lim ((M.getD k Pls.zeroL).its ++ [(M.getD i Pls.zeroL).its.getD r Items.zero]) : Nat)) 1000000 ∧
    CO w' B ⟨now, nx, lim, L, a1, c1, ns, a2, c2, cs, some ⟨g, 0, none⟩, c3, (M.set i y1).set k y2⟩ ∧ Below B w w' ∧ w.heap.size ≤ w'.heap.size ∧ Kp g w w'

set_option maxRecDepth 10000 in
set_option maxHeartbeats 16000000 in
theorem move_spec (now nx lim lost : Int) (a1 : Option Addr) (c1 : Nat) (ns : List Nodes.D) (a2 : Option Addr) (c2 : Nat) (cs : List Nodes.D) (g c3 : Nat) (M : List Pls.Pl) (B : Nat) (key : ByteArray) (i r k : Nat) (w : World)
    (hB : B ≤ w.heap.size) (hg : g < w.heap.size) (hco : CO w B ⟨now, nx, lim, lost, a1, c1, ns, a2, c2, cs, some ⟨g, 0, none⟩, c3, M⟩) (hlo : 0 ≤ lost ∧ lost ≤ 1000000) (lp : M.length ≤ 1000)
    (hi : i < M.length) (hk : k < M.length) (hik : i ≠ k) (hr : r < (M.getD i Pls.zeroL).its.length) (h60 : ∀ x ∈ M, x.its.length ≤ 60 ∧ (∀ y ∈ x.its, Store.Small y) ∧ 0 ≤ x.lim ∧ x.lim ≤ 10000) (hat : atI (M.getD i Pls.zeroL).its key = (r : Int)) (htk : 0 ≤ ((M.getD i Pls.zeroL).its.getD r Items.zero).token ∧ ((M.getD i Pls.zeroL).its.getD r Items.zero).token ≤ 1000000000)
    (hmv : ∀ u, CO u B ⟨now, nx, lim, lost, a1, c1, ns, a2, c2, cs, some ⟨g, 0, none⟩, c3, M⟩ → g < u.heap.size → Calls Tryz.prog 98 #[.agg #[.int .i64 now, .int .i64 nx, .int .i64 lim, .int .i64 lost, .slice a1 ns.length c1, .slice a2 cs.length c2, .slice (some ⟨g, 0, none⟩) M.length c3], .string key] u fun e u' => e = .returned (.tuple #[.int .i64 (i : Int), .bool true]) ∧ Below u.heap.size u u')
    (how : ∀ u y, y.name = (M.getD i Pls.zeroL).name → CO u B ⟨now, nx, lim, lost, a1, c1, ns, a2, c2, cs, some ⟨g, 0, none⟩, c3, M.set i y⟩ → g < u.heap.size → Calls Tryz.prog 69 #[.agg #[.int .i64 now, .int .i64 nx, .int .i64 lim, .int .i64 lost, .slice a1 ns.length c1, .slice a2 cs.length c2, .slice (some ⟨g, 0, none⟩) M.length c3], .string key] u fun e u' => e = .returned (.int .i64 (k : Int)) ∧ Below u.heap.size u u') :
    Calls Tryz.prog 56 #[.agg #[.int .i64 now, .int .i64 nx, .int .i64 lim, .int .i64 lost, .slice a1 ns.length c1, .slice a2 cs.length c2, .slice (some ⟨g, 0, none⟩) M.length c3], .string key] w (MoEnd now nx lim lost a1 c1 ns a2 c2 cs g c3 M B i r k w) := by
  have hmix : Tryz.prog.follows .mixedOrders = true := by kernel_rfl
  obtain ⟨W, hW⟩ : ∃ W, W = (w.alloc (.cells #[.int .i64 now, .int .i64 nx, .int .i64 lim, .int .i64 lost, .slice a1 ns.length c1, .slice a2 cs.length c2, .slice (some ⟨g, 0, none⟩) M.length c3] 30)).alloc (.cells #[.int .i64 0, .int .i64 0, .int .i64 0, .int .i64 0, .slice none 0 0, .slice none 0 0, .slice none 0 0] 30) := ⟨_, rfl⟩
  have BW0 : Below w.heap.size w W := by rw [hW]; exact bel2 w _ _
  have MSW : Hid (MS w B g ⟨now, nx, lim, lost, a1, c1, ns, a2, c2, cs, some ⟨g, 0, none⟩, c3, M⟩ W) := by
    refine ⟨hco.below BW0 (Nat.le_refl _), ?_, ?_, BW0.mono hB, Kp.of BW0, by rw [hW]; simp, rfl, hg, hB⟩
    · rw [hW]; exact ((bel1 (w.alloc _) _).block w.heap.size (by simp)).trans (heap_alloc_new w _)
    · rw [hW]
      have := heap_alloc_new (w.alloc (.cells #[.int .i64 now, .int .i64 nx, .int .i64 lim, .int .i64 lost, .slice a1 ns.length c1, .slice a2 cs.length c2, .slice (some ⟨g, 0, none⟩) M.length c3] 30)) (.cells #[.int .i64 0, .int .i64 0, .int .i64 0, .int .i64 0, .slice none 0 0, .slice none 0 0, .slice none 0 0] 30)
      rw [World.size_alloc] at this
      exact this
  have HW := hide hW
  have HMV := hide hmv
  have HOW := hide how
  have hp60 := h60 _ (Pls.getD_mem hi)
  have hq60 := h60 _ (Pls.getD_mem hk)
  obtain ⟨p, hp⟩ : ∃ p, p = M.getD i Pls.zeroL := ⟨_, rfl⟩
  obtain ⟨q, hq⟩ : ∃ q, q = M.getD k Pls.zeroL := ⟨_, rfl⟩
  rw [← hp] at hr hat hp60 htk
  rw [← hq] at hq60
  have HPP := hide hp
  have HQQ := hide hq
  have HPM : Hid (p ∈ M) := by rw [hp]; exact Pls.getD_mem hi
  obtain ⟨x, hx⟩ : ∃ x, x = p.its.getD r Items.zero := ⟨_, rfl⟩
  rw [← hx] at htk
  have HXX := hide hx
  have HXS : Hid (Store.Small x) := by rw [hx]; exact hp60.2.1 _ (by rw [List.getD_eq_getElem?_getD, List.getElem?_eq_getElem hr]; simp)
  have HKI := hide hk
  clear hW BW0 hco hmv how h60 hp hq hx
  go_enter Tryz.func56, Tryz.ntmps56
  go_upto_region 1 with fail
  rw [← unhide HW]
  clear HW
  obtain ⟨x0, x1, x2, x3, x4, x5, x6, xf, xz⟩ := (unhide MSW).x.cells
  dsimp only at x0 x1 x2 x3 x4 x5 x6
  go_wp2_with fail
  refine (unhide HMV _ (unhide MSW).co (by have := (unhide MSW).z; omega)).mono ?_
  rintro e w1 ⟨rfl, hb1⟩
  have MS1 := hide ((unhide MSW).below hb1)
  clear hb1 x0 x1 x2 x3 x4 x5 x6 xf xz MSW HMV
  obtain ⟨x0, x1, x2, x3, x4, x5, x6, xf, xz⟩ := (unhide MS1).x.cells
  dsimp only at x0 x1 x2 x3 x4 x5 x6
  obtain ⟨d1, d2, d3, df, dz⟩ := (unhide MS1).pl i hi
  dsimp only at d1 d2 d3
  rw [← unhide HPP] at d1 d2 d3
  have hz1 := (unhide MS1).z
  go_upto_region 5 with fail
  have SB2 := hide (SB.new w1 p.lim p.nx (.slice p.a p.its.length p.cap))
  have MS2 := hide ((unhide MS1).below (bel1 w1 (.cells #[.int .i64 p.lim, .int .i64 p.nx, .slice p.a p.its.length p.cap] 89)))
  have hz2 : (w1.alloc (.cells #[.int .i64 p.lim, .int .i64 p.nx, .slice p.a p.its.length p.cap] 89)).heap.size = w1.heap.size + 1 := World.size_alloc _ _
  have hz2 : w1.heap.size < (w1.alloc (.cells #[.int .i64 p.lim, .int .i64 p.nx, .slice p.a p.its.length p.cap] 89)).heap.size := by omega
  generalize w1.alloc (.cells #[.int .i64 p.lim, .int .i64 p.nx, .slice p.a p.its.length p.cap] 89) = w2 at SB2 MS2 hz2 ⊢
  obtain ⟨S, hS⟩ : ∃ S, S = w1.heap.size := ⟨_, rfl⟩
  rw [← hS] at SB2 hz1 hz2 ⊢
  clear d1 d2 d3 df dz x0 x1 x2 x3 x4 x5 x6 xf xz MS1 hS
  obtain ⟨s0, s1, s2, sf, sl⟩ := (unhide SB2).cells
  have HPR : Hid (∀ u, MS w B g ⟨now, nx, lim, lost, a1, c1, ns, a2, c2, cs, some ⟨g, 0, none⟩, c3, M⟩ u → Rw.Row u B (.slice p.a p.its.length p.cap) p.its) := fun u hu => hu.co.p.its p (unhide HPM)
  have HAT := hide (fun u (hu : Rw.Row u B (.slice p.a p.its.length p.cap) p.its) => l2At_opt p.lim p.nx p.a p.cap p.its key u (Own.own_at hu) (by unfold maxLen; omega))
  rw [hat] at HAT
  go_wp2_with fail
  refine (unhide HAT _ (unhide HPR _ (unhide MS2))).mono ?_
  rintro e w3 ⟨rfl, hb3⟩
  have MS3 := hide ((unhide MS2).below hb3)
  have SB3 := hide ((unhide SB2).below hb3 sl)
  have hz3 : S < w3.heap.size := Nat.lt_of_lt_of_le sl hb3.size
  clear hb3 s0 s1 s2 sf sl MS2 SB2 HAT hat
  have HR3 := hide (unhide HPR _ (unhide MS3))
  obtain ⟨pb, pc, hpv⟩ := (unhide HR3).has (by omega)
  simp only [Value.slice.injEq, true_and] at hpv
  obtain ⟨hpa, hpc⟩ := hpv
  have HPA := hide hpa
  have HPC := hide hpc
  rw [hpa] at SB3 HR3 HPR
  obtain ⟨s0, s1, s2, sf, sl⟩ := (unhide SB3).cells
  obtain ⟨t0, t1, t2, t3, t4⟩ := (unhide HR3).at rfl r hr
  rw [Nat.zero_add, ← unhide HXX] at t0 t1 t2 t3 t4
  clear hpa hpc
  go_upto_region 7 with fail
  have IB4 := hide (IB.new w3 x)
  have MS4 := hide ((unhide MS3).below (bel1 w3 (.cells #[.string x.key, .int .i64 x.flags, .string x.data, .int .i64 x.upto, .int .i64 x.token] 94)))
  have SB4 := hide ((unhide SB3).below (bel1 w3 (.cells #[.string x.key, .int .i64 x.flags, .string x.data, .int .i64 x.upto, .int .i64 x.token] 94)) hz3)
  have hz4 : w3.heap.size < (w3.alloc (.cells #[.string x.key, .int .i64 x.flags, .string x.data, .int .i64 x.upto, .int .i64 x.token] 94)).heap.size := by simp
  generalize w3.alloc (.cells #[.string x.key, .int .i64 x.flags, .string x.data, .int .i64 x.upto, .int .i64 x.token] 94) = w4 at IB4 MS4 SB4 hz4 ⊢
  obtain ⟨I, hI⟩ : ∃ I, I = w3.heap.size := ⟨_, rfl⟩
  rw [← hI] at IB4 hz3 hz4 ⊢
  clear s0 s1 s2 sf sl t0 t1 t2 t3 t4 MS3 SB3 HR3 hI
  obtain ⟨s0, s1, s2, sf, sl⟩ := (unhide SB4).cells
  have HWO := hide (l2Without_row p.lim p.nx pb p.cap B p.its r w4 (unhide HPR _ (unhide MS4)) hr (by omega))
  go_wp2_with fail
  refine (unhide HWO).mono ?_
  rintro e w5 ⟨g5, c5, rfl, hr5, hb5⟩
  have MS5 := hide ((unhide MS4).below hb5)
  have SB5 := hide ((unhide SB4).below hb5 sl)
  have IB5 := hide ((unhide IB4).below hb5 hz4)
  have R5 := hide hr5
  have hg5 := hr5.lt
  have hz5 := hb5.size
  clear hb5 hr5 s0 s1 s2 sf sl MS4 SB4 IB4 HWO HPR
  obtain ⟨s0, s1, s2, sf, sl⟩ := (unhide SB5).cells
  go_upto_region 8 with fail
  have MS6 := hide ((unhide MS5).sto (unhide SB5) hz1 2 (.slice (some ⟨g5, 0, none⟩) (p.its.eraseIdx r).length c5))
  have SB6 := hide ((unhide SB5).set2 (.slice (some ⟨g5, 0, none⟩) (p.its.eraseIdx r).length c5))
  have IB6 := hide ((unhide IB5).other (p := ⟨S, 2, none⟩) (by show S ≠ I; omega) (.slice (some ⟨g5, 0, none⟩) (p.its.eraseIdx r).length c5))
  have R6 : Hid (Rw.Row (w5.setCell ⟨S, 2, none⟩ (.slice (some ⟨g5, 0, none⟩) (p.its.eraseIdx r).length c5)) (I + 1) (.slice (some ⟨g5, 0, none⟩) (p.its.eraseIdx r).length c5) (p.its.eraseIdx r)) := ownsRow_setCell_below ((unhide R5).le (by omega)) (a := ⟨S, 2, none⟩) (by show S < I + 1; omega) _
  generalize w5.setCell ⟨S, 2, none⟩ (.slice (some ⟨g5, 0, none⟩) (p.its.eraseIdx r).length c5) = w6 at MS6 SB6 IB6 R6 ⊢
  clear s0 s1 s2 sf sl MS5 SB5 IB5 R5 hg5 hz5
  obtain ⟨s0, s1, s2, sf, sl⟩ := (unhide SB6).cells
  obtain ⟨x0, x1, x2, x3, x4, x5, x6, xf, xz⟩ := (unhide MS6).x.cells
  dsimp only at x0 x1 x2 x3 x4 x5 x6
  obtain ⟨d1, d2, d3, df, dz⟩ := (unhide MS6).pl i hi
  have hzz6 := (unhide MS6).z
  have hgS : g ≠ S := by omega
  have hgI : g ≠ I := by omega
  obtain ⟨y1, hy1⟩ : ∃ y1 : Pls.Pl, y1 = ⟨p.name, p.lim, p.nx, some ⟨g5, 0, none⟩, c5, p.its.eraseIdx r⟩ := ⟨_, rfl⟩
  have MS7 := hide ((unhide MS6).put i hi y1 (by rw [hy1]; show p.name = _; rw [unhide HPP]) (by rw [hy1]; exact (unhide R6).le (by omega)))
  have SB7 := hide ((unhide SB6).put3 (k := i) (y := y1) hgS)
  have IB7 := hide ((unhide IB6).put3 (k := i) (y := y1) hgI)
  have HY1 := hide (show Pls.core y1 = ⟨p.name, p.lim, p.nx, p.its.eraseIdx r⟩ by rw [hy1]; rfl)
  have HY1N : Hid (y1.name = (M.getD i Pls.zeroL).name) := by rw [hy1]; show p.name = _; rw [unhide HPP]
  have e7 : put3 w6 g i y1 = ((w6.setCell ⟨g, i * 4 + 1, none⟩ (.int .i64 p.lim)).setCell ⟨g, i * 4 + 2, none⟩ (.int .i64 p.nx)).setCell ⟨g, i * 4 + 3, none⟩ (.slice (some ⟨g5, 0, none⟩) (p.its.eraseIdx r).length c5) := by rw [hy1]; rfl
  rw [e7] at MS7 SB7 IB7
  clear e7 hy1
  dsimp only at d1 d2 d3
  go_upto_region 9 with fail
  generalize ((w6.setCell ⟨g, i * 4 + 1, none⟩ (.int .i64 p.lim)).setCell ⟨g, i * 4 + 2, none⟩ (.int .i64 p.nx)).setCell ⟨g, i * 4 + 3, none⟩ (.slice (some ⟨g5, 0, none⟩) (p.its.eraseIdx r).length c5) = w7 at MS7 SB7 IB7 ⊢
  clear s0 s1 s2 sf sl x0 x1 x2 x3 x4 x5 x6 xf xz d1 d2 d3 df dz MS6 SB6 IB6 R6 hzz6
  unfold withP at MS7
  dsimp only at MS7
  have hML : (M.set i y1).length = M.length := List.length_set
  obtain ⟨x0, x1, x2, x3, x4, x5, x6, xf, xz⟩ := (unhide MS7).x.cells
  dsimp only at x0 x1 x2 x3 x4 x5 x6
  rw [hML] at x6
  go_wp2_with fail
  refine (unhide HOW _ y1 (unhide HY1N) (unhide MS7).co (by have := (unhide MS7).z; omega)).mono ?_
  rintro e w8 ⟨rfl, hb8⟩
  have MS8 := hide ((unhide MS7).below hb8)
  have IB8 := hide ((unhide IB7).below hb8 (unhide IB7).lt)
  clear hb8 x0 x1 x2 x3 x4 x5 x6 xf xz MS7 SB7 IB7 HOW
  obtain ⟨x0, x1, x2, x3, x4, x5, x6, xf, xz⟩ := (unhide MS8).x.cells
  dsimp only at x0 x1 x2 x3 x4 x5 x6
  rw [hML] at x6
  have hkS : k < (M.set i y1).length := by rw [hML]; exact hk
  have hqe : (M.set i y1).getD k Pls.zeroL = q := by
    rw [unhide HQQ]
    simp only [List.getD_eq_getElem?_getD]
    rw [List.getElem?_set_ne hik]
  have HQE := hide hqe
  obtain ⟨d1, d2, d3, df, dz⟩ := (unhide MS8).pl k hkS
  dsimp only at d1 d2 d3
  rw [hqe] at d1 d2 d3
  have hz8 := (unhide MS8).z
  have hIl := (unhide IB8).lt
  clear hqe
  go_upto_region 11 with fail
  have SB9 := hide (SB.new w8 q.lim q.nx (.slice q.a q.its.length q.cap))
  have MS9 := hide ((unhide MS8).below (bel1 w8 (.cells #[.int .i64 q.lim, .int .i64 q.nx, .slice q.a q.its.length q.cap] 89)))
  have IB9 := hide ((unhide IB8).below (bel1 w8 (.cells #[.int .i64 q.lim, .int .i64 q.nx, .slice q.a q.its.length q.cap] 89)) hIl)
  have hz9 : (w8.alloc (.cells #[.int .i64 q.lim, .int .i64 q.nx, .slice q.a q.its.length q.cap] 89)).heap.size = w8.heap.size + 1 := World.size_alloc _ _
  have HR9 : Hid (Rw.Row (w8.alloc (.cells #[.int .i64 q.lim, .int .i64 q.nx, .slice q.a q.its.length q.cap] 89)) B (.slice q.a q.its.length q.cap) q.its) := (unhide MS9).co.p.its q (by rw [← unhide HQE]; exact Pls.getD_mem hkS)
  generalize w8.alloc (.cells #[.int .i64 q.lim, .int .i64 q.nx, .slice q.a q.its.length q.cap] 89) = wv at SB9 MS9 IB9 HR9 hz9 ⊢
  obtain ⟨T, hT⟩ : ∃ T, T = w8.heap.size := ⟨_, rfl⟩
  rw [← hT] at SB9 hz8 hz9 hIl ⊢
  have hTv : T < wv.heap.size := by omega
  have hTv1 : T + 1 ≤ wv.heap.size := by omega
  have hIv : I < wv.heap.size := by omega
  have hTI : T ≠ I := by omega
  clear d1 d2 d3 df dz x0 x1 x2 x3 x4 x5 x6 xf xz MS8 IB8 hT hz9
  obtain ⟨R, hRR⟩ : ∃ R, R = q.its ++ [x] := ⟨_, rfl⟩
  have HRR := hide hRR
  obtain ⟨n8, hn8⟩ : ∃ n, n = q.its.length := ⟨_, rfl⟩
  have HN8 := hide hn8
  have hn60 : n8 ≤ 60 := by omega
  rw [← hn8] at SB9 HR9
  obtain ⟨v8, hv8⟩ : ∃ a, a = q.a := ⟨_, rfl⟩
  obtain ⟨cap8, hcap8⟩ : ∃ a, a = q.cap := ⟨_, rfl⟩
  obtain ⟨lim8, hlim8⟩ : ∃ a, a = q.lim := ⟨_, rfl⟩
  obtain ⟨nx8, hnx8⟩ : ∃ a, a = q.nx := ⟨_, rfl⟩
  rw [← hv8, ← hcap8] at SB9 HR9
  rw [← hlim8, ← hnx8] at SB9
  obtain ⟨cc1, hcc1⟩ : ∃ c : Cl, c = ⟨now, nx, lim, lost, a1, c1, ns, a2, c2, cs, some ⟨g, 0, none⟩, c3, M.set i y1⟩ := ⟨_, rfl⟩
  rw [← hcc1] at MS9
  have HCC := hide hcc1
  have HL8 := hide hlim8
  have HX8 := hide hnx8
  have HSR : Hid (∀ z ∈ R, Store.Small z) := fun z hz => by
    rw [hRR] at hz
    rcases List.mem_append.1 hz with h | h
    · exact hq60.2.1 z h
    · rw [List.mem_singleton.1 h]; exact unhide HXS
  have hl8 : 0 ≤ lim8 ∧ lim8 ≤ 10000 := by rw [hlim8]; exact hq60.2.2
  clear hRR hn8 hv8 hcap8 hlim8 hnx8 hcc1
  obtain ⟨s0, s1, s2, sf, sl⟩ := (unhide SB9).cells
  obtain ⟨i0, i1, i2, i3, i4⟩ := (unhide IB9).cells
  have HR10 := hide (fun w' (hb : Below wv.heap.size wv w') => ((unhide HR9).below hb (Nat.le_refl _)).src)
  have HX10 := hide (fun w' (hb : Below wv.heap.size wv w') => And.intro ((unhide MS9).below hb) (And.intro ((unhide SB9).below hb hTv) ((unhide IB9).below hb hIv)))
  have hTm : T < wv.heap.size + 1 := by omega
  have hIm : I < wv.heap.size + 1 := by omega
  go_cut [61] (fun s61 wx => ∃ (g1 cap1 : Nat), Hid (Md w B g cc1 T I x lim8 nx8 R (n8 + 1) g1 cap1 wx))
  case first =>
   go_region_law (first
    | (refine step_src _ (by rfl) (.tmp 55) (.tmp 57) (by rfl) wv.heap.size wv.heap.size 0 0 [] (by rfl) (row_empty wv (Nat.le_refl _)).drew rfl v8 n8 cap8 q.its (by rfl) (unhide HR10 _ (bel1 wv _).drew) n8 (Nat.zero_add _) (by omega) (by simp) ?_; intro g1 cap1 wa hrow4 hg4; have HB4 := hide ((bel1 wv _).drew.grown hg4 (by simp) (fun k e => by simp at e; omega)); obtain ⟨e0, e1, e2, e3, e4⟩ := (unhide HX10 _ (unhide HB4)).2.2.cells; have y40 : I < wa.heap.size := by { have := hg4.size; simp at this; omega }; have z4 : wv.heap.size < wa.heap.size := by { have := hg4.size; simp at this; omega }; have HROW4 := hide hrow4; clear hg4 hrow4)
    | (refine step_src _ (by rfl) (.tmp 55) (.tmp 57) (by rfl) wv.heap.size wv.heap.size 0 0 [] (by rfl) ((row_empty wv (Nat.le_refl _)).below (bel1 _ _) (Nat.le_refl _)).drew rfl v8 n8 cap8 q.its (by rfl) (unhide HR10 _ (bel2 wv _ _).drew) n8 (Nat.zero_add _) (by omega) (by simp; omega) ?_; intro g1 cap1 wa hrow4 hg4; have HB4 := hide ((bel2 wv _ _).drew.grown hg4 (by simp; omega) (fun k e => by simp at e; omega)); have HI4 := hide ((hg4.block (wv.heap.size + 1) (by simp) (by simp)).trans (new2 wv _ _)); have y40 : I < wa.heap.size := by { have := hg4.size; simp at this; omega }; have z4 : wv.heap.size < wa.heap.size := by { have := hg4.size; simp at this; omega }; have HROW4 := hide hrow4; clear hg4 hrow4)
    | (refine step_src _ (by rfl) (.tmp 55) (.tmp 57) (by rfl) wv.heap.size (wv.heap.size + 1) 0 0 [] (by rfl) ((row_empty1 wv _).le (by omega)).drew rfl v8 n8 cap8 q.its (by rfl) (unhide HR10 _ (bel2 wv _ _).drew) n8 (Nat.zero_add _) (by omega) (by simp; omega) ?_; intro g1 cap1 wa hrow4 hg4; have HB4 := hide ((bel2 wv _ _).drew.grown hg4 (by simp; omega) (fun k e => by simp at e; omega)); have HI4 := hide ((hg4.block wv.heap.size (by simp; omega) (by simp)).trans (new2' wv _ _)); have y40 : I < wa.heap.size := by { have := hg4.size; simp at this; omega }; have z4 : wv.heap.size < wa.heap.size := by { have := hg4.size; simp at this; omega }; have HROW4 := hide hrow4; clear hg4 hrow4)
    | (refine step_items _ (by rfl) (.tmp 58) (.tmp 60) (by rfl) wv.heap.size g1 cap1 n8 q.its (by rfl) (unhide HROW4) (unhide HN8) _ 1 1 [x] (by rfl) rfl (news1 (unhide HI4)) (n8 + 1) rfl (by omega) (by omega) ?_; intro g2 cap2 wb hrow5 hg5; have hg1 := (unhide HROW4).lt.2.1; have HB5 := hide ((unhide HB4).grown hg5 (by omega) (fun k e => by simp at e; omega)); obtain ⟨f0, f1, f2, ff, fl⟩ := (unhide HX10 _ (unhide HB5)).2.1.cells; have HROW5 := hide hrow5; clear hg5 hrow5)
    | (refine step_items _ (by rfl) (.tmp 58) (.tmp 60) (by rfl) wv.heap.size g1 cap1 n8 q.its (by rfl) ((unhide HROW4).below (bel1 wa _) (Nat.le_refl _)) (unhide HN8) _ 1 1 [x] (by rfl) rfl (news1 (heap_alloc_new wa _)) (n8 + 1) rfl (by omega) (by simp; omega) ?_; intro g2 cap2 wb hrow5 hg5; have hg1 := (unhide HROW4).lt.2.1; have HB5 := hide (((unhide HB4).alloc (by omega) _).grown hg5 (by simp; omega) (fun k e => by simp at e; omega)); obtain ⟨f0, f1, f2, ff, fl⟩ := (unhide HX10 _ (unhide HB5)).2.1.cells; have HROW5 := hide hrow5; clear hg5 hrow5))
   all_goals
     go_wp2_with fail
     go_meet
     refine ⟨g2, cap2, hide (Md.put (unhide HX10 _ (unhide HB5)).1 (unhide HX10 _ (unhide HB5)).2.1 (unhide HX10 _ (unhide HB5)).2.2 hz8 hTI ?_ ?_)⟩
     · rw [unhide HRR]
       exact (unhide HROW5).le hTv1
     · rw [unhide HRR, List.length_append, ← unhide HN8]
       rfl
  case rest =>
  obtain ⟨g10, c10, hmid⟩ := hcut
  clear s0 s1 s2 sf sl i0 i1 i2 i3 i4 HR10 HX10 SB9 MS9 IB9 HR9 hTm hIm
  have hnR : n8 + 1 = R.length := (unhide hmid).len
  rw [hnR] at hmid
  have hRl : R.length ≤ 61 := by omega
  clear hnR
  obtain ⟨s0, s1, s2, sf, sl⟩ := (unhide hmid).sb.cells
  have i4 := (unhide hmid).ib.cells.2.2.2.2
  have hwt : IntKind.i64.wrap (x.token + 1) = x.token + 1 := by rw [IntKind.wrap_i64]; omega
  obtain ⟨wm, hname⟩ : ∃ v, v = wc := ⟨_, rfl⟩
  rw [← hname] at hmid s0 s1 s2 sf sl i4 ⊢
  clear hname wc
  by_cases hnt : nx8 ≤ x.token
  case' pos =>
    go_upto_region 14 with fail
    have HMD := hide ((unhide hmid).next hz8 hTI (x.token + 1))
    obtain ⟨nx2, hnx2⟩ : ∃ n, n = x.token + 1 := ⟨_, rfl⟩
    have HNX : Hid (nx2 = max q.nx (x.token + 1)) := by show nx2 = _; rw [hnx2, ← unhide HX8]; omega
    clear s0 s1 s2 sf sl i4 hmid
    generalize wm.setCell ⟨T, 1, none⟩ (.int .i64 (x.token + 1)) = U at HMD ⊢
    rw [← hnx2] at HMD
    clear hnx2
  case' neg =>
    go_upto_region 14 with fail
    have HMD := hmid
    have HNX : Hid (nx8 = max q.nx (x.token + 1)) := by show _ = _; rw [← unhide HX8]; omega
    clear s0 s1 s2 sf sl i4 hmid
    generalize wm = U at HMD ⊢
    generalize nx8 = nx2 at HMD HNX
  all_goals
   go_wp2_with fail
   clear hnt hwt
   go_loopw [12] (fun lv wr => ∃ (j g1 cap1 : Nat), j ≤ R.length ∧ lv = .int .i64 (j : Int) ∧ Hid (j + trimN lim8 (R.drop j) = trimN lim8 R) ∧ Hid (Md w B g cc1 T I x lim8 nx2 (R.drop j) (R.drop j).length g1 cap1 wr)) (fun lv _ => R.length - (intOf lv).toNat)
   case atStart => exact ⟨0, g10, c10, Nat.zero_le _, rfl, hide (by simp), by simpa using HMD⟩
   case round =>
    obtain ⟨j, g1, cap1, hj, rfl, htr, hmd⟩ := hrel
    have HDS : Hid (∀ z ∈ R.drop j, Store.Small z) := fun z hz => unhide HSR z (List.mem_of_mem_drop hz)
    have hDl : Hid ((R.drop j).length = R.length - j) := List.length_drop
    have hstep : Hid (fitsB lim8 (R.drop j) = false → j < R.length → trimN lim8 (R.drop j) = trimN lim8 (R.drop (j + 1)) + 1) := fun h1 h2 => trimN_step h2 h1
    have hdd : Hid ((R.drop j).drop 1 = R.drop (j + 1)) := by show (R.drop j).drop 1 = _; rw [List.drop_drop]
    generalize hD : R.drop j = D at htr hmd HDS hDl hstep hdd
    have HD := hide hD
    clear hD
    generalize hnD : D.length = nd at hmd hDl
    have hdl1 : nd + j ≤ R.length := by have := unhide hDl; omega
    have hdl2 : R.length ≤ nd + j := by have := unhide hDl; omega
    have HND := hide hnD
    clear hnD
    have hcA := fun d os => Calls.regrown_of (l2All_some lim8 nx2 g1 0 cap1 D (Go.Sort.grow (redrawn wr d) os) (((unhide hmd).row.below (below_regrown wr d os) (Nat.le_refl _)).lt.1) (((unhide hmd).row.below (below_regrown wr d os) (Nat.le_refl _)).at (unhide HND).symm) (by rw [unhide HND]; omega) (unhide HDS))
    rw [unhide HND] at hcA
    have hfit : Hid (fitsB lim8 D = (decide (total D ≤ lim8) && decide ((nd : Int) ≤ 60))) := by show fitsB lim8 D = _; unfold fitsB; rw [unhide HND]
    have hpos : Hid (lim8 < total D → 0 < nd) := by
      intro h
      rw [← unhide HND]
      cases D with
      | nil => simp [total] at h; omega
      | cons _ _ => simp
    generalize total D = tot at hcA hfit hpos
    obtain ⟨s0, s1, s2, sf, sl⟩ := (unhide hmd).sb.cells
    have p0 := cell_regrown s0
    have p1 := cell_regrown s1
    have p2 := cell_regrown s2
    have hcs : (lim8 < tot ∧ decide (lim8 < tot) = true) ∨ (¬ lim8 < tot ∧ decide (lim8 < tot) = false ∧ 60 < nd ∧ decide (60 < (nd : Int)) = true) ∨ (¬ lim8 < tot ∧ decide (lim8 < tot) = false ∧ ¬ 60 < nd ∧ decide (60 < (nd : Int)) = false) := by
      by_cases t1 : lim8 < tot
      · exact .inl ⟨t1, decide_eq_true t1⟩
      · by_cases t2 : 60 < nd
        · exact .inr (.inl ⟨t1, decide_eq_false t1, t2, decide_eq_true (by omega)⟩)
        · exact .inr (.inr ⟨t1, decide_eq_false t1, t2, decide_eq_false (by omega)⟩)
    rcases hcs with ⟨t1, t2⟩ | ⟨t1, t2, t3, t4⟩ | ⟨t1, t2, t3, t4⟩
    all_goals
      go_wp2_with fail
      refine wp_region_quiet_below hmix (by kernel_rfl) ?_
      repeat (go_big_quiet_step (exact hcA _ _))
      refine wpQuiet_nil ?_
      intro _ hw'
      obtain ⟨⟨dq, osq⟩, hw''⟩ := hw'
      subst hw''
      have hbq := below_regrown wr dq osq
      generalize (Go.Sort.grow (redrawn wr dq) osq) = wq at hbq ⊢
      have MDq := hide ((unhide hmd).below hbq)
      clear hbq p0 p1 p2 s0 s1 s2 sf sl hcA hmd
      obtain ⟨s0, s1, s2, sf, sl⟩ := (unhide MDq).sb.cells
    case' inl => have hnf : Hid (fitsB lim8 D = false) := by { show fitsB lim8 D = false; rw [unhide hfit, decide_eq_false (show ¬ tot ≤ lim8 by omega)]; rfl }
    case' inl => have hnp : 0 < nd := unhide hpos t1
    case' inr.inl => have hnf : Hid (fitsB lim8 D = false) := by { show fitsB lim8 D = false; rw [unhide hfit, decide_eq_false (show ¬ (nd : Int) ≤ 60 by omega)]; simp }
    case' inr.inl => have hnp : 0 < nd := by omega
    case' inr.inr => have hyf : Hid (fitsB lim8 D = true) := by { show fitsB lim8 D = true; rw [unhide hfit, decide_eq_true (show tot ≤ lim8 by omega), decide_eq_true (show (nd : Int) ≤ 60 by omega)]; rfl }
    case inr.inr =>
      have HT : Hid (trimN lim8 R = j) := by show trimN lim8 R = j; rw [← unhide htr, trimN_fit (unhide hyf)]; rfl
      have MSq : Hid (MS w B g ⟨now, nx, lim, lost, a1, c1, ns, a2, c2, cs, some ⟨g, 0, none⟩, c3, M.set i y1⟩ wq) := by
        have h := (unhide MDq).ms
        rw [unhide HCC] at h
        exact h
      have HRW := hide (unhide MDq).row
      obtain ⟨x0, x1, x2, x3, x4, x5, x6, xf, xz⟩ := (unhide MSq).x.cells
      dsimp only at x0 x1 x2 x3 x4 x5 x6
      rw [hML] at x6
      obtain ⟨d1, d2, d3, df, dz⟩ := (unhide MSq).pl k hkS
      dsimp only at d1 d2 d3
      obtain ⟨y2, hy2⟩ : ∃ y2 : Pls.Pl, y2 = ⟨q.name, lim8, nx2, some ⟨g1, 0, none⟩, cap1, D⟩ := ⟨_, rfl⟩
      have HY2 := hide hy2
      have MS10 := hide ((unhide MSq).put k hkS y2 (by rw [hy2]; show q.name = ((M.set i y1).getD k Pls.zeroL).name; rw [unhide HQE]) (by
        rw [hy2]
        show wq.ownsRow B 94 5 (.slice (some ⟨g1, 0, none⟩) D.length cap1) D.length (Own.flat D)
        have h := (unhide HRW).le (show B ≤ T + 1 by omega)
        unfold Rw.Row at h
        rw [unhide HND] at h ⊢
        exact h))
      have e10 : put3 wq g k y2 = ((wq.setCell ⟨g, k * 4 + 1, none⟩ (.int .i64 lim8)).setCell ⟨g, k * 4 + 2, none⟩ (.int .i64 nx2)).setCell ⟨g, k * 4 + 3, none⟩ (.slice (some ⟨g1, 0, none⟩) nd cap1) := by rw [hy2, ← unhide HND]; rfl
      rw [e10] at MS10
      clear e10 hy2
      go_upto_region 19 with fail
      generalize ((wq.setCell ⟨g, k * 4 + 1, none⟩ (.int .i64 lim8)).setCell ⟨g, k * 4 + 2, none⟩ (.int .i64 nx2)).setCell ⟨g, k * 4 + 3, none⟩ (.slice (some ⟨g1, 0, none⟩) nd cap1) = wf at MS10 ⊢
      clear s0 s1 s2 sf sl x0 x1 x2 x3 x4 x5 x6 xf xz d1 d2 d3 df dz MDq MSq HRW
      unfold withP at MS10
      dsimp only at MS10
      have hML2 : ((M.set i y1).set k y2).length = M.length := by rw [List.length_set]; exact hML
      obtain ⟨x0, x1, x2, x3, x4, x5, x6, xf, xz⟩ := (unhide MS10).x.cells
      dsimp only at x0 x1 x2 x3 x4 x5 x6
      rw [hML2] at x6
      have HLS := hide (lose_any now nx lim lost (j : Int) a1 a2 (some ⟨g, 0, none⟩) ns.length cs.length M.length c1 c2 c3 wf hlo (by omega))
      have HL : Hid (min (lost + (j : Int)) 1000000 = min (lost + (trimN q.lim (q.its ++ [x]) : Nat)) 1000000) := by show _ = _; rw [← unhide HRR, ← unhide HL8, unhide HT]
      generalize min (lost + (j : Int)) 1000000 = LL at HLS HL
      go_wp2_with fail
      refine (unhide HLS).mono ?_
      rintro e wg ⟨rfl, hbg⟩
      have MS11 := hide ((unhide MS10).below hbg)
      clear hbg x0 x1 x2 x3 x4 x5 x6 xf xz MS10 HLS
      have hz11 := (unhide MS11).z
      obtain ⟨u0, u1, u2, u3, u4, u5, u6, uf, uz⟩ := (unhide MS11).y.cells
      go_wp2
      refine bodyPost_ret (v := .agg #[.int .i64 now, .int .i64 nx, .int .i64 lim, .int .i64 LL, .slice a1 ns.length c1, .slice a2 cs.length c2, .slice (some ⟨g, 0, none⟩) M.length c3]) (by simp [results, Tryz.results56, go_sem, u0, u1, u2, u3, u4, u5, u6]) rfl ⟨y1, y2, LL, rfl, ?_, ?_, ?_, ?_, ?_, ?_, ?_⟩
      · rw [← unhide HPP]; exact unhide HY1
      · rw [← unhide HPP, ← unhide HQQ, ← unhide HXX, ← unhide HRR, ← unhide HL8, unhide HT, unhide HD, ← unhide HNX, unhide HY2]; rfl
      · rw [← unhide HPP, ← unhide HQQ, ← unhide HXX]; exact unhide HL
      · have h := (unhide MS11).co.box7 (unhide MS11).y now nx lim LL (.slice a1 ns.length c1) (.slice a2 cs.length c2) (.slice (some ⟨g, 0, none⟩) M.length c3)
        exact ⟨h.n, h.m, h.p, h.fn, h.fm⟩
      · repeat (refine Below.setCell ?_ (by first | (simp; done) | (simp; omega)) _)
        exact (unhide MS11).b
      · simp; omega
      · repeat (refine Kp.new ?_ (by omega) _ _)
        exact (unhide MS11).k
    all_goals
      have hs1 := fun w => slice_from g1 nd cap1 1 1 rfl hnp w
      have HNW := hide (((unhide MDq).row.below (bel1 wq (.cells #[] 94)) (Nat.le_refl _)).news_from (unhide HND).symm 1 (by rw [unhide HND]; exact hnp))
      have HLD : Hid ((D.drop 1).length = nd - 1) := by show (D.drop 1).length = _; rw [List.length_drop, unhide HND]
      have hTq : T + 1 ≤ wq.heap.size := by omega
      go_wp2_with (at_builtin; refine list_items _ rfl (.tmp 83) (.tmp 86) rfl (T + 1) wq.heap.size 0 0 [] rfl (row_empty wq hTq) rfl (sadr g1 1 cap1) (nd - 1) (cap1 - 1) (D.drop 1) rfl (unhide HLD) (unhide HNW) (nd - 1) (Nat.zero_add _) (by omega) (by simp; omega) ?_)
      intro g2 cap2 wz hrow2 hg2
      have hbz : Below wq.heap.size wq wz := (bel1 wq _).grown hg2 (by simp) (fun k e => by simp at e; omega)
      have MDz := hide ((unhide MDq).below hbz)
      have HROW2 := hide hrow2
      clear s0 s1 s2 sf sl hrow2 hg2 HNW hs1 hbz MDq
      obtain ⟨s0, s1, s2, sf, sl⟩ := (unhide MDz).sb.cells
      go_wp2
      go_roundw
      case rel =>
        refine ⟨j + 1, g2, cap2, by omega, by go_num, ?_, ?_⟩
        · have e1 := unhide hstep (unhide hnf) (by omega)
          have e2 := unhide htr
          exact hide (by omega)
        · have e3 := unhide hdd
          have e4 := unhide HLD
          rw [e3] at e4
          rw [e4, ← e3]
          exact hide (Md.put (unhide MDz).ms (unhide MDz).sb (unhide MDz).ib hz8 hTI (by rw [List.drop_one] ; exact unhide HROW2) (unhide HLD).symm)
      case measure => simp [intOf]; omega
end Clus
end Go.Proofs.YtjgfedmgmfpapaaGreatDoor
