/-
  The model's l7First: the first key that is to move.
-/
import Derived.Test.YtjgfedmgmfpapaaGreatDoorZ30
import Derived.Test.YtjgfedmgmfpapaaGreatDoorZ22
import Derived.Test.YtjgfedmgmfpapaaGreatDoorZ21
import Derived.Test.YtjgfedmgmfpapaaGreatDoorZ18
namespace Go.Proofs.YtjgfedmgmfpapaaGreatDoor
namespace Clus
open Go.RowKit Base OwnR Plc
set_option linter.unusedVariables false

def k1 (ns : List Nodes.D) (M : List Pls.Pl) (key : ByteArray) : Nat := (plN M (own ns key)).getD 0
/-- Whether item q of place i is to move, and from there. -/
def goB (ns cs : List Nodes.D) (M : List Pls.Pl) (i q : Nat) : Bool :=
  (movesR cs.length (k1 ns M ((M.getD i Pls.zeroL).its.getD q Items.zero).key) (k1 cs M ((M.getD i Pls.zeroL).its.getD q Items.zero).key) (M.getD (k1 ns M ((M.getD i Pls.zeroL).its.getD q Items.zero).key) Pls.zeroL).its ((M.getD i Pls.zeroL).its.getD q Items.zero).key).2 &&
    ((M.getD (movesR cs.length (k1 ns M ((M.getD i Pls.zeroL).its.getD q Items.zero).key) (k1 cs M ((M.getD i Pls.zeroL).its.getD q Items.zero).key) (M.getD (k1 ns M ((M.getD i Pls.zeroL).its.getD q Items.zero).key) Pls.zeroL).its ((M.getD i Pls.zeroL).its.getD q Items.zero).key).1.toNat Pls.zeroL).name.toList == (M.getD i Pls.zeroL).name.toList)
/-- Nothing ahead of item q of place i is to move. -/
def NoneTo (ns cs : List Nodes.D) (M : List Pls.Pl) (i q : Nat) : Prop := (∀ j, j < i → ∀ p, p < (M.getD j Pls.zeroL).its.length → goB ns cs M j p = false) ∧ ∀ p, p < q → goB ns cs M i p = false
theorem NoneTo.item {ns cs : List Nodes.D} {M : List Pls.Pl} {i q : Nat} (h : NoneTo ns cs M i q) (hq : goB ns cs M i q = false) : NoneTo ns cs M i (q + 1) := by
  refine ⟨h.1, fun p hp => ?_⟩
  by_cases e : p = q
  · rw [e]; exact hq
  · exact h.2 p (by omega)
theorem NoneTo.place {ns cs : List Nodes.D} {M : List Pls.Pl} {i : Nat} (h : NoneTo ns cs M i (M.getD i Pls.zeroL).its.length) : NoneTo ns cs M (i + 1) 0 := by
  refine ⟨fun j hj p hp => ?_, fun p hp => by omega⟩
  by_cases e : j = i
  · subst e; exact h.2 p hp
  · exact h.1 j (by omega) p hp
/-- What l7First tells. -/
def FirstIs (ns cs : List Nodes.D) (M : List Pls.Pl) (R : ByteArray) : Prop :=
  (∃ i q, i < M.length ∧ q < (M.getD i Pls.zeroL).its.length ∧ NoneTo ns cs M i q ∧ goB ns cs M i q = true ∧ R = ((M.getD i Pls.zeroL).its.getD q Items.zero).key) ∨ (NoneTo ns cs M M.length 0 ∧ R = ByteArray.empty)
theorem mv_lt {cl a b n : Nat} {its : List Items.Itm} {key : ByteArray} (ha : a < n) (hn : 0 < n) : 0 ≤ (movesR cl a b its key).1 ∧ (movesR cl a b its key).1.toNat < n := by
  unfold movesR
  split
  · simpa using hn
  · simpa using ha

theorem its_mem {l : List Items.Itm} {q : Nat} (h : q < l.length) : l.getD q Items.zero ∈ l := by
  rw [List.getD_eq_getElem?_getD, List.getElem?_eq_getElem h]; simp

set_option maxRecDepth 10000 in
set_option maxHeartbeats 4000000 in
theorem first_spec (now nx lim lost : Int) (a1 : Option Addr) (c1 : Nat) (ns : List Nodes.D) (a2 : Option Addr) (c2 : Nat) (cs : List Nodes.D) (g c3 : Nat) (M : List Pls.Pl) (w : World) (hl1 : Nodes.LAt w a1 ns) (hl2 : Nodes.LAt w a2 cs) (hp : ∀ i, i < M.length → Pls.PlAt w g (0 + i * 4) (M.getD i Pls.zeroL)) (hi : ∀ i, i < M.length → Items.ItemsAt w (M.getD i Pls.zeroL).a (M.getD i Pls.zeroL).its ∧ (M.getD i Pls.zeroL).its.length ≤ 1000) (hg : g < w.heap.size) (lp : M.length ≤ 1000) (g1 : NodesM.gnB ns = true) (g2 : cs = [] ∨ NodesM.gnB cs = true)
    (hk : ∀ i, i < M.length → ∀ y ∈ (M.getD i Pls.zeroL).its, y.key.size ≤ maxLen ∧ (∃ j, plN M (own ns y.key) = some j) ∧ (cs ≠ [] → ∃ j, plN M (own cs y.key) = some j)) :
    Calls Tryz.prog 55 #[.agg #[.int .i64 now, .int .i64 nx, .int .i64 lim, .int .i64 lost, .slice a1 ns.length c1, .slice a2 cs.length c2, .slice (some ⟨g, 0, none⟩) M.length c3]] w fun e w' => ∃ R, e = .returned (.string R) ∧ FirstIs ns cs M R ∧ Below w.heap.size w w' := by
  have hmix : Tryz.prog.follows .mixedOrders = true := by kernel_rfl
  have HMIX := hide hmix
  obtain ⟨W, hW⟩ : ∃ W, W = w.alloc (.cells #[.int .i64 now, .int .i64 nx, .int .i64 lim, .int .i64 lost, .slice a1 ns.length c1, .slice a2 cs.length c2, .slice (some ⟨g, 0, none⟩) M.length c3] 30) := ⟨_, rfl⟩
  have BW : Hid (Below w.heap.size w W) := by rw [hW]; exact bel1 w _
  have hzW : w.heap.size < W.heap.size := by rw [hW]; simp
  have CX : Hid (CB W w.heap.size now nx lim lost (.slice a1 ns.length c1) (.slice a2 cs.length c2) (.slice (some ⟨g, 0, none⟩) M.length c3)) := by
    rw [hW]; exact heap_alloc_new w _
  have HW := hide hW
  have HMV := hide (fun (i q : Nat) (hiM : i < M.length) (hq : q < (M.getD i Pls.zeroL).its.length) w' (hb : Below w.heap.size w w') => by
    have hy := hk i hiM _ (its_mem hq)
    exact moves_spec now nx lim lost a1 c1 ns a2 c2 cs g c3 M ((M.getD i Pls.zeroL).its.getD q Items.zero).key (k1 ns M ((M.getD i Pls.zeroL).its.getD q Items.zero).key) (k1 cs M ((M.getD i Pls.zeroL).its.getD q Items.zero).key) w' (hl1.below hb (Nat.le_refl _)) (hl2.below hb (Nat.le_refl _)) (fun i hi => (hp i hi).below hb hg) (fun j hj => ⟨(hi j hj).1.below hb (Nat.le_refl _), (hi j hj).2⟩) (Nat.lt_of_lt_of_le hg hb.size) lp g1 g2 hy.1 (by obtain ⟨j, e⟩ := hy.2.1; unfold k1; rw [e]; rfl) (fun hc => by obtain ⟨j, e⟩ := hy.2.2 hc; unfold k1; rw [e]; rfl))
  have HLT := hide (fun (i q : Nat) (hiM : i < M.length) (hq : q < (M.getD i Pls.zeroL).its.length) => by
    have hy := hk i hiM _ (its_mem hq)
    obtain ⟨j, e⟩ := hy.2.1
    have : k1 ns M ((M.getD i Pls.zeroL).its.getD q Items.zero).key < M.length := by unfold k1; rw [e]; exact plN_lt e
    exact mv_lt (cl := cs.length) (b := k1 cs M ((M.getD i Pls.zeroL).its.getD q Items.zero).key) (its := (M.getD (k1 ns M ((M.getD i Pls.zeroL).its.getD q Items.zero).key) Pls.zeroL).its) (key := ((M.getD i Pls.zeroL).its.getD q Items.zero).key) this (by omega))
  have HQ : Hid (∀ (i q : Nat), i < M.length → q < (M.getD i Pls.zeroL).its.length → ∃ (f : Nat) (t : Bool), f < M.length ∧ goB ns cs M i q = (t && ((M.getD f Pls.zeroL).name.toList == (M.getD i Pls.zeroL).name.toList)) ∧ ∀ w', Below w.heap.size w w' → Calls Tryz.prog 98 #[.agg #[.int .i64 now, .int .i64 nx, .int .i64 lim, .int .i64 lost, .slice a1 ns.length c1, .slice a2 cs.length c2, .slice (some ⟨g, 0, none⟩) M.length c3], .string ((M.getD i Pls.zeroL).its.getD q Items.zero).key] w' fun e w'' => e = .returned (.tuple #[.int .i64 (f : Int), .bool t]) ∧ Below w'.heap.size w' w'') := by
    intro i q hiM hq
    refine ⟨_, _, (unhide HLT i q hiM hq).2, rfl, fun w' hb => ?_⟩
    rw [Int.toNat_of_nonneg (unhide HLT i q hiM hq).1]
    exact unhide HMV i q hiM hq w' hb
  clear HLT HMV
  have HPL := hide (fun (i : Nat) (hiM : i < M.length) w' (hb' : Below w.heap.size w w') => (hp i hiM).below hb' hg)
  have HIT := hide (fun (i : Nat) (hiM : i < M.length) => hi i hiM)
  clear hW hmix hl1 hl2 hp hi g1 g2 hk
  go_enter Tryz.func55, Tryz.ntmps55
  go_upto_region 1 with fail
  rw [← unhide HW]
  clear HW
  obtain ⟨x0, x1, x2, x3, x4, x5, x6, xf, xz⟩ := (unhide CX).cells
  go_wp2_with fail
  clear x0 x1 x2 x3 x4 x5 x6 xf xz
  go_loopw [12] (fun iv wr => ∃ (k : Nat), k ≤ M.length ∧ iv = .int .i64 (k : Int) ∧ Hid (NoneTo ns cs M k 0) ∧ Hid (Below W.heap.size W wr)) (fun iv _ => M.length - (intOf iv).toNat)
  case atStart => exact ⟨0, Nat.zero_le _, rfl, hide ⟨fun j hj => by omega, fun p hp => by omega⟩, hide (Below.refl _ _)⟩
  case round =>
    obtain ⟨k, hk, rfl, hno, hbk⟩ := hrel
    obtain ⟨wk, hname⟩ : ∃ v, v = wr := ⟨_, rfl⟩
    subst hname
    have hzk := (unhide hbk).size
    have BK := hide ((unhide BW).trans ((unhide hbk).mono (unhide BW).size))
    by_cases hlt : k < M.length
    · obtain ⟨d0, d1, d2, d3⟩ := unhide HPL k hlt wk (unhide BK)
      rw [Nat.zero_add] at d0 d1 d2 d3
      have HQK := hide (fun q hq => unhide HQ k q hlt hq)
      have HITK := hide (unhide HIT k hlt).1
      have hil := (unhide HIT k hlt).2
      have HNP := hide (fun (h : NoneTo ns cs M k (M.getD k Pls.zeroL).its.length) => h.place)
      have HF := hide (fun (q : Nat) (hq : q < (M.getD k Pls.zeroL).its.length) (h1 : NoneTo ns cs M k q) (h2 : goB ns cs M k q = true) => (show FirstIs ns cs M ((M.getD k Pls.zeroL).its.getD q Items.zero).key from .inl ⟨k, q, hlt, hq, h1, h2, rfl⟩))
      generalize M.getD k Pls.zeroL = x at d0 d1 d2 d3 HQK HITK hil HNP HF
      go_upto_region 4 with fail
      have q0 : (wk.alloc (.cells #[.string x.name, .int .i64 x.lim, .int .i64 x.nx, .slice x.a x.its.length x.cap] 91)).cell? ⟨wk.heap.size, 0, none⟩ = some (.string x.name) := by rw [World.cell?_alloc_new]; rfl
      have q3 : (wk.alloc (.cells #[.string x.name, .int .i64 x.lim, .int .i64 x.nx, .slice x.a x.its.length x.cap] 91)).cell? ⟨wk.heap.size, 3, none⟩ = some (.slice x.a x.its.length x.cap) := by rw [World.cell?_alloc_new]; rfl
      have BV := hide ((unhide hbk).alloc hzk (.cells #[.string x.name, .int .i64 x.lim, .int .i64 x.nx, .slice x.a x.its.length x.cap] 91))
      have hzV : wk.heap.size < (wk.alloc (.cells #[.string x.name, .int .i64 x.lim, .int .i64 x.nx, .slice x.a x.its.length x.cap] 91)).heap.size := by simp
      generalize wk.alloc (.cells #[.string x.name, .int .i64 x.lim, .int .i64 x.nx, .slice x.a x.its.length x.cap] 91) = V at q0 q3 BV hzV ⊢
      clear d0 d1 d2 d3 hbk BK
      generalize wk.heap.size = pb at q0 q3 hzV hzk ⊢
      have Q0 := hide q0
      have GV := hide ((unhide BW).trans ((unhide BV).mono (unhide BW).size))
      by_cases hne : x.its = []
      · rw [hne] at q3 hil HNP
        clear HF HQK HITK hne q0
        go_wp2_with fail
        go_loopw [20] (fun iv wr => iv = .int .i64 0 ∧ Hid (Below W.heap.size W wr)) (fun _ _ => 0)
        case atStart => exact ⟨rfl, BV⟩
        case round =>
          obtain ⟨rfl, hbi⟩ := hrel
          have HN1 := hide (unhide HNP (unhide hno))
          go_wp2
          go_roundw
          case rel => exact ⟨k + 1, by omega, by go_num, HN1, hbi⟩
          case measure => simp [intOf]; omega
      obtain ⟨b, off, ha, hb, hc⟩ := unhide HITK hne
      rw [ha] at q3
      have HC := hide hc
      have HB := hide hb
      clear hne HITK ha hc q0
      go_wp2_with fail
      go_loopw [20] (fun iv wr => ∃ q : Nat, q ≤ x.its.length ∧ iv = .int .i64 (q : Int) ∧ Hid (NoneTo ns cs M k q) ∧ Hid (Below V.heap.size V wr)) (fun iv _ => x.its.length - (intOf iv).toNat)
      case atStart => exact ⟨0, Nat.zero_le _, rfl, hno, hide (Below.refl _ _)⟩
      case round =>
        obtain ⟨q, hq, rfl, hnq, hbq⟩ := hrel
        obtain ⟨wq, hname⟩ : ∃ v, v = wr := ⟨_, rfl⟩
        subst hname
        have hzq := (unhide hbq).size
        have WQ := hide ((unhide BV).trans ((unhide hbq).mono (unhide BV).size))
        have GQ := hide ((unhide GV).trans ((unhide hbq).mono (unhide GV).size))
        by_cases hlq : q < x.its.length
        · obtain ⟨f, t, hf, hgo, hmv⟩ := unhide HQK q hlq
          obtain ⟨e0, e1, e2, e3, e4⟩ := (unhide HC q hlq).below (unhide GQ) (unhide HB)
          have HMV := hide hmv
          have HGO := hide hgo
          have HFQ := hide (unhide HF q hlq (unhide hnq))
          generalize x.its.getD q Items.zero = it at e0 e1 e2 e3 e4 HMV HFQ
          clear hmv hgo
          go_upto_region 7 with fail
          have u0 : (wq.alloc (.cells #[.string it.key, .int .i64 it.flags, .string it.data, .int .i64 it.upto, .int .i64 it.token] 94)).cell? ⟨wq.heap.size, 0, none⟩ = some (.string it.key) := by rw [World.cell?_alloc_new]; rfl
          have BU := hide ((unhide hbq).alloc hzq (.cells #[.string it.key, .int .i64 it.flags, .string it.data, .int .i64 it.upto, .int .i64 it.token] 94))
          have hzU : wq.heap.size < (wq.alloc (.cells #[.string it.key, .int .i64 it.flags, .string it.data, .int .i64 it.upto, .int .i64 it.token] 94)).heap.size := by simp
          generalize wq.alloc (.cells #[.string it.key, .int .i64 it.flags, .string it.data, .int .i64 it.upto, .int .i64 it.token] 94) = U at u0 BU hzU ⊢
          clear e0 e1 e2 e3 e4 hbq WQ GQ
          generalize wq.heap.size = ib at u0 hzU hzq ⊢
          have WU := hide ((unhide BV).trans ((unhide BU).mono (unhide BV).size))
          have GU := hide ((unhide GV).trans ((unhide BU).mono (unhide GV).size))
          have U0 := hide u0
          obtain ⟨x0, x1, x2, x3, x4, x5, x6, xf, xz⟩ := ((unhide CX).below (unhide WU) hzW).cells
          go_wp2_with fail
          refine (unhide HMV _ (unhide GU)).mono ?_
          rintro e w6 ⟨rfl, hb6⟩
          have W6 := hide ((unhide WU).trans (hb6.mono (unhide WU).size))
          have G6 := hide ((unhide GU).trans (hb6.mono (unhide GU).size))
          have B6 := hide ((unhide BU).trans (hb6.mono (unhide BU).size))
          have v0 : w6.cell? ⟨ib, 0, none⟩ = some (.string it.key) := (hb6.cell (p := ⟨ib, 0, none⟩) hzU).trans (unhide U0)
          have hz6 : ib < w6.heap.size := Nat.lt_of_lt_of_le hzU hb6.size
          clear hb6 x0 x1 x2 x3 x4 x5 x6 xf xz HMV u0 U0 WU GU BU q3
          have m0 : w6.cell? ⟨pb, 0, none⟩ = some (.string x.name) := ((unhide B6).cell (p := ⟨pb, 0, none⟩) hzV).trans (unhide Q0)
          obtain ⟨p0, p1, p2, p3⟩ := unhide HPL f hf w6 (unhide G6)
          rw [Nat.zero_add] at p0 p1 p2 p3
          generalize M.getD f Pls.zeroL = y at p0 p1 p2 p3 HGO
          obtain ⟨x0, x1, x2, x3, x4, x5, x6, xf, xz⟩ := ((unhide CX).below (unhide W6) hzW).cells
          have V0 := hide v0
          cases t
          · have HN1 := hide ((unhide hnq).item (by rw [unhide HGO]; rfl))
            clear HGO HFQ
            go_wp2_with fail
            have m0 := cell_regrown m0
            have p0 := cell_regrown p0
            have x6 := cell_regrown x6
            refine wp_region_quiet_below (unhide HMIX) (by kernel_rfl) ?_
            repeat (go_big_quiet_step (fail))
            refine wpQuiet_nil ?_
            intro _ hw'
            obtain ⟨⟨dq, osq⟩, hw''⟩ := hw'
            subst hw''
            have BQ := hide ((unhide B6).trans ((below_regrown w6 dq osq).mono (unhide B6).size))
            clear m0 p0 p1 p2 p3 x0 x1 x2 x3 x4 x5 x6 xf xz v0 V0
            generalize (Go.Sort.grow (redrawn w6 dq) osq) = v at BQ ⊢
            go_wp2
            go_roundw
            case rel => exact ⟨q + 1, by omega, by go_num, HN1, BQ⟩
            case measure => simp [intOf]; omega
          have hfi : (0 : Int) ≤ (f : Int) := by omega
          have hfd : decide ((0 : Int) ≤ (f : Int)) = true := by simp
          cases hnm : (y.name.toList == x.name.toList)
          · have HN1 := hide ((unhide hnq).item (by rw [unhide HGO, hnm]; rfl))
            clear HGO HFQ
            go_wp2_with fail
            have m0 := cell_regrown m0
            have p0 := cell_regrown p0
            have x6 := cell_regrown x6
            refine wp_region_quiet_below (unhide HMIX) (by kernel_rfl) ?_
            repeat (go_big_quiet_step (fail))
            refine wpQuiet_nil ?_
            intro _ hw'
            obtain ⟨⟨dq, osq⟩, hw''⟩ := hw'
            subst hw''
            have BQ := hide ((unhide B6).trans ((below_regrown w6 dq osq).mono (unhide B6).size))
            clear m0 p0 p1 p2 p3 x0 x1 x2 x3 x4 x5 x6 xf xz v0 V0
            generalize (Go.Sort.grow (redrawn w6 dq) osq) = v at BQ ⊢
            go_wp2
            go_roundw
            case rel => exact ⟨q + 1, by omega, by go_num, HN1, BQ⟩
            case measure => simp [intOf]; omega
          · have H := hide (unhide HFQ (by rw [unhide HGO, hnm]; rfl))
            clear HGO HFQ
            go_wp2_with fail
            have m0 := cell_regrown m0
            have p0 := cell_regrown p0
            have x6 := cell_regrown x6
            refine wp_region_quiet_below (unhide HMIX) (by kernel_rfl) ?_
            repeat (go_big_quiet_step (fail))
            refine wpQuiet_nil ?_
            intro _ hw'
            obtain ⟨⟨dq, osq⟩, hw''⟩ := hw'
            subst hw''
            have GQ := hide ((unhide G6).trans ((below_regrown w6 dq osq).mono (unhide G6).size))
            have z0 : (Go.Sort.grow (redrawn w6 dq) osq).cell? ⟨ib, 0, none⟩ = some (.string it.key) := ((below_regrown w6 dq osq).cell (p := ⟨ib, 0, none⟩) hz6).trans (unhide V0)
            clear m0 p0 p1 p2 p3 x0 x1 x2 x3 x4 x5 x6 xf xz v0 V0
            generalize (Go.Sort.grow (redrawn w6 dq) osq) = v at GQ z0 ⊢
            go_wp2
            go_ret
            exact ⟨it.key, rfl, unhide H, unhide GQ⟩
        · obtain rfl : q = x.its.length := by omega
          have HN1 := hide (unhide HNP (unhide hnq))
          go_wp2
          go_roundw
          case rel => exact ⟨k + 1, by omega, by go_num, HN1, WQ⟩
          case measure => simp [intOf]; omega
    · obtain rfl : k = M.length := by omega
      have H : Hid (FirstIs ns cs M ByteArray.empty) := hide (.inr ⟨unhide hno, rfl⟩)
      go_wp2
      go_ret
      exact ⟨ByteArray.empty, rfl, unhide H, unhide BK⟩
end Clus
end Go.Proofs.YtjgfedmgmfpapaaGreatDoor
/-
  Which items are to move, plainly. No Go function is spoken of here.
-/
namespace Go.Proofs.YtjgfedmgmfpapaaGreatDoor
namespace Fleet
open Go.RowKit Base Store Items OwnR Keep Clus Marks Plc
set_option linter.unusedVariables false

theorem empty_list : ByteArray.empty.toList = [] := by simp [ByteArray.toList, ByteArray.toList.loop]
theorem pl_at {N : List Pls.Pl} {z : ByteArray} {j : Nat} (h : plN N z = some j) : j < N.length ∧ (N.getD j Pls.zeroL).name = z := by
  rw [plN_core] at h
  obtain ⟨h1, h2⟩ := at_some h
  have h1' : j < N.length := by simpa using h1
  refine ⟨h1', ?_⟩
  rw [← h2]
  simp [List.getD_eq_getElem?_getD, List.getElem?_map, List.getElem?_eq_getElem h1']
  rfl
theorem pl_inj {N : List Pls.Pl} (hr : Rising ((N.map (·.name)).map toL)) {i j : Nat} (hi : i < N.length) (hj : j < N.length) (h : (N.getD i Pls.zeroL).name = (N.getD j Pls.zeroL).name) : i = j := by
  have e : ∀ k, k < N.length → (N.map (·.name)).getD k ByteArray.empty = (N.getD k Pls.zeroL).name := fun k hk => by simp [List.getD_eq_getElem?_getD, List.getElem?_map, List.getElem?_eq_getElem hk]
  have h1 := kOf_is hr (x := (N.getD i Pls.zeroL).name) (by simpa using hi) (e i hi)
  have h2 := kOf_is hr (x := (N.getD i Pls.zeroL).name) (by simpa using hj) ((e j hj).trans h.symm)
  exact h1.symm.trans h2
theorem atI_mem {its : List Itm} {q : Nat} (hq : q < its.length) : 0 ≤ atI its (its.getD q zero).key := by
  unfold atI
  cases h : atN its (its.getD q zero).key with
  | some k => simp
  | none =>
    unfold atN at h
    have := List.findIdx?_eq_none_iff.1 h (its.getD q zero) (its_mem hq)
    simp [hasKey] at this
/-- An item is to move just where it does not belong on the ring that is gone to. -/
theorem go_iff {ns cs : List Nodes.D} {N : List Pls.Pl} {i q j1 j2 : Nat} (hc : cs.length ≠ 0) (hr : Rising ((N.map (·.name)).map toL)) (hi : i < N.length) (hq : q < (N.getD i Pls.zeroL).its.length)
    (h1 : plN N (own ns ((N.getD i Pls.zeroL).its.getD q zero).key) = some j1) (h2 : plN N (own cs ((N.getD i Pls.zeroL).its.getD q zero).key) = some j2)
    (ho : own ns ((N.getD i Pls.zeroL).its.getD q zero).key = (N.getD i Pls.zeroL).name ∨ own cs ((N.getD i Pls.zeroL).its.getD q zero).key = (N.getD i Pls.zeroL).name) :
    goB ns cs N i q = decide (own cs ((N.getD i Pls.zeroL).its.getD q zero).key ≠ (N.getD i Pls.zeroL).name) := by
  have ha := atI_mem hq
  unfold goB
  generalize hx : (N.getD i Pls.zeroL).its.getD q zero = x at *
  have e1 : k1 ns N x.key = j1 := by unfold k1; rw [h1]; rfl
  have e2 : k1 cs N x.key = j2 := by unfold k1; rw [h2]; rfl
  rw [e1, e2]
  obtain ⟨l1, n1⟩ := pl_at h1
  obtain ⟨l2, n2⟩ := pl_at h2
  by_cases hn : own cs x.key = (N.getD i Pls.zeroL).name
  · have e : j2 = i := pl_inj hr l2 hi (n2.trans hn)
    rw [decide_eq_false (by simpa using hn)]
    by_cases hj : j1 = j2
    · rw [mv_same hc hj]; rfl
    · rw [mv_far hc hj]
      have : (((N.getD (((j1 : Nat) : Int).toNat) Pls.zeroL).name.toList == (N.getD i Pls.zeroL).name.toList)) = false := by
        rw [name_eq, decide_eq_false_iff_not, Int.toNat_natCast]
        intro h
        exact hj ((pl_inj hr l1 hi h).trans e.symm)
      rw [this, Bool.and_false]
  · have hs := ho.resolve_right hn
    have e : j1 = i := pl_inj hr l1 hi (n1.trans hs)
    have hj : j1 ≠ j2 := fun h => hn (by rw [← n2, ← h, e])
    rw [mv_far hc hj, show decide (own cs x.key ≠ (N.getD i Pls.zeroL).name) = true from decide_eq_true hn]
    subst e
    rw [decide_eq_true ha, Int.toNat_natCast]
    simp
end Fleet
end Go.Proofs.YtjgfedmgmfpapaaGreatDoor
/-
  Boxes of stores and items beside a cluster's rows; a store put into a place. No Go function is spoken of here.
-/
namespace Go.Proofs.YtjgfedmgmfpapaaGreatDoor
namespace Clus
open Go.RowKit Base OwnR Plc Store
set_option linter.unusedVariables false

/-- A store in a box. -/
def SB (w : World) (S : Nat) (lim nx : Int) (v : Value) : Prop := w.heap[S]? = some (.cells #[.int .i64 lim, .int .i64 nx, v] 89 (0, 0))
theorem SB.lt {w : World} {S : Nat} {lim nx : Int} {v : Value} (h : SB w S lim nx v) : S < w.heap.size := (Array.getElem?_eq_some_iff.1 h).1
theorem SB.cells {w : World} {S : Nat} {lim nx : Int} {v : Value} (h : SB w S lim nx v) : w.cell? ⟨S, 0, none⟩ = some (.int .i64 lim) ∧ w.cell? ⟨S, 1, none⟩ = some (.int .i64 nx) ∧ w.cell? ⟨S, 2, none⟩ = some v ∧ (∀ o, w.frozen? ⟨S, o, none⟩ = false) ∧ S < w.heap.size := by
  refine ⟨?_, ?_, ?_, fun o => Lib.frozen_of_heap h o, h.lt⟩ <;> (rw [Lib.cell_of_heap h]; rfl)
theorem SB.blk {w w' : World} {S : Nat} {lim nx : Int} {v : Value} (h : SB w S lim nx v) (e : w'.heap[S]? = w.heap[S]?) : SB w' S lim nx v := e.trans h
theorem SB.below {w w' : World} {S B : Nat} {lim nx : Int} {v : Value} (h : SB w S lim nx v) (hb : Below B w w') (hS : S < B) : SB w' S lim nx v := h.blk (hb.block S hS)
theorem SB.other {w : World} {S : Nat} {lim nx : Int} {v : Value} (h : SB w S lim nx v) {p : Addr} (hp : p.block ≠ S) (u : Value) : SB (w.setCell p u) S lim nx v := h.blk (Below.heap_setCell w p u S (fun e => hp e.symm))
theorem SB.new (u : World) (lim nx : Int) (v : Value) : SB (u.alloc (.cells #[.int .i64 lim, .int .i64 nx, v] 89)) u.heap.size lim nx v := heap_alloc_new u _
theorem SB.set1 {w : World} {S : Nat} {lim nx : Int} {v : Value} (h : SB w S lim nx v) (u : Int) : SB (w.setCell ⟨S, 1, none⟩ (.int .i64 u)) S lim u v := by
  unfold SB at *; simp [World.setCell, Array.getElem?_modify, h]
theorem SB.set2 {w : World} {S : Nat} {lim nx : Int} {v : Value} (h : SB w S lim nx v) (u : Value) : SB (w.setCell ⟨S, 2, none⟩ u) S lim nx u := by
  unfold SB at *; simp [World.setCell, Array.getElem?_modify, h]
/-- An item in a box. -/
def IB (w : World) (I : Nat) (x : Items.Itm) : Prop := w.heap[I]? = some (.cells #[.string x.key, .int .i64 x.flags, .string x.data, .int .i64 x.upto, .int .i64 x.token] 94 (0, 0))
theorem IB.lt {w : World} {I : Nat} {x : Items.Itm} (h : IB w I x) : I < w.heap.size := (Array.getElem?_eq_some_iff.1 h).1
theorem IB.cells {w : World} {I : Nat} {x : Items.Itm} (h : IB w I x) : w.cell? ⟨I, 0, none⟩ = some (.string x.key) ∧ w.cell? ⟨I, 1, none⟩ = some (.int .i64 x.flags) ∧ w.cell? ⟨I, 2, none⟩ = some (.string x.data) ∧ w.cell? ⟨I, 3, none⟩ = some (.int .i64 x.upto) ∧ w.cell? ⟨I, 4, none⟩ = some (.int .i64 x.token) := by
  refine ⟨?_, ?_, ?_, ?_, ?_⟩ <;> (rw [Lib.cell_of_heap h]; rfl)
theorem IB.blk {w w' : World} {I : Nat} {x : Items.Itm} (h : IB w I x) (e : w'.heap[I]? = w.heap[I]?) : IB w' I x := e.trans h
theorem IB.below {w w' : World} {I B : Nat} {x : Items.Itm} (h : IB w I x) (hb : Below B w w') (hI : I < B) : IB w' I x := h.blk (hb.block I hI)
theorem IB.other {w : World} {I : Nat} {x : Items.Itm} (h : IB w I x) {p : Addr} (hp : p.block ≠ I) (u : Value) : IB (w.setCell p u) I x := h.blk (Below.heap_setCell w p u I (fun e => hp e.symm))
theorem IB.new (u : World) (x : Items.Itm) : IB (u.alloc (.cells #[.string x.key, .int .i64 x.flags, .string x.data, .int .i64 x.upto, .int .i64 x.token] 94)) u.heap.size x := heap_alloc_new u _
theorem kind_far {w : World} {Y : Nat} {base : Nat} {e t : TypeId} {size : Nat} {v : Value} {n : Nat} {xs : List Value} {cs : Array Value} (h : w.ownsRow base e size v n xs) (hc : w.heap[Y]? = some (.cells cs t (0, 0))) (he : e ≠ t) : v.ownBlock ≠ some Y := by
  intro hv
  rcases h.2 with ⟨rfl, _⟩ | ⟨q, cap, cur, rfl, _, hh, _⟩
  · simp [Value.ownBlock] at hv
  · have e1 : q = Y := by simpa [Value.ownBlock] using hv
    rw [e1, hc] at hh
    simp only [Option.some.injEq, Obj.cells.injEq] at hh
    exact he hh.2.1.symm
theorem CO.sbox {w : World} {B Y : Nat} {c : Cl} {lim nx : Int} {v : Value} (h : CO w B c) (hc : SB w Y lim nx v) (o : Nat) (u : Value) : CO (w.setCell ⟨Y, o, none⟩ u) B c :=
  ⟨ownsRow_setCell_other h.n (a := ⟨Y, o, none⟩) (kind_far h.n hc (by decide)) u, ownsRow_setCell_other h.m (a := ⟨Y, o, none⟩) (kind_far h.m hc (by decide)) u,
    ⟨h.p.len, ownsRow_setCell_other h.p.row (a := ⟨Y, o, none⟩) (kind_far h.p.row hc (by decide)) u, fun x hx => ownsRow_setCell_other (h.p.its x hx) (a := ⟨Y, o, none⟩) (kind_far (h.p.its x hx) hc (by decide)) u, h.p.far⟩, h.fn, h.fm⟩

theorem pflat_put3 : ∀ (M : List Pls.Pl) (k : Nat) (y : Pls.Pl), k < M.length → y.name = (M.getD k Pls.zeroL).name → (((pflat M).set (k * 4 + 1) (.int .i64 y.lim)).set (k * 4 + 2) (.int .i64 y.nx)).set (k * 4 + 3) (.slice y.a y.its.length y.cap) = pflat (M.set k y)
  | [], k, y, h, _ => by simp at h
  | x :: m, k, y, h, hn => by
    have e : pflat (x :: m) = pcells x ++ pflat m := by simp [pflat]
    have el : (pcells x).length = 4 := rfl
    rw [e]
    cases k with
    | zero =>
      have hn' : y.name = x.name := hn
      simp [pflat, pcells, hn']
    | succ k =>
      rw [List.set_append_right _ _ (by omega), List.set_append_right _ _ (by omega), List.set_append_right _ _ (by omega), el, show (k + 1) * 4 + 1 - 4 = k * 4 + 1 by omega, show (k + 1) * 4 + 2 - 4 = k * 4 + 2 by omega, show (k + 1) * 4 + 3 - 4 = k * 4 + 3 by omega, pflat_put3 m k y (by simpa using h) (by simpa using hn)]
      simp [pflat]
/-- A store put into a place of a row. -/
def put3 (w : World) (g k : Nat) (y : Pls.Pl) : World := ((w.setCell ⟨g, k * 4 + 1, none⟩ (.int .i64 y.lim)).setCell ⟨g, k * 4 + 2, none⟩ (.int .i64 y.nx)).setCell ⟨g, k * 4 + 3, none⟩ (.slice y.a y.its.length y.cap)
theorem own_put3 {w : World} {base : Nat} {e : TypeId} {size : Nat} {v : Value} {n : Nat} {xs : List Value} (h : w.ownsRow base e size v n xs) {g : Nat} (hg : v.ownBlock ≠ some g) (k : Nat) (y : Pls.Pl) : (put3 w g k y).ownsRow base e size v n xs :=
  ownsRow_setCell_other (ownsRow_setCell_other (ownsRow_setCell_other h (a := ⟨g, _, none⟩) hg _) (a := ⟨g, _, none⟩) hg _) (a := ⟨g, _, none⟩) hg _
theorem PO.put3 {w : World} {B g n cap : Nat} {M : List Pls.Pl} (h : PO w B (some ⟨g, 0, none⟩) n cap M) (k : Nat) (hk : k < M.length) (y : Pls.Pl) (hn : y.name = (M.getD k Pls.zeroL).name) (hy : w.ownsRow B 94 5 (.slice y.a y.its.length y.cap) y.its.length (Own.flat y.its)) (hyf : (Value.slice y.a y.its.length y.cap).ownBlock ≠ some g) : PO (Clus.put3 w g k y) B (some ⟨g, 0, none⟩) n cap (M.set k y) := by
  refine ⟨by rw [List.length_set]; exact h.len, ?_, fun z hz => ?_, fun z hz q hq => ?_⟩
  · have := (((h.row.stored (k * 4 + 1) (.int .i64 y.lim)).1.stored (k * 4 + 2) (.int .i64 y.nx)).1.stored (k * 4 + 3) (.slice y.a y.its.length y.cap)).1
    rw [pflat_put3 M k y hk hn] at this
    exact this
  · rcases List.mem_or_eq_of_mem_set hz with hz | rfl
    · exact own_put3 (h.its z hz) (fun e => h.far z hz g e rfl) k y
    · exact own_put3 hy hyf k z
  · rcases List.mem_or_eq_of_mem_set hz with hz | rfl
    · exact h.far z hz q hq
    · intro e
      have e' : g = q := by simpa [Value.ownBlock] using e
      exact hyf (by rw [hq, e'])
theorem CO.put3 {w : World} {B : Nat} {c : Cl} {g : Nat} (h : CO w B c) (hg : c.pa = some ⟨g, 0, none⟩) (k : Nat) (hk : k < c.ps.length) (y : Pls.Pl) (hn : y.name = (c.ps.getD k Pls.zeroL).name) (hy : w.ownsRow B 94 5 (.slice y.a y.its.length y.cap) y.its.length (Own.flat y.its)) (hyf : (Value.slice y.a y.its.length y.cap).ownBlock ≠ some g) : CO (Clus.put3 w g k y) B (withP c k y) := by
  have hp := h.p
  have h1 := h.fn
  have h2 := h.fm
  rw [hg] at hp h1 h2
  have e : (Value.slice (some ⟨g, 0, none⟩) c.ps.length c.pc).ownBlock = some g := rfl
  have el : (c.ps.set k y).length = c.ps.length := List.length_set
  refine ⟨own_put3 h.n (fun h' => h1 g h' e) k y, own_put3 h.m (fun h' => h2 g h' e) k y, ?_, ?_, ?_⟩
  · show PO _ B c.pa (c.ps.set k y).length c.pc _
    rw [el, hg]
    exact hp.put3 k hk y hn hy hyf
  · show ∀ q, (Value.slice c.na c.ns.length c.nc).ownBlock = some q → (Value.slice c.pa (c.ps.set k y).length c.pc).ownBlock ≠ some q
    rw [el, hg]; exact h1
  · show ∀ q, (Value.slice c.ca c.cs.length c.cc).ownBlock = some q → (Value.slice c.pa (c.ps.set k y).length c.pc).ownBlock ≠ some q
    rw [el, hg]; exact h2

/-- A cluster that a call works on: its rows, the call's two boxes, and what lies outside. -/
structure MS (w : World) (B g : Nat) (c : Cl) (u : World) : Prop where
  co : CO u B c
  x : CB u w.heap.size c.now c.nx c.lim c.lost (.slice c.na c.ns.length c.nc) (.slice c.ca c.cs.length c.cc) (.slice c.pa c.ps.length c.pc)
  y : CB u (w.heap.size + 1) 0 0 0 0 (.slice none 0 0) (.slice none 0 0) (.slice none 0 0)
  b : Below B w u
  k : Kp g w u
  z : w.heap.size + 2 ≤ u.heap.size
  pa : c.pa = some ⟨g, 0, none⟩
  gl : g < w.heap.size
  bl : B ≤ w.heap.size
theorem MS.below {w u u' : World} {B g : Nat} {c : Cl} (h : MS w B g c u) (hb : Below u.heap.size u u') : MS w B g c u' := by
  have hz := h.z
  have hs := hb.size
  exact ⟨h.co.below hb (Nat.le_refl _), h.x.below hb (by omega), h.y.below hb (by omega), h.b.trans (hb.mono (by have := h.bl; omega)), h.k.below (by omega) hb, by omega, h.pa, h.gl, h.bl⟩
theorem MS.sto {w u : World} {B g S : Nat} {c : Cl} {lim nx : Int} {v : Value} (h : MS w B g c u) (hs : SB u S lim nx v) (hS : w.heap.size + 2 ≤ S) (o : Nat) (t : Value) : MS w B g c (u.setCell ⟨S, o, none⟩ t) := by
  have hz := h.z
  have hl := h.bl
  exact ⟨h.co.sbox hs o t, h.x.other (p := ⟨S, o, none⟩) (by show S ≠ w.heap.size; omega) t, h.y.other (p := ⟨S, o, none⟩) (by show S ≠ w.heap.size + 1; omega) t, h.b.setCell (p := ⟨S, o, none⟩) (by show B ≤ S; omega) t, h.k.new (by omega) o t, by rw [show (u.setCell ⟨S, o, none⟩ t).heap.size = u.heap.size by simp]; exact hz, h.pa, h.gl, hl⟩
theorem MS.put {w u : World} {B g : Nat} {c : Cl} (h : MS w B g c u) (k : Nat) (hk : k < c.ps.length) (y : Pls.Pl) (hn : y.name = (c.ps.getD k Pls.zeroL).name) (hy : u.ownsRow B 94 5 (.slice y.a y.its.length y.cap) y.its.length (Own.flat y.its)) : MS w B g (withP c k y) (put3 u g k y) := by
  have hz := h.z
  have hl := h.bl
  have hg := h.gl
  have hBg : B ≤ g := by
    have := h.co.p.row
    rw [h.pa] at this
    exact (this.lt g rfl).1
  have hyf : (Value.slice y.a y.its.length y.cap).ownBlock ≠ some g := by
    have hrow := h.co.p.row
    rw [h.pa] at hrow
    rcases hrow.2 with ⟨hv, _⟩ | ⟨q, cap, cur, hv, _, hh, _⟩
    · simp at hv
    · simp only [Value.slice.injEq, Option.some.injEq, Addr.mk.injEq, and_true] at hv
      rw [← hv.1] at hh
      exact kind_far hy hh (by decide)
  have el : (c.ps.set k y).length = c.ps.length := List.length_set
  have hx := h.x
  refine ⟨h.co.put3 h.pa k hk y hn hy hyf, ?_, ?_, ?_, ?_, ?_, h.pa, hg, hl⟩
  · show CB _ _ c.now c.nx c.lim c.lost (.slice c.na c.ns.length c.nc) (.slice c.ca c.cs.length c.cc) (.slice c.pa (c.ps.set k y).length c.pc)
    rw [el]
    exact ((hx.other (p := ⟨g, k * 4 + 1, none⟩) (by show g ≠ w.heap.size; omega) _).other (p := ⟨g, k * 4 + 2, none⟩) (by show g ≠ w.heap.size; omega) _).other (p := ⟨g, k * 4 + 3, none⟩) (by show g ≠ w.heap.size; omega) _
  · exact ((h.y.other (p := ⟨g, k * 4 + 1, none⟩) (by show g ≠ w.heap.size + 1; omega) _).other (p := ⟨g, k * 4 + 2, none⟩) (by show g ≠ w.heap.size + 1; omega) _).other (p := ⟨g, k * 4 + 3, none⟩) (by show g ≠ w.heap.size + 1; omega) _
  · exact ((h.b.setCell (p := ⟨g, k * 4 + 1, none⟩) hBg _).setCell (p := ⟨g, k * 4 + 2, none⟩) hBg _).setCell (p := ⟨g, k * 4 + 3, none⟩) hBg _
  · exact ((h.k.set _ _).set _ _).set _ _
  · unfold put3; simp; exact hz
/-- What lies at a place. -/
theorem MS.pl {w u : World} {B g : Nat} {c : Cl} (h : MS w B g c u) (i : Nat) (hi : i < c.ps.length) : u.cell? ⟨g, i * 4 + 1, none⟩ = some (.int .i64 (c.ps.getD i Pls.zeroL).lim) ∧ u.cell? ⟨g, i * 4 + 2, none⟩ = some (.int .i64 (c.ps.getD i Pls.zeroL).nx) ∧ u.cell? ⟨g, i * 4 + 3, none⟩ = some (.slice (c.ps.getD i Pls.zeroL).a (c.ps.getD i Pls.zeroL).its.length (c.ps.getD i Pls.zeroL).cap) ∧ (∀ o, u.frozen? ⟨g, o, none⟩ = false) ∧ g < u.heap.size := by
  have hp := h.co.p
  rw [h.pa] at hp
  obtain ⟨d0, d1, d2, d3⟩ := hp.pl i hi
  rw [Nat.zero_add] at d1 d2 d3
  exact ⟨d1, d2, d3, fun o => hp.row.frozenAt o, by have := h.gl; have := h.z; omega⟩
theorem SB.put3 {w : World} {S g k : Nat} {lim nx : Int} {v : Value} {y : Pls.Pl} (h : SB w S lim nx v) (hne : g ≠ S) : SB (put3 w g k y) S lim nx v :=
  ((h.other (p := ⟨g, k * 4 + 1, none⟩) hne _).other (p := ⟨g, k * 4 + 2, none⟩) hne _).other (p := ⟨g, k * 4 + 3, none⟩) hne _
theorem IB.put3 {w : World} {I g k : Nat} {x : Items.Itm} {y : Pls.Pl} (h : IB w I x) (hne : g ≠ I) : IB (put3 w g k y) I x :=
  ((h.other (p := ⟨g, k * 4 + 1, none⟩) hne _).other (p := ⟨g, k * 4 + 2, none⟩) hne _).other (p := ⟨g, k * 4 + 3, none⟩) hne _
end Clus
end Go.Proofs.YtjgfedmgmfpapaaGreatDoor
/-
  The model's l7Lose: what is lost is counted, up to a million.
-/
namespace Go.Proofs.YtjgfedmgmfpapaaGreatDoor
namespace Clus
open Go.RowKit Base OwnR Plc Store
set_option linter.unusedVariables false

set_option maxRecDepth 10000 in
set_option maxHeartbeats 2000000 in
theorem lose_any (now nx lim lost n : Int) (a1 a2 a3 : Option Addr) (n1 n2 n3 c1 c2 c3 : Nat) (w : World) (h1 : 0 ≤ lost ∧ lost ≤ 1000000) (h2 : 0 ≤ n ∧ n ≤ 1000) :
    Calls Tryz.prog 71 #[.agg #[.int .i64 now, .int .i64 nx, .int .i64 lim, .int .i64 lost, .slice a1 n1 c1, .slice a2 n2 c2, .slice a3 n3 c3], .int .i64 n] w fun e w' => e = .returned (.agg #[.int .i64 now, .int .i64 nx, .int .i64 lim, .int .i64 (min (lost + n) 1000000), .slice a1 n1 c1, .slice a2 n2 c2, .slice a3 n3 c3]) ∧ Below w.heap.size w w' := by
  have hw : IntKind.i64.wrap (lost + n) = lost + n := by rw [IntKind.wrap_i64]; omega
  obtain ⟨W, hW⟩ : ∃ W, W = (w.alloc (.cells #[.int .i64 now, .int .i64 nx, .int .i64 lim, .int .i64 lost, .slice a1 n1 c1, .slice a2 n2 c2, .slice a3 n3 c3] 30)).alloc (.cells #[.int .i64 0, .int .i64 0, .int .i64 0, .int .i64 0, .slice none 0 0, .slice none 0 0, .slice none 0 0] 30) := ⟨_, rfl⟩
  have BW : Hid (Below w.heap.size w W) := by rw [hW]; exact bel2 w _ _
  have hzW : w.heap.size + 2 ≤ W.heap.size := by rw [hW]; simp
  have CX : Hid (CB W w.heap.size now nx lim lost (.slice a1 n1 c1) (.slice a2 n2 c2) (.slice a3 n3 c3)) := by
    rw [hW]; exact ((bel1 (w.alloc _) _).block w.heap.size (by simp)).trans (heap_alloc_new w _)
  have CY : Hid (CB W (w.heap.size + 1) 0 0 0 0 (.slice none 0 0) (.slice none 0 0) (.slice none 0 0)) := by
    rw [hW]
    have := heap_alloc_new (w.alloc (.cells #[.int .i64 now, .int .i64 nx, .int .i64 lim, .int .i64 lost, .slice a1 n1 c1, .slice a2 n2 c2, .slice a3 n3 c3] 30)) (.cells #[.int .i64 0, .int .i64 0, .int .i64 0, .int .i64 0, .slice none 0 0, .slice none 0 0, .slice none 0 0] 30)
    rw [World.size_alloc] at this
    exact this
  have HW := hide hW
  clear hW
  have X1 := hide ((unhide CX).set3 (lost + n))
  have Y1 := hide ((unhide CY).other (p := ⟨w.heap.size, 3, none⟩) (by show w.heap.size ≠ w.heap.size + 1; omega) (.int .i64 (lost + n)))
  have B1 := hide ((unhide BW).setCell (p := ⟨w.heap.size, 3, none⟩) (Nat.le_refl _) (.int .i64 (lost + n)))
  have hz1 : w.heap.size + 2 ≤ (W.setCell ⟨w.heap.size, 3, none⟩ (.int .i64 (lost + n))).heap.size := by simp; omega
  obtain ⟨m, hm⟩ : ∃ m, m = min (lost + n) 1000000 := ⟨_, rfl⟩
  rw [← hm]
  go_enter Tryz.func71, Tryz.ntmps71
  go_upto_region 1 with fail
  rw [← unhide HW]
  obtain ⟨x0, x1, x2, x3, x4, x5, x6, xf, xz⟩ := (unhide CX).cells
  go_upto_region 2 with fail
  clear x0 x1 x2 x3 x4 x5 x6 xf xz HW
  generalize W.setCell ⟨w.heap.size, 3, none⟩ (.int .i64 (lost + n)) = U at X1 Y1 B1 hz1 ⊢
  clear CX CY BW
  by_cases h : 1000000 < lost + n
  · obtain rfl : m = 1000000 := by omega
    clear hm
    have X2 := hide ((unhide X1).set3 1000000)
    have Y2 := hide ((unhide Y1).other (p := ⟨w.heap.size, 3, none⟩) (by show w.heap.size ≠ w.heap.size + 1; omega) (.int .i64 1000000))
    have B2 := hide ((unhide B1).setCell (p := ⟨w.heap.size, 3, none⟩) (Nat.le_refl _) (.int .i64 1000000))
    have hz2 : w.heap.size + 2 ≤ (U.setCell ⟨w.heap.size, 3, none⟩ (.int .i64 1000000)).heap.size := by simp; omega
    obtain ⟨x0, x1, x2, x3, x4, x5, x6, xf, xz⟩ := (unhide X1).cells
    go_upto_region 4 with fail
    clear x0 x1 x2 x3 x4 x5 x6 xf xz
    generalize U.setCell ⟨w.heap.size, 3, none⟩ (.int .i64 1000000) = V at X2 Y2 B2 hz2 ⊢
    obtain ⟨x0, x1, x2, x3, x4, x5, x6, xf, xz⟩ := (unhide X2).cells
    obtain ⟨y0, y1, y2, y3, y4, y5, y6, yf, yz⟩ := (unhide Y2).cells
    go_wp2
    refine bodyPost_ret (v := .agg #[.int .i64 now, .int .i64 nx, .int .i64 lim, .int .i64 1000000, .slice a1 n1 c1, .slice a2 n2 c2, .slice a3 n3 c3]) (by simp [results, Tryz.results71, go_sem, y0, y1, y2, y3, y4, y5, y6]) rfl ⟨rfl, ?_⟩
    repeat (refine Below.setCell ?_ (by first | (simp; done) | (simp; omega)) _)
    exact unhide B2
  · obtain rfl : m = lost + n := by omega
    clear hm
    obtain ⟨x0, x1, x2, x3, x4, x5, x6, xf, xz⟩ := (unhide X1).cells
    obtain ⟨y0, y1, y2, y3, y4, y5, y6, yf, yz⟩ := (unhide Y1).cells
    go_wp2
    refine bodyPost_ret (v := .agg #[.int .i64 now, .int .i64 nx, .int .i64 lim, .int .i64 (lost + n), .slice a1 n1 c1, .slice a2 n2 c2, .slice a3 n3 c3]) (by simp [results, Tryz.results71, go_sem, y0, y1, y2, y3, y4, y5, y6]) rfl ⟨rfl, ?_⟩
    repeat (refine Below.setCell ?_ (by first | (simp; done) | (simp; omega)) _)
    exact unhide B1
end Clus
end Go.Proofs.YtjgfedmgmfpapaaGreatDoor
