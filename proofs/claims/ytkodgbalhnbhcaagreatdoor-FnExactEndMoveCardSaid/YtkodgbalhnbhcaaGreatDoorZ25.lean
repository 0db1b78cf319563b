/-
  The model's l7Moves: whether a key is to move, and from which place.
-/
import Derived.Test.YtkodgbalhnbhcaaGreatDoorOwnerS
import Derived.Test.YtkodgbalhnbhcaaGreatDoorZ22
namespace Go.Proofs.YtkodgbalhnbhcaaGreatDoor
namespace Clus
open Go.RowKit Base OwnR Plc
set_option linter.unusedVariables false

set_option maxRecDepth 10000 in
set_option maxHeartbeats 1000000 in
theorem l2At_opt (lim nx : Int) (a : Option Addr) (cap : Nat) (its : List Items.Itm) (key : ByteArray) (w : World) (h : Items.ItemsAt w a its) (hl : its.length ≤ maxLen) :
    Calls Tryz.prog 68 #[.agg #[.int .i64 lim, .int .i64 nx, .slice a its.length cap], .string key] w fun e w' => e = .returned (.int .i64 (Store.atI its key)) ∧ Below w.heap.size w w' := by
  by_cases hne : its = []
  · subst hne
    go_enter Tryz.func68, Tryz.ntmps68
    go_wp2
    go_loopw [10] (fun i wr => i = .int .i64 0 ∧ Hid (Below w.heap.size w wr)) (fun _ _ => 0)
    case atStart => exact ⟨rfl, hide (bel1 w _)⟩
    case round =>
      obtain ⟨rfl, hbel⟩ := hrel
      go_wp2
      go_ret
      exact ⟨rfl, unhide hbel⟩
  · obtain ⟨b, off, rfl, hb, hc⟩ := h hne
    exact Store.l2At_some lim nx b off cap its key w hb hc hl

/-- Whether a key is to move, and from where. -/
def movesR (cl : Nat) (k1 k2 : Nat) (its : List Items.Itm) (key : ByteArray) : Int × Bool :=
  if cl = 0 then (0, false) else (k1, decide (k1 ≠ k2) && decide (0 ≤ Store.atI its key))
theorem mv_none {cl k1 k2 : Nat} {its : List Items.Itm} {key : ByteArray} (h : cl = 0) : movesR cl k1 k2 its key = (0, false) := if_pos h
theorem mv_same {cl k1 k2 : Nat} {its : List Items.Itm} {key : ByteArray} (h : cl ≠ 0) (he : k1 = k2) : movesR cl k1 k2 its key = ((k1 : Int), false) := by unfold movesR; rw [if_neg h]; simp [he]
theorem mv_far {cl k1 k2 : Nat} {its : List Items.Itm} {key : ByteArray} (h : cl ≠ 0) (he : k1 ≠ k2) : movesR cl k1 k2 its key = ((k1 : Int), decide (0 ≤ Store.atI its key)) := by unfold movesR; rw [if_neg h]; simp [he]

set_option maxRecDepth 10000 in
set_option maxHeartbeats 4000000 in
theorem moves_spec (now nx lim lost : Int) (a1 : Option Addr) (c1 : Nat) (ns : List Nodes.D) (a2 : Option Addr) (c2 : Nat) (cs : List Nodes.D) (g c3 : Nat) (M : List Pls.Pl) (key : ByteArray) (k1 k2 : Nat) (w : World) (hl1 : Nodes.LAt w a1 ns) (hl2 : Nodes.LAt w a2 cs) (hp : ∀ i, i < M.length → Pls.PlAt w g (0 + i * 4) (M.getD i Pls.zeroL)) (hi : ∀ i, i < M.length → Items.ItemsAt w (M.getD i Pls.zeroL).a (M.getD i Pls.zeroL).its ∧ (M.getD i Pls.zeroL).its.length ≤ 1000) (hg : g < w.heap.size) (lp : M.length ≤ 1000) (g1 : NodesM.gnB ns = true) (g2 : cs = [] ∨ NodesM.gnB cs = true) (hk : key.size ≤ maxLen) (h1 : plN M (own ns key) = some k1) (h2 : cs ≠ [] → plN M (own cs key) = some k2) :
    Calls Tryz.prog 118 #[.agg #[.int .i64 now, .int .i64 nx, .int .i64 lim, .int .i64 lost, .slice a1 ns.length c1, .slice a2 cs.length c2, .slice (some ⟨g, 0, none⟩) M.length c3], .string key] w fun e w' => e = .returned (.tuple #[.int .i64 (movesR cs.length k1 k2 (M.getD k1 Pls.zeroL).its key).1, .bool (movesR cs.length k1 k2 (M.getD k1 Pls.zeroL).its key).2]) ∧ Below w.heap.size w w' := by
  have hmix : Tryz.prog.follows .mixedOrders = true := by kernel_rfl
  have HMIX := hide hmix
  obtain ⟨W, hW⟩ : ∃ W, W = w.alloc (.cells #[.int .i64 now, .int .i64 nx, .int .i64 lim, .int .i64 lost, .slice a1 ns.length c1, .slice a2 cs.length c2, .slice (some ⟨g, 0, none⟩) M.length c3] 30) := ⟨_, rfl⟩
  have BW : Hid (Below w.heap.size w W) := by rw [hW]; exact bel1 w _
  have hzW : w.heap.size < W.heap.size := by rw [hW]; simp
  have CX : Hid (CB W w.heap.size now nx lim lost (.slice a1 ns.length c1) (.slice a2 cs.length c2) (.slice (some ⟨g, 0, none⟩) M.length c3)) := by
    rw [hW]; exact heap_alloc_new w _
  have HW := hide hW
  obtain ⟨R, hRR⟩ : ∃ R, R = movesR cs.length k1 k2 (M.getD k1 Pls.zeroL).its key := ⟨_, rfl⟩
  rw [← hRR]
  by_cases hcz : cs.length = 0
  · have H : Hid (R = (0, false)) := hide (hRR.trans (mv_none hcz))
    generalize cs.length = cl at hcz CX HW ⊢
    have hd1 : decide (0 = cl) = true := by simp; omega
    have hd2 : (cl == 0) = true := by simp; omega
    have hd3 : decide (cl = 0) = true := by simp; omega
    have hd4 : ((cl : Int) == 0) = true := by simp; omega
    have hd5 : decide ((cl : Int) = 0) = true := by simp; omega
    clear hcz hRR hl1 hl2 hp hi g1 g2 hk h1 h2 hW hmix
    go_enter Tryz.func118, Tryz.ntmps118
    go_upto_region 1 with fail
    rw [← unhide HW]
    obtain ⟨x0, x1, x2, x3, x4, x5, x6, xf, xz⟩ := (unhide CX).cells
    go_wp2
    go_ret2
    rw [unhide H]
    exact ⟨rfl, unhide BW⟩
  · have hg2 : NodesM.gnB cs = true := g2.resolve_left (by rintro rfl; simp at hcz)
    have hcs : cs ≠ [] := by rintro rfl; simp at hcz
    have h2 := h2 hcs
    have hne1 : ns ≠ [] := by rintro rfl; have := (Ring.good_len g1).1; simp at this
    have HOW := hide (fun w' (hb : Below w.heap.size w w') => owner_spec now nx lim lost a1 c1 ns a2 c2 cs g c3 M key w' (hl1.below hb (Nat.le_refl _)) (hl2.below hb (Nat.le_refl _)) (fun i hi => (hp i hi).below hb hg) (Nat.lt_of_lt_of_le hg hb.size) (by omega) g1 g2 hk)
    have e2 : plI M (toward ns cs key) = (k2 : Int) := by unfold toward plI; rw [if_neg hcz, h2]
    rw [e2] at HOW
    have HAT := hide (fun w' (hb : Below w.heap.size w w') => l7At_some now nx lim lost _ _ g 0 c3 M (own ns key) w' (Nat.lt_of_lt_of_le hg hb.size) (fun i hi => (hp i hi).below hb hg) (by omega) a1 ns.length c1 a2 cs.length c2 rfl rfl)
    have e3 : plI M (own ns key) = (k1 : Int) := by unfold plI; rw [h1]
    rw [e3] at HAT
    have hk1 := plN_lt h1
    obtain ⟨b, off, rfl, hb, hc⟩ := hl1 hne1
    have HO := hide (fun w' (hb' : Below w.heap.size w w') => Ring.mowner_some b off c1 ns key w' (Nat.lt_of_lt_of_le hb hb'.size) (fun i hi => (hc i hi).below hb' hb) g1 hk)
    have e1 : own ns key = Ring.ownerN (Ring.ring (Ring.points ns)) (Hash.hashN key.data.toList) := rfl
    rw [← e1] at HO
    generalize own ns key = nm at HAT HO h1 e3
    have HPL := hide (fun w' (hb' : Below w.heap.size w w') => (hp k1 hk1).below hb' hg)
    have HL2 := hide (fun w' (hb' : Below w.heap.size w w') => l2At_opt (M.getD k1 Pls.zeroL).lim (M.getD k1 Pls.zeroL).nx (M.getD k1 Pls.zeroL).a (M.getD k1 Pls.zeroL).cap (M.getD k1 Pls.zeroL).its key w' ((hi k1 hk1).1.below hb' (Nat.le_refl _)) (by have := (hi k1 hk1).2; unfold maxLen; omega))
    have HRF := hide (fun (he : k1 ≠ k2) => hRR.trans (mv_far hcz he))
    have HRS := hide (fun (he : k1 = k2) => hRR.trans (mv_same hcz he))
    generalize M.getD k1 Pls.zeroL = x at HPL HL2 HRF HRS
    have hgrow : Hid (∀ d os, Below w.heap.size w (Go.Sort.grow (redrawn W d) os)) := fun d os => (unhide BW).trans ((below_regrown W d os).mono (unhide BW).size)
    have hcp : 0 < cs.length := by omega
    clear hRR hl2 hp hi g1 g2 hk h1 h2 hW hmix e1 e2 e3 hcs hg2 hne1 hc
    generalize cs.length = cl at hcz hcp CX HW HAT HOW ⊢
    have hd1 : (cl == 0) = false := by simp; omega
    have hd2 : decide (cl = 0) = false := by simp; omega
    have hd3 : ((cl : Int) == 0) = false := by simp; omega
    have hd4 : decide ((cl : Int) = 0) = false := by simp; omega
    clear hcz
    generalize Store.atI x.its key = ai at HL2 HRF
    go_enter Tryz.func118, Tryz.ntmps118
    go_upto_region 1 with fail
    rw [← unhide HW]
    clear HW
    obtain ⟨x0, x1, x2, x3, x4, x5, x6, xf, xz⟩ := (unhide CX).cells
    go_wp2_with fail
    have cO := fun d os => Calls.regrown_of (unhide HO (Go.Sort.grow (redrawn W d) os) (unhide hgrow d os))
    have cA := fun d os => Calls.regrown_of (unhide HAT (Go.Sort.grow (redrawn W d) os) (unhide hgrow d os))
    have x0 := cell_regrown x0
    have x1 := cell_regrown x1
    have x2 := cell_regrown x2
    have x3 := cell_regrown x3
    have x4 := cell_regrown x4
    have x5 := cell_regrown x5
    have x6 := cell_regrown x6
    refine wp_region_quiet_below (unhide HMIX) (by kernel_rfl) ?_
    repeat (go_big_quiet_step (first | exact cO _ _ | exact cA _ _))
    refine wpQuiet_nil ?_
    intro _ hw'
    obtain ⟨⟨dq, osq⟩, hw''⟩ := hw'
    subst hw''
    have BQ := hide ((unhide BW).trans ((below_regrown W dq osq).mono (unhide BW).size))
    have XQ := hide ((unhide CX).below (below_regrown W dq osq) hzW)
    clear x0 x1 x2 x3 x4 x5 x6 xf xz cO cA hgrow CX BW
    generalize (Go.Sort.grow (redrawn W dq) osq) = v at BQ XQ ⊢
    obtain ⟨x0, x1, x2, x3, x4, x5, x6, xf, xz⟩ := (unhide XQ).cells
    go_wp2_with fail
    refine (unhide HOW _ (unhide BQ)).mono ?_
    rintro e w1 ⟨rfl, hb1⟩
    have B1 := hide ((unhide BQ).trans (hb1.mono (unhide BQ).size))
    have X1 := hide ((unhide XQ).below hb1 xz)
    clear hb1 x0 x1 x2 x3 x4 x5 x6 xf xz XQ BQ
    obtain ⟨x0, x1, x2, x3, x4, x5, x6, xf, xz⟩ := (unhide X1).cells
    obtain ⟨p0, p1, p2, p3⟩ := unhide HPL _ (unhide B1)
    rw [Nat.zero_add] at p0 p1 p2 p3
    by_cases he : k1 = k2
    · have H := hide (unhide HRS he)
      have hf1 : ((k1 : Int) != (k2 : Int)) = false := by rw [he]; simp
      have hf2 : decide ((k1 : Int) = (k2 : Int)) = true := by rw [he]; simp
      have hf3 : decide (k1 = k2) = true := by rw [he]; simp
      have hf4 : (k1 == k2) = true := by rw [he]; simp
      have hf5 : (k1 != k2) = false := by rw [he]; simp
      clear he HRS HRF
      go_wp2
      go_ret2
      rw [unhide H]
      exact ⟨rfl, unhide B1⟩
    · have H := hide (unhide HRF he)
      have hf1 : ((k1 : Int) != (k2 : Int)) = true := by simp; omega
      have hf2 : decide ((k1 : Int) = (k2 : Int)) = false := by simp; omega
      have hf3 : decide (k1 = k2) = false := by simp [he]
      have hf4 : (k1 == k2) = false := by simp [he]
      have hf5 : (k1 != k2) = true := by simp [he]
      clear HRS HRF
      go_wp2_with fail
      refine (unhide HL2 _ (unhide B1)).mono ?_
      rintro e w2 ⟨rfl, hb2⟩
      have B2 := hide ((unhide B1).trans (hb2.mono (unhide B1).size))
      clear hb2 x0 x1 x2 x3 x4 x5 x6 xf xz
      go_wp2
      go_ret2
      rw [unhide H]
      exact ⟨rfl, unhide B2⟩
end Clus
end Go.Proofs.YtkodgbalhnbhcaaGreatDoor
/-
  The model's l7First: the first key that is to move.
-/
namespace Go.Proofs.YtkodgbalhnbhcaaGreatDoor
namespace Clus
open Go.RowKit Base OwnR Plc
set_option linter.unusedVariables false

def k1 (ns : List Nodes.D) (M : List Pls.Pl) (key : ByteArray) : Nat := (plN M (own ns key)).getD 0
/-- Whether item q of place i is to move, and from there. -/
def goB (ns cs : List Nodes.D) (M : List Pls.Pl) (i q : Nat) : Bool :=
  (movesR cs.length (k1 ns M ((M.getD i Pls.zeroL).its.getD q Items.zero).key) (k1 cs M ((M.getD i Pls.zeroL).its.getD q Items.zero).key) (M.getD (k1 ns M ((M.getD i Pls.zeroL).its.getD q Items.zero).key) Pls.zeroL).its ((M.getD i Pls.zeroL).its.getD q Items.zero).key).2 &&
    ((M.getD (movesR cs.length (k1 ns M ((M.getD i Pls.zeroL).its.getD q Items.zero).key) (k1 cs M ((M.getD i Pls.zeroL).its.getD q Items.zero).key) (M.getD (k1 ns M ((M.getD i Pls.zeroL).its.getD q Items.zero).key) Pls.zeroL).its ((M.getD i Pls.zeroL).its.getD q Items.zero).key).1.toNat Pls.zeroL).name.toList == (M.getD i Pls.zeroL).name.toList)
/-- Nothing ahead of item q of place i is to move. -/
def NoneTo (ns cs : List Nodes.D) (M : List Pls.Pl) (i q : Nat) : Prop := (∀ j, j < i → ∀ p, p < (M.getD j Pls.zeroL).its.length → goB ns cs M j p = false) ∧ ∀ p, p < q → goB ns cs M i p = false
theorem NoneTo.item {ns cs : List Nodes.D} {M : List Pls.Pl} {i q : Nat} (h : NoneTo ns cs M i q) (hq : goB ns cs M i q = false) : NoneTo ns cs M i (q + 1) := by
  refine ⟨h.1, fun p hp => ?_⟩
  by_cases e : p = q
  · rw [e]; exact hq
  · exact h.2 p (by omega)
theorem NoneTo.place {ns cs : List Nodes.D} {M : List Pls.Pl} {i : Nat} (h : NoneTo ns cs M i (M.getD i Pls.zeroL).its.length) : NoneTo ns cs M (i + 1) 0 := by
  refine ⟨fun j hj p hp => ?_, fun p hp => by omega⟩
  by_cases e : j = i
  · subst e; exact h.2 p hp
  · exact h.1 j (by omega) p hp
/-- What l7First tells. -/
def FirstIs (ns cs : List Nodes.D) (M : List Pls.Pl) (R : ByteArray) : Prop :=
  (∃ i q, i < M.length ∧ q < (M.getD i Pls.zeroL).its.length ∧ NoneTo ns cs M i q ∧ goB ns cs M i q = true ∧ R = ((M.getD i Pls.zeroL).its.getD q Items.zero).key) ∨ (NoneTo ns cs M M.length 0 ∧ R = ByteArray.empty)
theorem mv_lt {cl a b n : Nat} {its : List Items.Itm} {key : ByteArray} (ha : a < n) (hn : 0 < n) : 0 ≤ (movesR cl a b its key).1 ∧ (movesR cl a b its key).1.toNat < n := by
  unfold movesR
  split
  · simpa using hn
  · simpa using ha

theorem its_mem {l : List Items.Itm} {q : Nat} (h : q < l.length) : l.getD q Items.zero ∈ l := by
  rw [List.getD_eq_getElem?_getD, List.getElem?_eq_getElem h]; simp

set_option maxRecDepth 10000 in
set_option maxHeartbeats 4000000 in
theorem first_spec (now nx lim lost : Int) (a1 : Option Addr) (c1 : Nat) (ns : List Nodes.D) (a2 : Option Addr) (c2 : Nat) (cs : List Nodes.D) (g c3 : Nat) (M : List Pls.Pl) (w : World) (hl1 : Nodes.LAt w a1 ns) (hl2 : Nodes.LAt w a2 cs) (hp : ∀ i, i < M.length → Pls.PlAt w g (0 + i * 4) (M.getD i Pls.zeroL)) (hi : ∀ i, i < M.length → Items.ItemsAt w (M.getD i Pls.zeroL).a (M.getD i Pls.zeroL).its ∧ (M.getD i Pls.zeroL).its.length ≤ 1000) (hg : g < w.heap.size) (lp : M.length ≤ 1000) (g1 : NodesM.gnB ns = true) (g2 : cs = [] ∨ NodesM.gnB cs = true)
    (hk : ∀ i, i < M.length → ∀ y ∈ (M.getD i Pls.zeroL).its, y.key.size ≤ maxLen ∧ (∃ j, plN M (own ns y.key) = some j) ∧ (cs ≠ [] → ∃ j, plN M (own cs y.key) = some j)) :
    Calls Tryz.prog 85 #[.agg #[.int .i64 now, .int .i64 nx, .int .i64 lim, .int .i64 lost, .slice a1 ns.length c1, .slice a2 cs.length c2, .slice (some ⟨g, 0, none⟩) M.length c3]] w fun e w' => ∃ R, e = .returned (.string R) ∧ FirstIs ns cs M R ∧ Below w.heap.size w w' := by
  have hmix : Tryz.prog.follows .mixedOrders = true := by kernel_rfl
  have HMIX := hide hmix
  obtain ⟨W, hW⟩ : ∃ W, W = w.alloc (.cells #[.int .i64 now, .int .i64 nx, .int .i64 lim, .int .i64 lost, .slice a1 ns.length c1, .slice a2 cs.length c2, .slice (some ⟨g, 0, none⟩) M.length c3] 30) := ⟨_, rfl⟩
  have BW : Hid (Below w.heap.size w W) := by rw [hW]; exact bel1 w _
  have hzW : w.heap.size < W.heap.size := by rw [hW]; simp
  have CX : Hid (CB W w.heap.size now nx lim lost (.slice a1 ns.length c1) (.slice a2 cs.length c2) (.slice (some ⟨g, 0, none⟩) M.length c3)) := by
    rw [hW]; exact heap_alloc_new w _
  have HW := hide hW
  have HMV := hide (fun (i q : Nat) (hiM : i < M.length) (hq : q < (M.getD i Pls.zeroL).its.length) w' (hb : Below w.heap.size w w') => by
    have hy := hk i hiM _ (its_mem hq)
    exact moves_spec now nx lim lost a1 c1 ns a2 c2 cs g c3 M ((M.getD i Pls.zeroL).its.getD q Items.zero).key (k1 ns M ((M.getD i Pls.zeroL).its.getD q Items.zero).key) (k1 cs M ((M.getD i Pls.zeroL).its.getD q Items.zero).key) w' (hl1.below hb (Nat.le_refl _)) (hl2.below hb (Nat.le_refl _)) (fun i hi => (hp i hi).below hb hg) (fun j hj => ⟨(hi j hj).1.below hb (Nat.le_refl _), (hi j hj).2⟩) (Nat.lt_of_lt_of_le hg hb.size) lp g1 g2 hy.1 (by obtain ⟨j, e⟩ := hy.2.1; unfold k1; rw [e]; rfl) (fun hc => by obtain ⟨j, e⟩ := hy.2.2 hc; unfold k1; rw [e]; rfl))
  have HLT := hide (fun (i q : Nat) (hiM : i < M.length) (hq : q < (M.getD i Pls.zeroL).its.length) => by
    have hy := hk i hiM _ (its_mem hq)
    obtain ⟨j, e⟩ := hy.2.1
    have : k1 ns M ((M.getD i Pls.zeroL).its.getD q Items.zero).key < M.length := by unfold k1; rw [e]; exact plN_lt e
    exact mv_lt (cl := cs.length) (b := k1 cs M ((M.getD i Pls.zeroL).its.getD q Items.zero).key) (its := (M.getD (k1 ns M ((M.getD i Pls.zeroL).its.getD q Items.zero).key) Pls.zeroL).its) (key := ((M.getD i Pls.zeroL).its.getD q Items.zero).key) this (by omega))
  have HQ : Hid (∀ (i q : Nat), i < M.length → q < (M.getD i Pls.zeroL).its.length → ∃ (f : Nat) (t : Bool), f < M.length ∧ goB ns cs M i q = (t && ((M.getD f Pls.zeroL).name.toList == (M.getD i Pls.zeroL).name.toList)) ∧ ∀ w', Below w.heap.size w w' → Calls Tryz.prog 118 #[.agg #[.int .i64 now, .int .i64 nx, .int .i64 lim, .int .i64 lost, .slice a1 ns.length c1, .slice a2 cs.length c2, .slice (some ⟨g, 0, none⟩) M.length c3], .string ((M.getD i Pls.zeroL).its.getD q Items.zero).key] w' fun e w'' => e = .returned (.tuple #[.int .i64 (f : Int), .bool t]) ∧ Below w'.heap.size w' w'') := by
    intro i q hiM hq
    refine ⟨_, _, (unhide HLT i q hiM hq).2, rfl, fun w' hb => ?_⟩
    rw [Int.toNat_of_nonneg (unhide HLT i q hiM hq).1]
    exact unhide HMV i q hiM hq w' hb
  clear HLT HMV
  have HPL := hide (fun (i : Nat) (hiM : i < M.length) w' (hb' : Below w.heap.size w w') => (hp i hiM).below hb' hg)
  have HIT := hide (fun (i : Nat) (hiM : i < M.length) => hi i hiM)
  clear hW hmix hl1 hl2 hp hi g1 g2 hk
  go_enter Tryz.func85, Tryz.ntmps85
  go_upto_region 1 with fail
  rw [← unhide HW]
  clear HW
  obtain ⟨x0, x1, x2, x3, x4, x5, x6, xf, xz⟩ := (unhide CX).cells
  go_wp2_with fail
  clear x0 x1 x2 x3 x4 x5 x6 xf xz
  go_loopw [12] (fun iv wr => ∃ (k : Nat), k ≤ M.length ∧ iv = .int .i64 (k : Int) ∧ Hid (NoneTo ns cs M k 0) ∧ Hid (Below W.heap.size W wr)) (fun iv _ => M.length - (intOf iv).toNat)
  case atStart => exact ⟨0, Nat.zero_le _, rfl, hide ⟨fun j hj => by omega, fun p hp => by omega⟩, hide (Below.refl _ _)⟩
  case round =>
    obtain ⟨k, hk, rfl, hno, hbk⟩ := hrel
    obtain ⟨wk, hname⟩ : ∃ v, v = wr := ⟨_, rfl⟩
    subst hname
    have hzk := (unhide hbk).size
    have BK := hide ((unhide BW).trans ((unhide hbk).mono (unhide BW).size))
    by_cases hlt : k < M.length
    · obtain ⟨d0, d1, d2, d3⟩ := unhide HPL k hlt wk (unhide BK)
      rw [Nat.zero_add] at d0 d1 d2 d3
      have HQK := hide (fun q hq => unhide HQ k q hlt hq)
      have HITK := hide (unhide HIT k hlt).1
      have hil := (unhide HIT k hlt).2
      have HNP := hide (fun (h : NoneTo ns cs M k (M.getD k Pls.zeroL).its.length) => h.place)
      have HF := hide (fun (q : Nat) (hq : q < (M.getD k Pls.zeroL).its.length) (h1 : NoneTo ns cs M k q) (h2 : goB ns cs M k q = true) => (show FirstIs ns cs M ((M.getD k Pls.zeroL).its.getD q Items.zero).key from .inl ⟨k, q, hlt, hq, h1, h2, rfl⟩))
      generalize M.getD k Pls.zeroL = x at d0 d1 d2 d3 HQK HITK hil HNP HF
      go_upto_region 4 with fail
      have q0 : (wk.alloc (.cells #[.string x.name, .int .i64 x.lim, .int .i64 x.nx, .slice x.a x.its.length x.cap] 59)).cell? ⟨wk.heap.size, 0, none⟩ = some (.string x.name) := by rw [World.cell?_alloc_new]; rfl
      have q3 : (wk.alloc (.cells #[.string x.name, .int .i64 x.lim, .int .i64 x.nx, .slice x.a x.its.length x.cap] 59)).cell? ⟨wk.heap.size, 3, none⟩ = some (.slice x.a x.its.length x.cap) := by rw [World.cell?_alloc_new]; rfl
      have BV := hide ((unhide hbk).alloc hzk (.cells #[.string x.name, .int .i64 x.lim, .int .i64 x.nx, .slice x.a x.its.length x.cap] 59))
      have hzV : wk.heap.size < (wk.alloc (.cells #[.string x.name, .int .i64 x.lim, .int .i64 x.nx, .slice x.a x.its.length x.cap] 59)).heap.size := by simp
      generalize wk.alloc (.cells #[.string x.name, .int .i64 x.lim, .int .i64 x.nx, .slice x.a x.its.length x.cap] 59) = V at q0 q3 BV hzV ⊢
      clear d0 d1 d2 d3 hbk BK
      generalize wk.heap.size = pb at q0 q3 hzV hzk ⊢
      have Q0 := hide q0
      have GV := hide ((unhide BW).trans ((unhide BV).mono (unhide BW).size))
      by_cases hne : x.its = []
      · rw [hne] at q3 hil HNP
        clear HF HQK HITK hne q0
        go_wp2_with fail
        go_loopw [20] (fun iv wr => iv = .int .i64 0 ∧ Hid (Below W.heap.size W wr)) (fun _ _ => 0)
        case atStart => exact ⟨rfl, BV⟩
        case round =>
          obtain ⟨rfl, hbi⟩ := hrel
          have HN1 := hide (unhide HNP (unhide hno))
          go_wp2
          go_roundw
          case rel => exact ⟨k + 1, by omega, by go_num, HN1, hbi⟩
          case measure => simp [intOf]; omega
      obtain ⟨b, off, ha, hb, hc⟩ := unhide HITK hne
      rw [ha] at q3
      have HC := hide hc
      have HB := hide hb
      clear hne HITK ha hc q0
      go_wp2_with fail
      go_loopw [20] (fun iv wr => ∃ q : Nat, q ≤ x.its.length ∧ iv = .int .i64 (q : Int) ∧ Hid (NoneTo ns cs M k q) ∧ Hid (Below V.heap.size V wr)) (fun iv _ => x.its.length - (intOf iv).toNat)
      case atStart => exact ⟨0, Nat.zero_le _, rfl, hno, hide (Below.refl _ _)⟩
      case round =>
        obtain ⟨q, hq, rfl, hnq, hbq⟩ := hrel
        obtain ⟨wq, hname⟩ : ∃ v, v = wr := ⟨_, rfl⟩
        subst hname
        have hzq := (unhide hbq).size
        have WQ := hide ((unhide BV).trans ((unhide hbq).mono (unhide BV).size))
        have GQ := hide ((unhide GV).trans ((unhide hbq).mono (unhide GV).size))
        by_cases hlq : q < x.its.length
        · obtain ⟨f, t, hf, hgo, hmv⟩ := unhide HQK q hlq
          obtain ⟨e0, e1, e2, e3, e4⟩ := (unhide HC q hlq).below (unhide GQ) (unhide HB)
          have HMV := hide hmv
          have HGO := hide hgo
          have HFQ := hide (unhide HF q hlq (unhide hnq))
          generalize x.its.getD q Items.zero = it at e0 e1 e2 e3 e4 HMV HFQ
          clear hmv hgo
          go_upto_region 7 with fail
          have u0 : (wq.alloc (.cells #[.string it.key, .int .i64 it.flags, .string it.data, .int .i64 it.upto, .int .i64 it.token] 85)).cell? ⟨wq.heap.size, 0, none⟩ = some (.string it.key) := by rw [World.cell?_alloc_new]; rfl
          have BU := hide ((unhide hbq).alloc hzq (.cells #[.string it.key, .int .i64 it.flags, .string it.data, .int .i64 it.upto, .int .i64 it.token] 85))
          have hzU : wq.heap.size < (wq.alloc (.cells #[.string it.key, .int .i64 it.flags, .string it.data, .int .i64 it.upto, .int .i64 it.token] 85)).heap.size := by simp
          generalize wq.alloc (.cells #[.string it.key, .int .i64 it.flags, .string it.data, .int .i64 it.upto, .int .i64 it.token] 85) = U at u0 BU hzU ⊢
          clear e0 e1 e2 e3 e4 hbq WQ GQ
          generalize wq.heap.size = ib at u0 hzU hzq ⊢
          have WU := hide ((unhide BV).trans ((unhide BU).mono (unhide BV).size))
          have GU := hide ((unhide GV).trans ((unhide BU).mono (unhide GV).size))
          have U0 := hide u0
          obtain ⟨x0, x1, x2, x3, x4, x5, x6, xf, xz⟩ := ((unhide CX).below (unhide WU) hzW).cells
          go_wp2_with fail
          refine (unhide HMV _ (unhide GU)).mono ?_
          rintro e w6 ⟨rfl, hb6⟩
          have W6 := hide ((unhide WU).trans (hb6.mono (unhide WU).size))
          have G6 := hide ((unhide GU).trans (hb6.mono (unhide GU).size))
          have B6 := hide ((unhide BU).trans (hb6.mono (unhide BU).size))
          have v0 : w6.cell? ⟨ib, 0, none⟩ = some (.string it.key) := (hb6.cell (p := ⟨ib, 0, none⟩) hzU).trans (unhide U0)
          have hz6 : ib < w6.heap.size := Nat.lt_of_lt_of_le hzU hb6.size
          clear hb6 x0 x1 x2 x3 x4 x5 x6 xf xz HMV u0 U0 WU GU BU q3
          have m0 : w6.cell? ⟨pb, 0, none⟩ = some (.string x.name) := ((unhide B6).cell (p := ⟨pb, 0, none⟩) hzV).trans (unhide Q0)
          obtain ⟨p0, p1, p2, p3⟩ := unhide HPL f hf w6 (unhide G6)
          rw [Nat.zero_add] at p0 p1 p2 p3
          generalize M.getD f Pls.zeroL = y at p0 p1 p2 p3 HGO
          obtain ⟨x0, x1, x2, x3, x4, x5, x6, xf, xz⟩ := ((unhide CX).below (unhide W6) hzW).cells
          have V0 := hide v0
          cases t
          · have HN1 := hide ((unhide hnq).item (by rw [unhide HGO]; rfl))
            clear HGO HFQ
            go_wp2_with fail
            have m0 := cell_regrown m0
            have p0 := cell_regrown p0
            have x6 := cell_regrown x6
            refine wp_region_quiet_below (unhide HMIX) (by kernel_rfl) ?_
            repeat (go_big_quiet_step (fail))
            refine wpQuiet_nil ?_
            intro _ hw'
            obtain ⟨⟨dq, osq⟩, hw''⟩ := hw'
            subst hw''
            have BQ := hide ((unhide B6).trans ((below_regrown w6 dq osq).mono (unhide B6).size))
            clear m0 p0 p1 p2 p3 x0 x1 x2 x3 x4 x5 x6 xf xz v0 V0
            generalize (Go.Sort.grow (redrawn w6 dq) osq) = v at BQ ⊢
            go_wp2
            go_roundw
            case rel => exact ⟨q + 1, by omega, by go_num, HN1, BQ⟩
            case measure => simp [intOf]; omega
          have hfi : (0 : Int) ≤ (f : Int) := by omega
          have hfd : decide ((0 : Int) ≤ (f : Int)) = true := by simp
          cases hnm : (y.name.toList == x.name.toList)
          · have HN1 := hide ((unhide hnq).item (by rw [unhide HGO, hnm]; rfl))
            clear HGO HFQ
            go_wp2_with fail
            have m0 := cell_regrown m0
            have p0 := cell_regrown p0
            have x6 := cell_regrown x6
            refine wp_region_quiet_below (unhide HMIX) (by kernel_rfl) ?_
            repeat (go_big_quiet_step (fail))
            refine wpQuiet_nil ?_
            intro _ hw'
            obtain ⟨⟨dq, osq⟩, hw''⟩ := hw'
            subst hw''
            have BQ := hide ((unhide B6).trans ((below_regrown w6 dq osq).mono (unhide B6).size))
            clear m0 p0 p1 p2 p3 x0 x1 x2 x3 x4 x5 x6 xf xz v0 V0
            generalize (Go.Sort.grow (redrawn w6 dq) osq) = v at BQ ⊢
            go_wp2
            go_roundw
            case rel => exact ⟨q + 1, by omega, by go_num, HN1, BQ⟩
            case measure => simp [intOf]; omega
          · have H := hide (unhide HFQ (by rw [unhide HGO, hnm]; rfl))
            clear HGO HFQ
            go_wp2_with fail
            have m0 := cell_regrown m0
            have p0 := cell_regrown p0
            have x6 := cell_regrown x6
            refine wp_region_quiet_below (unhide HMIX) (by kernel_rfl) ?_
            repeat (go_big_quiet_step (fail))
            refine wpQuiet_nil ?_
            intro _ hw'
            obtain ⟨⟨dq, osq⟩, hw''⟩ := hw'
            subst hw''
            have GQ := hide ((unhide G6).trans ((below_regrown w6 dq osq).mono (unhide G6).size))
            have z0 : (Go.Sort.grow (redrawn w6 dq) osq).cell? ⟨ib, 0, none⟩ = some (.string it.key) := ((below_regrown w6 dq osq).cell (p := ⟨ib, 0, none⟩) hz6).trans (unhide V0)
            clear m0 p0 p1 p2 p3 x0 x1 x2 x3 x4 x5 x6 xf xz v0 V0
            generalize (Go.Sort.grow (redrawn w6 dq) osq) = v at GQ z0 ⊢
            go_wp2
            go_ret
            exact ⟨it.key, rfl, unhide H, unhide GQ⟩
        · obtain rfl : q = x.its.length := by omega
          have HN1 := hide (unhide HNP (unhide hnq))
          go_wp2
          go_roundw
          case rel => exact ⟨k + 1, by omega, by go_num, HN1, WQ⟩
          case measure => simp [intOf]; omega
    · obtain rfl : k = M.length := by omega
      have H : Hid (FirstIs ns cs M ByteArray.empty) := hide (.inr ⟨unhide hno, rfl⟩)
      go_wp2
      go_ret
      exact ⟨ByteArray.empty, rfl, unhide H, unhide BK⟩
end Clus
end Go.Proofs.YtkodgbalhnbhcaaGreatDoor
/-
  The model's l7End: a move's end.
-/
namespace Go.Proofs.YtkodgbalhnbhcaaGreatDoor
namespace Clus
open Go.RowKit Base OwnR Plc
set_option linter.unusedVariables false

def stay (cs : List Nodes.D) (N : List Pls.Pl) : List Pls.Pl := N.filter (fun x => hasN cs x.name)
theorem stay_succ {cs : List Nodes.D} {N : List Pls.Pl} {k : Nat} (hk : k < N.length) : stay cs (N.take (k + 1)) = stay cs (N.take k) ++ (if hasN cs (N.getD k Pls.zeroL).name = true then [N.getD k Pls.zeroL] else []) := by
  have e : N.getD k Pls.zeroL = N[k] := by simp [hk]
  unfold stay
  rw [List.take_succ_eq_append_getElem hk, List.filter_append, e]
  congr 1
  cases h : hasN cs N[k].name <;> simp [h]
theorem stay_len (cs : List Nodes.D) (N : List Pls.Pl) (k : Nat) : (stay cs (N.take k)).length ≤ k := Nat.le_trans (List.length_filter_le _ _) (List.length_take_le _ _)
theorem plN_drop {M N : List Pls.Pl} {now : Int} (h : N.map Pls.core = M.map (fun x => dropC now (Pls.core x))) (nm : ByteArray) : plN N nm = plN M nm := by
  rw [plN_core, h]
  unfold atC plN
  rw [List.findIdx?_map]
  rfl
theorem drop_at {M N : List Pls.Pl} {now : Int} (h : N.map Pls.core = M.map (fun x => dropC now (Pls.core x))) {i : Nat} (hi : i < M.length) : (N.getD i Pls.zeroL).its = Store.keepB (M.getD i Pls.zeroL).its now ∧ (N.getD i Pls.zeroL).name = (M.getD i Pls.zeroL).name := by
  have hl : N.length = M.length := by have := congrArg List.length h; simpa using this
  have e := congrArg (fun l => l[i]?) h
  simp only [List.getElem?_map] at e
  rw [List.getElem?_eq_getElem (by omega), List.getElem?_eq_getElem hi] at e
  simp only [Option.map_some, Option.some.injEq] at e
  have e1 : N.getD i Pls.zeroL = N[i] := by simp [show i < N.length by omega]
  have e2 : M.getD i Pls.zeroL = M[i] := by simp [hi]
  rw [e1, e2]
  exact ⟨congrArg Pls.Core.its e, congrArg Pls.Core.name e⟩
/-- How l7End ends. -/
def EndEnd (c : Cl) (w : World) (B : Nat) (e : Ending) (w' : World) : Prop :=
  ∃ (N : List Pls.Pl) (R : ByteArray), N.map Pls.core = c.ps.map (fun x => dropC c.now (Pls.core x)) ∧ FirstIs c.ns c.cs N R ∧ Below B w w' ∧ w.heap.size ≤ w'.heap.size ∧
    (((R.toList == []) = false ∧ ∃ v, e = .returned (.tuple #[v, .bool false]) ∧ ∃ (x1 x2 x3 x4 : Int) (y1 y2 y3 : Option Addr) (n1 n2 n3 m1 m2 m3 : Nat), v = .agg #[.int .i64 x1, .int .i64 x2, .int .i64 x3, .int .i64 x4, .slice y1 n1 m1, .slice y2 n2 m2, .slice y3 n3 m3]) ∨
     ((R.toList == []) = true ∧ ∃ oa oc, e = .returned (.tuple #[.agg #[.int .i64 c.now, .int .i64 c.nx, .int .i64 c.lim, .int .i64 c.lost, .slice c.ca c.cs.length c.cc, .slice none 0 0, .slice oa (stay c.cs N).length oc], .bool true]) ∧ CO w' B ⟨c.now, c.nx, c.lim, c.lost, c.ca, c.cc, c.cs, none, 0, [], oa, oc, stay c.cs N⟩))

set_option maxRecDepth 10000 in
set_option maxHeartbeats 4000000 in
theorem end_spec (now nx lim lost : Int) (a1 : Option Addr) (c1 : Nat) (ns : List Nodes.D) (a2 : Option Addr) (c2 : Nat) (cs : List Nodes.D) (g c3 : Nat) (M : List Pls.Pl) (B : Nat) (w : World) (hB : B ≤ w.heap.size) (hco : CO w B ⟨now, nx, lim, lost, a1, c1, ns, a2, c2, cs, some ⟨g, 0, none⟩, c3, M⟩) (lp : M.length ≤ 1000) (li : ∀ x ∈ M, x.its.length ≤ 1000) (hg : g < w.heap.size) (g1 : NodesM.gnB ns = true) (g2 : NodesM.gnB cs = true)
    (hk : ∀ i, i < M.length → ∀ y ∈ (M.getD i Pls.zeroL).its, y.key.size ≤ maxLen ∧ (∃ j, plN M (own ns y.key) = some j) ∧ (cs ≠ [] → ∃ j, plN M (own cs y.key) = some j)) :
    Calls Tryz.prog 41 #[.agg #[.int .i64 now, .int .i64 nx, .int .i64 lim, .int .i64 lost, .slice a1 ns.length c1, .slice a2 cs.length c2, .slice (some ⟨g, 0, none⟩) M.length c3]] w (EndEnd ⟨now, nx, lim, lost, a1, c1, ns, a2, c2, cs, some ⟨g, 0, none⟩, c3, M⟩ w B) := by
  obtain ⟨j0, hi, hz0, hz1, hz2⟩ := info_pl
  have JI := hide hi
  have JZ0 := hide hz0
  have JZ1 := hide hz1
  have JZ2 := hide hz2
  clear hi hz0 hz1 hz2
  obtain ⟨W, hW⟩ : ∃ W, W = (w.alloc (.cells #[.int .i64 now, .int .i64 nx, .int .i64 lim, .int .i64 lost, .slice a1 ns.length c1, .slice a2 cs.length c2, .slice (some ⟨g, 0, none⟩) M.length c3] 30)).alloc (.cells #[.int .i64 0, .int .i64 0, .int .i64 0, .int .i64 0, .slice none 0 0, .slice none 0 0, .slice none 0 0] 30) := ⟨_, rfl⟩
  have BW0 : Below w.heap.size w W := by rw [hW]; exact bel2 w _ _
  have BW : Hid (Below B w W) := BW0.mono hB
  have hzW : w.heap.size + 2 ≤ W.heap.size := by rw [hW]; simp
  have CX : Hid (CB W w.heap.size now nx lim lost (.slice a1 ns.length c1) (.slice a2 cs.length c2) (.slice (some ⟨g, 0, none⟩) M.length c3)) := by
    rw [hW]; exact ((bel1 (w.alloc _) _).block w.heap.size (by simp)).trans (heap_alloc_new w _)
  have CY : Hid (CB W (w.heap.size + 1) 0 0 0 0 (.slice none 0 0) (.slice none 0 0) (.slice none 0 0)) := by
    rw [hW]
    have := heap_alloc_new (w.alloc (.cells #[.int .i64 now, .int .i64 nx, .int .i64 lim, .int .i64 lost, .slice a1 ns.length c1, .slice a2 cs.length c2, .slice (some ⟨g, 0, none⟩) M.length c3] 30)) (.cells #[.int .i64 0, .int .i64 0, .int .i64 0, .int .i64 0, .slice none 0 0, .slice none 0 0, .slice none 0 0] 30)
    rw [World.size_alloc] at this
    exact this
  have HW := hide hW
  have HOLD := hide (old_spec now nx lim lost a1 c1 ns a2 c2 cs g c3 M B W (by omega) (hco.below BW0 (Nat.le_refl _)) lp li (by omega))
  have HHK := hide hk
  have HLI := hide li
  have hgX : g ≠ w.heap.size := by omega
  have hgY : g ≠ w.heap.size + 1 := by omega
  have hcs : cs ≠ [] := by rintro rfl; have := (Ring.good_len g2).1; simp at this
  have hcl := (Ring.good_len g2).2
  clear hW BW0 hco li hk
  go_enter Tryz.func41, Tryz.ntmps41
  go_upto_region 1 with fail
  rw [← unhide HW]
  clear HW
  obtain ⟨x0, x1, x2, x3, x4, x5, x6, xf, xz⟩ := (unhide CX).cells
  go_wp2_with fail
  refine (unhide HOLD).mono ?_
  rintro e w1 ⟨N, hNl, rfl, hNc, hco1, hb1, hz1, hkp⟩
  dsimp only at hNl hNc hco1
  have X1 : Hid (CB w1 w.heap.size now nx lim lost (.slice a1 ns.length c1) (.slice a2 cs.length c2) (.slice (some ⟨g, 0, none⟩) M.length c3)) := (unhide CX).blk (hkp w.heap.size (by omega) (by omega))
  have Y1 : Hid (CB w1 (w.heap.size + 1) 0 0 0 0 (.slice none 0 0) (.slice none 0 0) (.slice none 0 0)) := (unhide CY).blk (hkp (w.heap.size + 1) (by omega) (by omega))
  have B1 := hide ((unhide BW).trans hb1)
  have K1 := hide hco1
  have HNC := hide hNc
  have HNL := hide hNl
  clear x0 x1 x2 x3 x4 x5 x6 xf xz HOLD CX CY BW hb1 hco1 hkp hNc
  obtain ⟨x0, x1, x2, x3, x4, x5, x6, xf, xz⟩ := (unhide X1).cells
  go_upto_region 2 with fail
  clear x0 x1 x2 x3 x4 x5 x6 xf xz
  obtain ⟨V, hV⟩ : ∃ V, V = st7 w1 w.heap.size now nx lim lost (.slice a1 ns.length c1) (.slice a2 cs.length c2) (.slice (some ⟨g, 0, none⟩) M.length c3) := ⟨_, rfl⟩
  have X2 := hide ((unhide X1).st7 now nx lim lost (.slice a1 ns.length c1) (.slice a2 cs.length c2) (.slice (some ⟨g, 0, none⟩) M.length c3))
  have Y2 := hide ((unhide Y1).st7o (X := w.heap.size) (by omega) now nx lim lost (.slice a1 ns.length c1) (.slice a2 cs.length c2) (.slice (some ⟨g, 0, none⟩) M.length c3))
  have K2 := hide ((unhide K1).box7 (unhide X1) now nx lim lost (.slice a1 ns.length c1) (.slice a2 cs.length c2) (.slice (some ⟨g, 0, none⟩) M.length c3))
  have B2 := hide (below_st7 (unhide B1) hB now nx lim lost (.slice a1 ns.length c1) (.slice a2 cs.length c2) (.slice (some ⟨g, 0, none⟩) M.length c3))
  have hz2 : w1.heap.size ≤ V.heap.size := by rw [hV, size_st7]; exact Nat.le_refl _
  rw [← hV] at X2 Y2 K2 B2
  have HV := hide hV
  unfold st7 at HV
  rw [← unhide HV]
  clear hV HV X1 Y1 K1 B1
  have HFI := hide (first_spec now nx lim lost a1 c1 ns a2 c2 cs g c3 N V (unhide K2).at.1 (unhide K2).at.2.1 (fun i hi => (unhide K2).p.pl i hi) (fun i hi => ⟨Own.own_at ((unhide K2).p.its _ (Pls.getD_mem hi)), by rw [(drop_at (unhide HNC) (by omega)).1]; exact Nat.le_trans (List.length_filter_le _ _) (unhide HLI _ (Pls.getD_mem (by omega)))⟩) (by omega) (by omega) g1 (.inr g2) (fun i hi y hy => by
    rw [(drop_at (unhide HNC) (by omega)).1] at hy
    have := unhide HHK i (by omega) y (List.mem_filter.1 hy).1
    rw [plN_drop (unhide HNC), plN_drop (unhide HNC)]
    exact this))
  rw [hNl] at HFI
  obtain ⟨x0, x1, x2, x3, x4, x5, x6, xf, xz⟩ := (unhide X2).cells
  go_wp2_with fail
  refine (unhide HFI).mono ?_
  rintro e w3 ⟨R, rfl, hR, hb3⟩
  have HR := hide hR
  have X3 := hide ((unhide X2).below hb3 xz)
  have Y3 := hide ((unhide Y2).below hb3 (by omega))
  have K3 := hide ((unhide K2).below hb3 (Nat.le_refl _))
  have B3 := hide ((unhide B2).trans (hb3.mono (by omega)))
  have hz3 := hb3.size
  clear x0 x1 x2 x3 x4 x5 x6 xf xz HFI X2 Y2 K2 B2 hb3 hR HHK HLI
  cases hre : (R.toList == [])
  · obtain ⟨x0, x1, x2, x3, x4, x5, x6, xf, xz⟩ := (unhide X3).cells
    obtain ⟨y0, y1, y2, y3, y4, y5, y6, yf, yz⟩ := (unhide Y3).cells
    have HRE := hide hre
    go_wp2
    refine bodyPost_ret (v := .tuple #[.agg #[.int .i64 now, .int .i64 nx, .int .i64 lim, .int .i64 lost, .slice a1 ns.length c1, .slice a2 cs.length c2, .slice (some ⟨g, 0, none⟩) M.length c3], .bool false]) (by simp [results, Tryz.results41, go_sem, y0, y1, y2, y3, y4, y5, y6]) rfl ⟨N, R, unhide HNC, unhide HR, ?_, ?_, .inl ⟨unhide HRE, _, rfl, _, _, _, _, _, _, _, _, _, _, _, _, _, rfl⟩⟩
    · repeat (refine Below.setCell ?_ (by first | (simp; done) | (simp; omega)) _)
      exact unhide B3
    · simp; omega
  · obtain ⟨x0, x1, x2, x3, x4, x5, x6, xf, xz⟩ := (unhide X3).cells
    have HRE := hide hre
    have hNM : N.length ≤ M.length := by omega
    have hMN : M.length ≤ N.length := by omega
    clear hNl
    go_wp2_with fail
    clear x0 x1 x2 x3 x4 x5 x6 xf xz hre
    obtain ⟨b2, o2, ha2, hb2, hc2⟩ := (unhide K3).at.2.1 hcs
    dsimp only at ha2
    have HHN := hide (fun (nm : ByteArray) w' (hb : Below w3.heap.size w3 w') => hasNode_some b2 o2 c2 cs nm w' (Nat.lt_of_lt_of_le hb2 hb.size) (fun i hi => (hc2 i hi).below hb hb2) (by omega))
    rw [← ha2] at HHN
    clear hb2 hc2 ha2
    go_loopw [4, 16] (fun lv iv wr => ∃ (k n : Nat) (oa : Option Addr) (oc : Nat), k ≤ M.length ∧ iv = .int .i64 (k : Int) ∧ lv = .slice oa n oc ∧ n ≤ k ∧ Hid (PO wr B oa n oc (stay cs (N.take k))) ∧ Hid (∀ q, (Value.slice oa n oc).ownBlock = some q → w3.heap.size ≤ q) ∧ Hid (Below w3.heap.size w3 wr)) (fun _ iv _ => M.length - (intOf iv).toNat)
    case atStart => exact ⟨0, 0, none, 0, Nat.zero_le _, rfl, rfl, Nat.le_refl _, hide (PO.nil _ _), hide (fun q h => by simp [Value.ownBlock] at h), hide (Below.refl _ _)⟩
    case round =>
      obtain ⟨k, n, oa, oc, hk, rfl, rfl, hnk, hpo, hfar, hbk⟩ := hrel
      obtain ⟨wk, hname⟩ : ∃ v, v = wr := ⟨_, rfl⟩
      subst hname
      have hzk := (unhide hbk).size
      by_cases hlt : k < M.length
      · have hlN : k < N.length := by omega
        have KK := hide ((unhide K3).below (unhide hbk) (Nat.le_refl _))
        obtain ⟨d0, d1, d2, d3⟩ := (unhide KK).p.pl k hlN
        rw [Nat.zero_add] at d0 d1 d2 d3
        have HIX := hide ((unhide KK).p.its _ (Pls.getD_mem hlN))
        have HIL : Hid (∀ q, (Value.slice (N.getD k Pls.zeroL).a (N.getD k Pls.zeroL).its.length (N.getD k Pls.zeroL).cap).ownBlock = some q → q < w3.heap.size) := fun q h => (((unhide K3).p.its _ (Pls.getD_mem hlN)).lt q h).2
        have HST := hide (stay_succ (cs := cs) hlN)
        generalize N.getD k Pls.zeroL = x at d0 d1 d2 d3 HIX HIL HST
        have XK := hide ((unhide X3).below (unhide hbk) (by omega))
        go_upto_region 8 with fail
        have q0 : (wk.alloc (.cells #[.string x.name, .int .i64 x.lim, .int .i64 x.nx, .slice x.a x.its.length x.cap] 59)).cell? ⟨wk.heap.size, 0, none⟩ = some (.string x.name) := by rw [World.cell?_alloc_new]; rfl
        have q1 : (wk.alloc (.cells #[.string x.name, .int .i64 x.lim, .int .i64 x.nx, .slice x.a x.its.length x.cap] 59)).cell? ⟨wk.heap.size, 1, none⟩ = some (.int .i64 x.lim) := by rw [World.cell?_alloc_new]; rfl
        have q2 : (wk.alloc (.cells #[.string x.name, .int .i64 x.lim, .int .i64 x.nx, .slice x.a x.its.length x.cap] 59)).cell? ⟨wk.heap.size, 2, none⟩ = some (.int .i64 x.nx) := by rw [World.cell?_alloc_new]; rfl
        have q3 : (wk.alloc (.cells #[.string x.name, .int .i64 x.lim, .int .i64 x.nx, .slice x.a x.its.length x.cap] 59)).cell? ⟨wk.heap.size, 3, none⟩ = some (.slice x.a x.its.length x.cap) := by rw [World.cell?_alloc_new]; rfl
        have BV := hide (bel1 wk (.cells #[.string x.name, .int .i64 x.lim, .int .i64 x.nx, .slice x.a x.its.length x.cap] 59))
        have hzV : wk.heap.size < (wk.alloc (.cells #[.string x.name, .int .i64 x.lim, .int .i64 x.nx, .slice x.a x.its.length x.cap] 59)).heap.size := by simp
        generalize wk.alloc (.cells #[.string x.name, .int .i64 x.lim, .int .i64 x.nx, .slice x.a x.its.length x.cap] 59) = U at q0 q1 q2 q3 BV hzV ⊢
        clear d0 d1 d2 d3 KK
        have XU := hide ((unhide XK).below (unhide BV) (by omega))
        have GU := hide ((unhide hbk).trans ((unhide BV).mono hzk))
        obtain ⟨x0, x1, x2, x3, x4, x5, x6, xf, xz⟩ := (unhide XU).cells
        go_wp2_with fail
        refine (unhide HHN _ _ (unhide GU)).mono ?_
        rintro e w5 ⟨rfl, hb5⟩
        have r0 := (hb5.cell (p := ⟨wk.heap.size, 0, none⟩) hzV).trans q0
        have r1 := (hb5.cell (p := ⟨wk.heap.size, 1, none⟩) hzV).trans q1
        have r2 := (hb5.cell (p := ⟨wk.heap.size, 2, none⟩) hzV).trans q2
        have r3 := (hb5.cell (p := ⟨wk.heap.size, 3, none⟩) hzV).trans q3
        have B5 := hide ((unhide BV).trans (hb5.mono (by omega)))
        have G5 := hide ((unhide GU).trans (hb5.mono (by have := (unhide GU).size; omega)))
        have hz5 := hb5.size
        clear hb5 q0 q1 q2 q3 x0 x1 x2 x3 x4 x5 x6 xf xz XU XK BV GU hbk
        have P5 := hide ((unhide hpo).below (unhide B5) (Nat.le_refl _))
        have I5 := hide (own_below (unhide HIX) (unhide B5) (Nat.le_refl _))
        clear hpo HIX
        cases hh : hasN cs x.name
        · have HS2 : Hid (stay cs (N.take (k + 1)) = stay cs (N.take k)) := hide (by rw [unhide HST, hh]; simp)
          rw [← unhide HS2] at P5
          clear HST hh
          go_wp2
          go_roundw
          case rel => exact ⟨k + 1, n, oa, oc, by omega, by go_num, rfl, by omega, P5, hfar, G5⟩
          case measure => simp [intOf]; omega
        · have HS2 : Hid (stay cs (N.take (k + 1)) = stay cs (N.take k) ++ [x]) := hide (by rw [unhide HST, hh]; simp)
          have HXF : Hid (∀ q, (Value.slice x.a x.its.length x.cap).ownBlock = some q → (Value.slice oa n oc).ownBlock ≠ some q) := fun q h e => by
            have h1 := unhide HIL q h
            have h2 := unhide hfar q e
            omega
          have hzz := (unhide G5).size
          have P8 := hide (fun o => (unhide P5).below (bel1 w5 o) (Nat.le_refl _))
          have I8 := hide (fun o => own_below (unhide I5) (bel1 w5 o) (Nat.le_refl _))
          have hrow5 : Hid (w5.ownsRow w3.heap.size 59 4 (.slice oa n oc) n (pflat (stay cs (N.take k)))) := by
            refine ⟨(unhide P5).row.1, (unhide P5).row.2.elim Or.inl ?_⟩
            rintro ⟨q, cap, cur, hv, _, r⟩
            exact Or.inr ⟨q, cap, cur, hv, unhide hfar q (by rw [hv]; rfl), r⟩
          clear HST hh
          go_wp2_with (at_builtin; go_loud (refine wpList_append_lies _ rfl _ _ 28 rfl B 59 j0 _ 4 56 Tryz.underlying28 (unhide JI) (unhide JZ0) (unhide JZ1) (unhide JZ2) rfl (by decide) _ _ _ rfl (unhide P8 _).row ⟨w5.heap.size, 0, none⟩ 1 1 (pcells x) rfl rfl (pnews w5 x _) (pcells_one x) (by omega) ?d1 ?d2 ?d3 _ rfl ?_))
          case d1 => unfold maxLen; omega
          case d2 => omega
          case d3 => first | omega | (simp; omega)
          intro g8 c8 w8 hown8 hgrow8 hat8 hlt8
          have HPO : Hid (PO w8 B (some ⟨g8, 0, none⟩) (n + 1) c8 (stay cs (N.take (k + 1)))) := by
            rw [unhide HS2]
            exact (unhide P8 _).snoc (unhide I8 _) (unhide HXF) hown8 hgrow8 (by rw [World.size_alloc]; exact hat8)
          have C8 := hide (((unhide G5).alloc hzz _).grown hgrow8 (by simp; omega) (own_block (unhide hrow5)))
          have F8 : Hid (∀ q, (Value.slice (some ⟨g8, 0, none⟩) (n + 1) c8).ownBlock = some q → w3.heap.size ≤ q) := fun q h => by
            have e : g8 = q := by simpa [Value.ownBlock] using h
            rcases hat8 with h8 | h8
            · exact e ▸ unhide hfar g8 h8
            · omega
          clear hown8 hgrow8 hat8 hlt8 P8 P5 I8 I5 HXF r0 r1 r2 r3
          go_wp2
          go_roundw
          case rel => exact ⟨k + 1, n + 1, some ⟨g8, 0, none⟩, c8, by omega, by go_num, rfl, by omega, HPO, F8, C8⟩
          case measure => simp [intOf]; omega
      · obtain rfl : k = M.length := by omega
        have hta : N.take M.length = N := List.take_of_length_le hNM
        rw [hta] at hpo
        have hln := (unhide hpo).len
        have XK := hide ((unhide X3).below (unhide hbk) (by omega))
        have YK := hide ((unhide Y3).below (unhide hbk) (by omega))
        have BK := hide ((unhide B3).trans ((unhide hbk).mono (by omega)))
        have KE : Hid (CO wk B ⟨now, nx, lim, lost, a2, c2, cs, none, 0, [], oa, oc, stay cs N⟩) := by
          refine ⟨((unhide K3).below (unhide hbk) (Nat.le_refl _)).m, World.ownsRow_nil _ _ _ _, ?_, ?_, fun q h => by simp [Value.ownBlock] at h⟩
          · show PO wk B oa (stay cs N).length oc (stay cs N)
            rw [hln]; exact unhide hpo
          · show ∀ q, (Value.slice a2 cs.length c2).ownBlock = some q → (Value.slice oa (stay cs N).length oc).ownBlock ≠ some q
            rw [hln]
            intro q h e
            have h1 := ((unhide K3).m.lt q h).2
            have h2 := unhide hfar q e
            omega
        subst hln
        clear hpo hfar hbk hta
        obtain ⟨x0, x1, x2, x3, x4, x5, x6, xf, xz⟩ := (unhide XK).cells
        go_upto_region 14 with fail
        have XE := hide ((((unhide XK).set4 (.slice a2 cs.length c2)).set5 (.slice none 0 0)).set6 (.slice oa (stay cs N).length oc))
        have YE := hide ((((unhide YK).other (p := ⟨w.heap.size, 4, none⟩) (by show w.heap.size ≠ w.heap.size + 1; omega) (.slice a2 cs.length c2)).other (p := ⟨w.heap.size, 5, none⟩) (by show w.heap.size ≠ w.heap.size + 1; omega) (.slice none 0 0)).other (p := ⟨w.heap.size, 6, none⟩) (by show w.heap.size ≠ w.heap.size + 1; omega) (.slice oa (stay cs N).length oc))
        have KF := hide ((((unhide KE).box (unhide XK) 4 (.slice a2 cs.length c2)).box ((unhide XK).set4 (.slice a2 cs.length c2)) 5 (.slice none 0 0)).box (((unhide XK).set4 (.slice a2 cs.length c2)).set5 (.slice none 0 0)) 6 (.slice oa (stay cs N).length oc))
        have BE := hide ((((unhide BK).setCell (p := ⟨w.heap.size, 4, none⟩) hB (.slice a2 cs.length c2)).setCell (p := ⟨w.heap.size, 5, none⟩) hB (.slice none 0 0)).setCell (p := ⟨w.heap.size, 6, none⟩) hB (.slice oa (stay cs N).length oc))
        have hzE : w3.heap.size ≤ (((wk.setCell ⟨w.heap.size, 4, none⟩ (.slice a2 cs.length c2)).setCell ⟨w.heap.size, 5, none⟩ (.slice none 0 0)).setCell ⟨w.heap.size, 6, none⟩ (.slice oa (stay cs N).length oc)).heap.size := by simp; omega
        clear x0 x1 x2 x3 x4 x5 x6 xf xz XK YK KE BK
        generalize ((wk.setCell ⟨w.heap.size, 4, none⟩ (.slice a2 cs.length c2)).setCell ⟨w.heap.size, 5, none⟩ (.slice none 0 0)).setCell ⟨w.heap.size, 6, none⟩ (.slice oa (stay cs N).length oc) = wE at XE YE KF BE hzE ⊢
        obtain ⟨x0, x1, x2, x3, x4, x5, x6, xf, xz⟩ := (unhide XE).cells
        obtain ⟨y0, y1, y2, y3, y4, y5, y6, yf, yz⟩ := (unhide YE).cells
        go_wp2
        refine bodyPost_ret (v := .tuple #[.agg #[.int .i64 now, .int .i64 nx, .int .i64 lim, .int .i64 lost, .slice a2 cs.length c2, .slice none 0 0, .slice oa (stay cs N).length oc], .bool true]) (by simp [results, Tryz.results41, go_sem, y0, y1, y2, y3, y4, y5, y6]) rfl ⟨N, R, unhide HNC, unhide HR, ?_, ?_, .inr ⟨unhide HRE, oa, oc, rfl, ?_⟩⟩
        · repeat (refine Below.setCell ?_ (by first | (simp; done) | (simp; omega)) _)
          exact unhide BE
        · simp; omega
        · exact (unhide KF).box7 (unhide YE) now nx lim lost (.slice a2 cs.length c2) (.slice none 0 0) (.slice oa (stay cs N).length oc)
end Clus
end Go.Proofs.YtkodgbalhnbhcaaGreatDoor
/-
  The model's EndMove.
-/
namespace Go.Proofs.YtkodgbalhnbhcaaGreatDoor
namespace Clus
open Go.RowKit Base OwnR Plc
set_option linter.unusedVariables false

/-- What EndMove tells. -/
def EmIs (C P : CC) (ok : Bool) : Prop :=
  ((gcB C = false ∨ C.cs.length = 0) ∧ P = noCC ∧ ok = false) ∨
  (gcB C = true ∧ C.cs.length ≠ 0 ∧ ∃ (N : List Pls.Pl) (R : ByteArray), N.map Pls.core = C.ps.map (dropC C.now) ∧ FirstIs C.ns C.cs N R ∧
    (((R.toList == []) = false ∧ P = noCC ∧ ok = false) ∨ ((R.toList == []) = true ∧ P = ⟨C.now, C.nx, C.lim, C.lost, C.cs, [], (stay C.cs N).map Pls.core⟩ ∧ ok = true)))
/-- How EndMove ends. -/
def EmEnd (C : CC) (w : World) (e : Ending) (w' : World) : Prop :=
  ∃ (c : Cl) (ok : Bool), e = .returned (.tuple #[clV c, .bool ok]) ∧ EmIs C (plain c) ok ∧ CO w' w.heap.size c ∧ Below w.heap.size w w'
theorem em_no {C : CC} {w w' : World} (h : EmIs C noCC false) (hb : Below w.heap.size w w') : EmEnd C w (.returned (.tuple #[.agg #[.int .i64 0, .int .i64 0, .int .i64 0, .int .i64 0, .slice none 0 0, .slice none 0 0, .slice none 0 0], .bool false])) w' :=
  ⟨noCl, false, rfl, h, CO.no w' _, hb⟩
theorem keys_ok {C : CC} {L M : List Pls.Pl} (hg : gcB C = true) (hL : C.ps = L.map Pls.core) (hM : M.map Pls.core = L.map Pls.core) (fp : ∀ x ∈ L, Pls.Fits x) : ∀ i, i < M.length → ∀ y ∈ (M.getD i Pls.zeroL).its, y.key.size ≤ maxLen ∧ (∃ j, plN M (own C.ns y.key) = some j) ∧ (C.cs ≠ [] → ∃ j, plN M (own C.cs y.key) = some j) := by
  intro i hi y hy
  have hl := Pls.map_len hM
  have e := Pls.map_at hM i
  have e2 : (M.getD i Pls.zeroL).its = (L.getD i Pls.zeroL).its := congrArg Pls.Core.its e
  rw [e2] at hy
  have hf := (fp _ (Pls.getD_mem (show i < L.length by omega))).2.2.2 y hy
  obtain ⟨o1, o2⟩ := gc_owner hg y.key
  rw [plN_core, plN_core, hM, ← hL]
  exact ⟨hf.1, o1, o2⟩

set_option maxRecDepth 10000 in
set_option maxHeartbeats 4000000 in
theorem endMove_spec (now nx lim lost : Int) (b1 b2 b3 : Nat) (ns cs : List Nodes.D) (L : List Pls.Pl) (w : World) (hR : CR w b1 b2 b3 ns cs L) (ln : ns.length ≤ 1048576) (fn : ∀ x ∈ ns, Nodes.Fits x) (lc : cs.length ≤ 1048576) (fc : ∀ x ∈ cs, Nodes.Fits x) (lp : L.length ≤ 1048576) (fp : ∀ x ∈ L, Pls.Fits x) :
    Calls Tryz.prog 15 #[.agg #[.int .i64 now, .int .i64 nx, .int .i64 lim, .int .i64 lost, .slice (some ⟨b1, 0, none⟩) ns.length ns.length, .slice (some ⟨b2, 0, none⟩) cs.length cs.length, .slice (some ⟨b3, 0, none⟩) L.length L.length]] w (EmEnd ⟨now, nx, lim, lost, ns, cs, L.map Pls.core⟩ w) := by
  obtain ⟨C, hC⟩ : ∃ C : CC, C = ⟨now, nx, lim, lost, ns, cs, L.map Pls.core⟩ := ⟨_, rfl⟩
  rw [← hC]
  have hCL : C.ps = L.map Pls.core := by rw [hC]
  have hCc : C.cs = cs := by rw [hC]
  have hCn : C.ns = ns := by rw [hC]
  have HG := hide (fun w' (hb : Below w.heap.size w w') => good_spec now nx lim lost b1 b2 b3 ns cs L w' (hR.below hb (Nat.le_refl _)) ln fn lc fc lp fp)
  rw [← hC] at HG
  obtain ⟨W, hW⟩ : ∃ W, W = (w.alloc (.cells #[.int .i64 now, .int .i64 nx, .int .i64 lim, .int .i64 lost, .slice (some ⟨b1, 0, none⟩) ns.length ns.length, .slice (some ⟨b2, 0, none⟩) cs.length cs.length, .slice (some ⟨b3, 0, none⟩) L.length L.length] 30)).alloc (.cells #[.int .i64 0, .int .i64 0, .int .i64 0, .int .i64 0, .slice none 0 0, .slice none 0 0, .slice none 0 0] 30) := ⟨_, rfl⟩
  have BW : Hid (Below w.heap.size w W) := by rw [hW]; exact bel2 w _ _
  have hzW : w.heap.size + 2 ≤ W.heap.size := by rw [hW]; simp
  have CX : Hid (CB W w.heap.size now nx lim lost (.slice (some ⟨b1, 0, none⟩) ns.length ns.length) (.slice (some ⟨b2, 0, none⟩) cs.length cs.length) (.slice (some ⟨b3, 0, none⟩) L.length L.length)) := by
    rw [hW]; exact ((bel1 (w.alloc _) _).block w.heap.size (by simp)).trans (heap_alloc_new w _)
  have CY : Hid (CB W (w.heap.size + 1) 0 0 0 0 (.slice none 0 0) (.slice none 0 0) (.slice none 0 0)) := by
    rw [hW]
    have := heap_alloc_new (w.alloc (.cells #[.int .i64 now, .int .i64 nx, .int .i64 lim, .int .i64 lost, .slice (some ⟨b1, 0, none⟩) ns.length ns.length, .slice (some ⟨b2, 0, none⟩) cs.length cs.length, .slice (some ⟨b3, 0, none⟩) L.length L.length] 30)) (.cells #[.int .i64 0, .int .i64 0, .int .i64 0, .int .i64 0, .slice none 0 0, .slice none 0 0, .slice none 0 0] 30)
    rw [World.size_alloc] at this
    exact this
  have HW := hide hW
  clear hW
  cases hg : gcB C
  · have H : Hid (EmIs C noCC false) := hide (.inl ⟨.inl hg, rfl, rfl⟩)
    rw [hg] at HG
    clear hg hC hCL hCc hCn hR fn fc fp
    go_enter Tryz.func15, Tryz.ntmps15
    go_upto_region 1 with fail
    rw [← unhide HW]
    obtain ⟨x0, x1, x2, x3, x4, x5, x6, xf, xz⟩ := (unhide CX).cells
    go_wp2_with fail
    refine (unhide HG _ (unhide BW)).mono ?_
    rintro e w1 ⟨rfl, hb1⟩
    have B1 := hide ((unhide BW).trans (hb1.mono (unhide BW).size))
    have Y1 := hide ((unhide CY).below hb1 (by omega))
    clear hb1 x0 x1 x2 x3 x4 x5 x6 xf xz
    obtain ⟨y0, y1, y2, y3, y4, y5, y6, yf, yz⟩ := (unhide Y1).cells
    go_wp2
    refine bodyPost_ret (v := .tuple #[.agg #[.int .i64 0, .int .i64 0, .int .i64 0, .int .i64 0, .slice none 0 0, .slice none 0 0, .slice none 0 0], .bool false]) (by simp [results, Tryz.results15, go_sem, y0, y1, y2, y3, y4, y5, y6]) rfl (em_no (unhide H) ?_)
    repeat (refine Below.setCell ?_ (by first | (simp; done) | (simp; omega)) _)
    exact unhide B1
  by_cases hcz : cs.length = 0
  · have H : Hid (EmIs C noCC false) := hide (.inl ⟨.inr (by rw [hCc]; exact hcz), rfl, rfl⟩)
    rw [hg] at HG
    generalize cs.length = cl at hcz CX HW HG ⊢
    have hd3 : decide (cl = 0) = true := by simp; omega
    have hd2 : (cl == 0) = true := by simp; omega
    have hd4 : ((cl : Int) == 0) = true := by simp; omega
    have hd5 : decide ((cl : Int) = 0) = true := by simp; omega
    clear hg hC hCL hCc hCn hR fn fc fp hcz
    go_enter Tryz.func15, Tryz.ntmps15
    go_upto_region 1 with fail
    rw [← unhide HW]
    obtain ⟨x0, x1, x2, x3, x4, x5, x6, xf, xz⟩ := (unhide CX).cells
    go_wp2_with fail
    refine (unhide HG _ (unhide BW)).mono ?_
    rintro e w1 ⟨rfl, hb1⟩
    have B1 := hide ((unhide BW).trans (hb1.mono (unhide BW).size))
    have Y1 := hide ((unhide CY).below hb1 (by omega))
    have X1 := hide ((unhide CX).below hb1 (by omega))
    clear hb1 x0 x1 x2 x3 x4 x5 x6 xf xz
    obtain ⟨x0, x1, x2, x3, x4, x5, x6, xf, xz⟩ := (unhide X1).cells
    obtain ⟨y0, y1, y2, y3, y4, y5, y6, yf, yz⟩ := (unhide Y1).cells
    go_wp2
    refine bodyPost_ret (v := .tuple #[.agg #[.int .i64 0, .int .i64 0, .int .i64 0, .int .i64 0, .slice none 0 0, .slice none 0 0, .slice none 0 0], .bool false]) (by simp [results, Tryz.results15, go_sem, y0, y1, y2, y3, y4, y5, y6]) rfl (em_no (unhide H) ?_)
    repeat (refine Below.setCell ?_ (by first | (simp; done) | (simp; omega)) _)
    exact unhide B1
  have hg' := hg
  rw [gc_eq, Bool.and_eq_true, Bool.and_eq_true] at hg'
  obtain ⟨_, _, _, _, g5, g6⟩ := (head_iff C).1 hg'.1.1
  rw [hCn] at g5
  have g6 : NodesM.gnB cs = true := by rw [← hCc]; exact g6.resolve_left (by rw [hCc]; rintro rfl; simp at hcz)
  obtain ⟨l16, hgs⟩ := gc_stores hCL hg
  have n8 := (Ring.good_len g5).2
  have c8 := (Ring.good_len g6).2
  have h60 : ∀ x ∈ L, x.its.length ≤ 1000 := fun x hx => by
    obtain ⟨j, hj, rfl⟩ := List.getElem_of_mem hx
    have := (gs_item (hgs j hj).1).1
    rw [List.getD_eq_getElem?_getD, List.getElem?_eq_getElem hj] at this
    simp only [Option.getD_some] at this
    omega
  have hL0 : 0 < L.length := by
    have h1 := congrArg List.length (gc_names hg)
    obtain ⟨j, hj⟩ := (gc_owner hg ByteArray.empty).1
    unfold atC at hj
    have := (List.findIdx?_eq_some_iff_getElem.1 hj).1
    rw [hCL, List.length_map] at this
    omega
  have HKO := hide (fun (M : List Pls.Pl) (hM : M.map Pls.core = L.map Pls.core) => keys_ok hg hCL hM fp)
  rw [hCn, hCc] at HKO
  have H60 := hide h60
  have HOWN := hide (fun w' (hb : Below w.heap.size w w') => own_spec now nx lim lost b1 b2 b3 ns cs L w' (hR.below hb (Nat.le_refl _)) (by omega) (by omega) (by omega) h60)
  have HEM : Hid (∀ (N : List Pls.Pl) (R : ByteArray), N.map Pls.core = C.ps.map (dropC C.now) → FirstIs ns cs N R → ((R.toList == []) = false → EmIs C noCC false) ∧ ((R.toList == []) = true → EmIs C ⟨now, nx, lim, lost, cs, [], (stay cs N).map Pls.core⟩ true)) := by
    intro N R h1 h2
    refine ⟨fun h => .inr ⟨hg, by rw [hCc]; exact hcz, N, R, h1, by rw [hCn, hCc]; exact h2, .inl ⟨h, rfl, rfl⟩⟩, fun h => .inr ⟨hg, by rw [hCc]; exact hcz, N, R, h1, by rw [hCn, hCc]; exact h2, .inr ⟨h, by rw [hC], rfl⟩⟩⟩
  have HDC : Hid (∀ (N M : List Pls.Pl), M.map Pls.core = L.map Pls.core → N.map Pls.core = M.map (fun x => dropC now (Pls.core x)) → N.map Pls.core = C.ps.map (dropC C.now)) := by
    intro N M h1 h2
    rw [h2, hC]
    show _ = (L.map Pls.core).map (dropC now)
    rw [← h1, List.map_map]
    rfl
  rw [hg] at HG
  have hcp : 0 < cs.length := by omega
  have hd1 : ((cs.length : Int) == 0) = false := by simpa using hcz
  have hd2 : decide ((cs.length : Int) = 0) = false := by simpa using hcz
  have hd3 : (cs.length == 0) = false := by simpa using hcz
  have hd4 : decide (cs.length = 0) = false := by simpa using hcz
  clear hg hg' hC hCL hCc hCn hR fn fc fp hgs h60 hcz
  go_enter Tryz.func15, Tryz.ntmps15
  go_upto_region 1 with fail
  rw [← unhide HW]
  clear HW
  obtain ⟨x0, x1, x2, x3, x4, x5, x6, xf, xz⟩ := (unhide CX).cells
  go_wp2_with fail
  refine (unhide HG _ (unhide BW)).mono ?_
  rintro e w1 ⟨rfl, hb1⟩
  have B1 := hide ((unhide BW).trans (hb1.mono (unhide BW).size))
  have Y1 := hide ((unhide CY).below hb1 (by omega))
  have X1 := hide ((unhide CX).below hb1 (by omega))
  have hz1 := hb1.size
  clear hb1 x0 x1 x2 x3 x4 x5 x6 xf xz HG CX CY BW
  obtain ⟨x0, x1, x2, x3, x4, x5, x6, xf, xz⟩ := (unhide X1).cells
  go_wp2_with fail
  refine (unhide HOWN _ (unhide B1)).mono ?_
  rintro e w3 hown
  obtain ⟨a1, c1, a2, c2, a3, c3, M, rfl, hM, hco, hb3⟩ := hown.co
  clear hown
  have B3 := hide ((unhide B1).trans (hb3.mono (unhide B1).size))
  have Y3 := hide ((unhide Y1).below hb3 (by omega))
  have hz3 := hb3.size
  have hlM := Pls.map_len hM
  obtain ⟨g, rfl, hg2, hg3⟩ := hco.p.head (show 0 < M.length by omega)
  have HEN := hide (end_spec now nx lim lost a1 c1 ns a2 c2 cs g c3 M w1.heap.size w3 hz3 hco (by omega) (fun x hx => by
    have h2 : Pls.core x ∈ L.map Pls.core := by rw [← hM]; exact List.mem_map.2 ⟨x, hx, rfl⟩
    obtain ⟨y, hy, e⟩ := List.mem_map.1 h2
    have e2 : y.its = x.its := congrArg Pls.Core.its e
    rw [← e2]; exact unhide H60 y hy) hg3 g5 g6 (unhide HKO M hM))
  have HDM := hide (fun N h => unhide HDC N M hM h)
  clear hb3 x0 x1 x2 x3 x4 x5 x6 xf xz HOWN X1 Y1 B1 hco hM HKO HDC H60 hlM
  go_wp2_with fail
  refine (unhide HEN).mono ?_
  rintro e w4 ⟨N, R, hNc, hFi, hb4, hz4, hend⟩
  dsimp only at hNc hFi hend
  have B4 := hide ((unhide B3).trans (hb4.mono (by omega)))
  have Y4 := hide ((unhide Y3).below hb4 (by omega))
  obtain ⟨hE1, hE2⟩ := unhide HEM N R (unhide HDM N hNc) hFi
  clear HEN HEM HDM B3 Y3 hb4 hNc hFi
  rcases hend with ⟨hr, v, rfl, y1, y2, y3, y4, z1, z2, z3, n1, n2, n3, m1, m2, m3, rfl⟩ | ⟨hr, oa, oc, rfl, hco⟩
  · have H := hide (hE1 hr)
    clear hE1 hE2 hr
    go_upto_region 4 with fail
    have YU := hide ((unhide Y4).below (bel1 w4 (.cells #[.int .i64 y1, .int .i64 y2, .int .i64 y3, .int .i64 y4, .slice z1 n1 m1, .slice z2 n2 m2, .slice z3 n3 m3] 30)) (by omega))
    have BU := hide ((unhide B4).alloc (by omega) (.cells #[.int .i64 y1, .int .i64 y2, .int .i64 y3, .int .i64 y4, .slice z1 n1 m1, .slice z2 n2 m2, .slice z3 n3 m3] 30))
    generalize w4.alloc (.cells #[.int .i64 y1, .int .i64 y2, .int .i64 y3, .int .i64 y4, .slice z1 n1 m1, .slice z2 n2 m2, .slice z3 n3 m3] 30) = U at YU BU ⊢
    obtain ⟨t0, t1, t2, t3, t4, t5, t6, tf, tz⟩ := (unhide YU).cells
    go_wp2
    refine bodyPost_ret (v := .tuple #[.agg #[.int .i64 0, .int .i64 0, .int .i64 0, .int .i64 0, .slice none 0 0, .slice none 0 0, .slice none 0 0], .bool false]) (by simp [results, Tryz.results15, go_sem, t0, t1, t2, t3, t4, t5, t6]) rfl (em_no (unhide H) ?_)
    repeat (refine Below.setCell ?_ (by first | (simp; done) | (simp; omega)) _)
    exact unhide BU
  · have H := hide (hE2 hr)
    have K4 := hide hco
    clear hE1 hE2 hr hco
    go_upto_region 4 with fail
    have YU := hide ((unhide Y4).below (bel1 w4 (.cells #[.int .i64 now, .int .i64 nx, .int .i64 lim, .int .i64 lost, .slice a2 cs.length c2, .slice none 0 0, .slice oa (stay cs N).length oc] 30)) (by omega))
    have BU := hide ((unhide B4).alloc (by omega) (.cells #[.int .i64 now, .int .i64 nx, .int .i64 lim, .int .i64 lost, .slice a2 cs.length c2, .slice none 0 0, .slice oa (stay cs N).length oc] 30))
    have KU := hide ((unhide K4).below (bel1 w4 (.cells #[.int .i64 now, .int .i64 nx, .int .i64 lim, .int .i64 lost, .slice a2 cs.length c2, .slice none 0 0, .slice oa (stay cs N).length oc] 30)) (Nat.le_refl _))
    have XU : Hid (CB (w4.alloc (.cells #[.int .i64 now, .int .i64 nx, .int .i64 lim, .int .i64 lost, .slice a2 cs.length c2, .slice none 0 0, .slice oa (stay cs N).length oc] 30)) w4.heap.size now nx lim lost (.slice a2 cs.length c2) (.slice none 0 0) (.slice oa (stay cs N).length oc)) := heap_alloc_new w4 _
    generalize w4.alloc (.cells #[.int .i64 now, .int .i64 nx, .int .i64 lim, .int .i64 lost, .slice a2 cs.length c2, .slice none 0 0, .slice oa (stay cs N).length oc] 30) = U at YU BU KU XU ⊢
    generalize w4.heap.size = ob at XU hz4 ⊢
    obtain ⟨x0, x1, x2, x3, x4, x5, x6, xf, xz⟩ := (unhide XU).cells
    obtain ⟨t0, t1, t2, t3, t4, t5, t6, tf, tz⟩ := (unhide YU).cells
    go_wp2
    refine bodyPost_ret (v := .tuple #[.agg #[.int .i64 now, .int .i64 nx, .int .i64 lim, .int .i64 lost, .slice a2 cs.length c2, .slice none 0 0, .slice oa (stay cs N).length oc], .bool true]) (by simp [results, Tryz.results15, go_sem, t0, t1, t2, t3, t4, t5, t6]) rfl ⟨⟨now, nx, lim, lost, a2, c2, cs, none, 0, [], oa, oc, stay cs N⟩, true, rfl, unhide H, CO.le (B := w1.heap.size) ?_ (by omega), ?_⟩
    · exact (unhide KU).box7 (unhide YU) now nx lim lost (.slice a2 cs.length c2) (.slice none 0 0) (.slice oa (stay cs N).length oc)
    · repeat (refine Below.setCell ?_ (by first | (simp; done) | (simp; omega)) _)
      exact unhide BU
end Clus
end Go.Proofs.YtkodgbalhnbhcaaGreatDoor
