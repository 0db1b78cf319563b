/-
  The model's l7HasNode and l7Owner: whether nodes have a name; at which place a key is asked for.
-/
import Derived.Test.YtkodgbalhnbhcaaGreatDoorZ21
namespace Go.Proofs.YtkodgbalhnbhcaaGreatDoor
namespace Clus
open Go.RowKit Base OwnR Plc
set_option linter.unusedVariables false

def hasN (l : List Nodes.D) (nm : ByteArray) : Bool := l.any (fun x => x.name.toList == nm.toList)
theorem hasN_yes {l : List Nodes.D} {nm : ByteArray} {k : Nat} (hk : k < l.length) (h : ((l.getD k Nodes.zero).name.toList == nm.toList) = true) : hasN l nm = true := by
  unfold hasN
  rw [List.any_eq_true]
  refine ⟨l[k], List.getElem_mem hk, ?_⟩
  rw [List.getD_eq_getElem?_getD, List.getElem?_eq_getElem hk] at h
  exact h
theorem hasN_no {l : List Nodes.D} {nm : ByteArray} (h : ∀ j, j < l.length → ((l.getD j Nodes.zero).name.toList == nm.toList) = false) : hasN l nm = false := by
  unfold hasN
  rw [List.any_eq_false]
  intro x hx
  obtain ⟨j, hj, rfl⟩ := List.getElem_of_mem hx
  have := h j hj
  rw [List.getD_eq_getElem?_getD, List.getElem?_eq_getElem hj] at this
  simpa using this

set_option maxRecDepth 10000 in
set_option maxHeartbeats 1000000 in
theorem hasNode_some (b off cap : Nat) (l : List Nodes.D) (nm : ByteArray) (w : World) (hb : b < w.heap.size) (hc : ∀ i, i < l.length → Nodes.At w b (off + i * 2) (l.getD i Nodes.zero)) (hl : l.length ≤ 1048576) :
    Calls Tryz.prog 86 #[.slice (some ⟨b, off, none⟩) l.length cap, .string nm] w fun e w' => e = .returned (.bool (hasN l nm)) ∧ Below w.heap.size w w' := by
  have hcs := hide hc
  clear hc
  go_enter Tryz.func86, Tryz.ntmps86
  go_wp2
  go_loopw [9] (fun i wr => ∃ (k : Nat), k ≤ l.length ∧ i = .int .i64 k ∧ Hid (∀ j, j < k → ((l.getD j Nodes.zero).name.toList == nm.toList) = false) ∧ Hid (Below w.heap.size w wr)) (fun i _ => l.length - (intOf i).toNat)
  case atStart => exact ⟨0, Nat.zero_le _, rfl, hide (fun j hj => by omega), hide (Below.refl _ _)⟩
  case round =>
    obtain ⟨k, hk, rfl, hn, hbel⟩ := hrel
    by_cases hlt : k < l.length
    · obtain ⟨c0, c1⟩ := (unhide hcs k hlt).below (unhide hbel) hb
      have hhit := hide (@hasN_yes l nm k hlt)
      have hmiss : Hid (((l.getD k Nodes.zero).name.toList == nm.toList) = false → ∀ j, j < k + 1 → ((l.getD j Nodes.zero).name.toList == nm.toList) = false) := by
        intro h j hj
        by_cases e : j = k
        · rw [e]; exact h
        · exact unhide hn j (by omega)
      generalize l.getD k Nodes.zero = x at c0 c1 hhit hmiss
      have hzb := (unhide hbel).size
      cases e : (x.name.toList == nm.toList)
      · have H := hide (unhide hmiss e)
        clear hhit hmiss
        go_wp2
        go_roundw
        case rel => exact ⟨k + 1, by omega, by go_num, H, hide ((unhide hbel).alloc hzb _)⟩
        case measure => simp [intOf]; omega
      · have H : Hid (hasN l nm = true) := hide (unhide hhit e)
        clear hhit hmiss
        go_wp2
        go_ret
        exact ⟨ret_bool (unhide H).symm, (unhide hbel).alloc hzb _⟩
    · obtain rfl : k = l.length := by omega
      have H : Hid (hasN l nm = false) := hide (hasN_no (unhide hn))
      go_wp2
      go_ret
      exact ⟨ret_bool (unhide H).symm, unhide hbel⟩

/-- Where a key is asked for: at its owner among the nodes that come, where some come. -/
def toward (ns cs : List Nodes.D) (key : ByteArray) : ByteArray := if cs.length = 0 then own ns key else own cs key

set_option maxRecDepth 10000 in
set_option maxHeartbeats 4000000 in
theorem owner_spec (now nx lim lost : Int) (a1 : Option Addr) (c1 : Nat) (ns : List Nodes.D) (a2 : Option Addr) (c2 : Nat) (cs : List Nodes.D) (g c3 : Nat) (M : List Pls.Pl) (key : ByteArray) (w : World) (hl1 : Nodes.LAt w a1 ns) (hl2 : Nodes.LAt w a2 cs) (hp : ∀ i, i < M.length → Pls.PlAt w g (0 + i * 4) (M.getD i Pls.zeroL)) (hg : g < w.heap.size) (lp : M.length ≤ 1048576) (g1 : NodesM.gnB ns = true) (g2 : cs = [] ∨ NodesM.gnB cs = true) (hk : key.size ≤ maxLen) :
    Calls Tryz.prog 149 #[.agg #[.int .i64 now, .int .i64 nx, .int .i64 lim, .int .i64 lost, .slice a1 ns.length c1, .slice a2 cs.length c2, .slice (some ⟨g, 0, none⟩) M.length c3], .string key] w fun e w' => e = .returned (.int .i64 (plI M (toward ns cs key))) ∧ Below w.heap.size w w' := by
  have hmix : Tryz.prog.follows .mixedOrders = true := by kernel_rfl
  have HMIX := hide hmix
  have HAT := hide (fun (nm : ByteArray) w' (hb : Below w.heap.size w w') => l7At_some now nx lim lost _ _ g 0 c3 M nm w' (Nat.lt_of_lt_of_le hg hb.size) (fun i hi => (hp i hi).below hb hg) lp a1 ns.length c1 a2 cs.length c2 rfl rfl)
  obtain ⟨W, hW⟩ : ∃ W, W = w.alloc (.cells #[.int .i64 now, .int .i64 nx, .int .i64 lim, .int .i64 lost, .slice a1 ns.length c1, .slice a2 cs.length c2, .slice (some ⟨g, 0, none⟩) M.length c3] 30) := ⟨_, rfl⟩
  have BW : Hid (Below w.heap.size w W) := by rw [hW]; exact bel1 w _
  have CX : Hid (CB W w.heap.size now nx lim lost (.slice a1 ns.length c1) (.slice a2 cs.length c2) (.slice (some ⟨g, 0, none⟩) M.length c3)) := by
    rw [hW]; exact heap_alloc_new w _
  have HW := hide hW
  have hgrow : Hid (∀ d os, Below w.heap.size w (Go.Sort.grow (redrawn W d) os)) := fun d os => (unhide BW).trans ((below_regrown W d os).mono (unhide BW).size)
  have hne1 : ns ≠ [] := by rintro rfl; have := (Ring.good_len g1).1; simp at this
  by_cases hcz : cs.length = 0
  · obtain ⟨b, off, rfl, hb, hc⟩ := hl1 hne1
    have HO := hide (fun w' (hb' : Below w.heap.size w w') => Ring.mowner_some b off c1 ns key w' (Nat.lt_of_lt_of_le hb hb'.size) (fun i hi => (hc i hi).below hb' hb) g1 hk)
    have e1 : own ns key = Ring.ownerN (Ring.ring (Ring.points ns)) (Hash.hashN key.data.toList) := rfl
    rw [← e1] at HO
    have ht : toward ns cs key = own ns key := by unfold toward; rw [if_pos hcz]
    rw [ht]
    have HAT := hide (unhide HAT (own ns key))
    generalize own ns key = nm at HAT HO ⊢
    clear hl2 hp g1 g2 hne1 hc ht e1 hW hmix
    clear hk
    generalize cs.length = cl at hcz HAT CX HW ⊢
    have hd1 : decide (0 < cl) = false := by simp; omega
    have hd2 : decide ((0 : Int) < (cl : Int)) = false := by simp; omega
    clear hcz
    go_enter Tryz.func149, Tryz.ntmps149
    go_upto_region 1 with fail
    rw [← unhide HW]
    clear HW
    obtain ⟨x0, x1, x2, x3, x4, x5, x6, xf, xz⟩ := (unhide CX).cells
    go_wp2_with fail
    have cO := fun d os => Calls.regrown_of (unhide HO (Go.Sort.grow (redrawn W d) os) (unhide hgrow d os))
    have cA := fun d os => Calls.regrown_of (unhide HAT (Go.Sort.grow (redrawn W d) os) (unhide hgrow d os))
    have x0 := cell_regrown x0
    have x1 := cell_regrown x1
    have x2 := cell_regrown x2
    have x3 := cell_regrown x3
    have x4 := cell_regrown x4
    have x5 := cell_regrown x5
    have x6 := cell_regrown x6
    refine wp_region_quiet_below (unhide HMIX) (by kernel_rfl) ?_
    repeat (go_big_quiet_step (first | exact cO _ _ | exact cA _ _))
    refine wpQuiet_nil ?_
    intro _ hw'
    obtain ⟨⟨dq, osq⟩, hw''⟩ := hw'
    subst hw''
    have BQ := hide ((unhide BW).trans ((below_regrown W dq osq).mono (unhide BW).size))
    clear x0 x1 x2 x3 x4 x5 x6 xf xz cO cA
    generalize (Go.Sort.grow (redrawn W dq) osq) = v at BQ ⊢
    go_wp2
    go_ret
    exact ⟨rfl, unhide BQ⟩
  · have hg2 : NodesM.gnB cs = true := g2.resolve_left (by rintro rfl; simp at hcz)
    obtain ⟨b, off, rfl, hb, hc⟩ := hl2 (by rintro rfl; simp at hcz)
    have HO := hide (fun w' (hb' : Below w.heap.size w w') => Ring.mowner_some b off c2 cs key w' (Nat.lt_of_lt_of_le hb hb'.size) (fun i hi => (hc i hi).below hb' hb) hg2 hk)
    have e1 : own cs key = Ring.ownerN (Ring.ring (Ring.points cs)) (Hash.hashN key.data.toList) := rfl
    rw [← e1] at HO
    have ht : toward ns cs key = own cs key := by unfold toward; rw [if_neg hcz]
    rw [ht]
    have HAT := hide (unhide HAT (own cs key))
    generalize own cs key = nm at HAT HO ⊢
    clear hl1 hp g1 g2 hne1 hc ht e1 hW hmix hg2
    clear hk
    have hcz2 : 0 < cs.length := by omega
    clear hcz
    go_enter Tryz.func149, Tryz.ntmps149
    go_upto_region 1 with fail
    rw [← unhide HW]
    clear HW
    obtain ⟨x0, x1, x2, x3, x4, x5, x6, xf, xz⟩ := (unhide CX).cells
    go_wp2_with fail
    have cO := fun d os => Calls.regrown_of (unhide HO (Go.Sort.grow (redrawn W d) os) (unhide hgrow d os))
    have cA := fun d os => Calls.regrown_of (unhide HAT (Go.Sort.grow (redrawn W d) os) (unhide hgrow d os))
    have x0 := cell_regrown x0
    have x1 := cell_regrown x1
    have x2 := cell_regrown x2
    have x3 := cell_regrown x3
    have x4 := cell_regrown x4
    have x5 := cell_regrown x5
    have x6 := cell_regrown x6
    refine wp_region_quiet_below (unhide HMIX) (by kernel_rfl) ?_
    repeat (go_big_quiet_step (first | exact cO _ _ | exact cA _ _))
    refine wpQuiet_nil ?_
    intro _ hw'
    obtain ⟨⟨dq, osq⟩, hw''⟩ := hw'
    subst hw''
    have BQ := hide ((unhide BW).trans ((below_regrown W dq osq).mono (unhide BW).size))
    clear x0 x1 x2 x3 x4 x5 x6 xf xz cO cA
    generalize (Go.Sort.grow (redrawn W dq) osq) = v at BQ ⊢
    go_wp2
    go_ret
    exact ⟨rfl, unhide BQ⟩
end Clus
end Go.Proofs.YtkodgbalhnbhcaaGreatDoor
