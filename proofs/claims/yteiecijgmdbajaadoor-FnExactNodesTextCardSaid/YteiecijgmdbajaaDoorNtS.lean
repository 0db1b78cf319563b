/-
  The model's l9Nodes and NodesText: they answer by plain functions of the nodes.
-/
import Derived.Test.YteiecijgmdbajaaDoorNtP
import Derived.Test.YteiecijgmdbajaaDoorNumText
import Derived.Lib.QuietBelow
import Derived.BigQuiet
import Derived.Outline
namespace Go.Proofs.YteiecijgmdbajaaDoor
namespace Nt
open Go.RowKit Base Nodes NumText
set_option linter.unusedVariables false

theorem bx2 (w : World) (t : TypeId) (v0 v1 : Value) : (w.alloc (.cells #[v0, v1] t)).cell? ⟨w.heap.size, 0, none⟩ = some v0 ∧ (w.alloc (.cells #[v0, v1] t)).cell? ⟨w.heap.size, 1, none⟩ = some v1 := by
  constructor <;> (rw [World.cell?_alloc_new]; rfl)

set_option maxRecDepth 10000 in
set_option maxHeartbeats 2000000 in
theorem stext_any (b off cap : Nat) (l : List D) (w : World) (hb : b < w.heap.size) (hc : ∀ i, i < l.length → At w b (off + i * 2) (l.getD i zero)) (hg : NodesM.gnB l = true) :
    Calls Tryd.prog 23 #[.slice (some ⟨b, off, none⟩) l.length cap] w fun e w' => e = .returned (.string (textTo l l.length)) ∧ Below w.heap.size w w' := by
  have hll := gn_lens hg
  have hcs := hide hc
  have HG := hide hg
  have hmix : Tryd.prog.follows .mixedOrders = true := by kernel_rfl
  clear hc hg
  go_enter Tryd.func23, Tryd.ntmps23
  go_wp2
  go_loopw [3, 8] (fun s i wr => ∃ (k : Nat) (t : ByteArray), k ≤ l.length ∧ t.size ≤ 30 * k ∧ i = .int .i64 k ∧ s = .string t ∧ Hid (t = textTo l k) ∧ Hid (Below w.heap.size w wr)) (fun _ i _ => l.length - (intOf i).toNat)
  case atStart => exact ⟨0, ByteArray.empty, Nat.zero_le _, by simp, rfl, rfl, hide rfl, hide (Below.refl _ _)⟩
  case round =>
    obtain ⟨k, t, hk, htz, rfl, rfl, ht, hbel⟩ := hrel
    by_cases hlt : k < l.length
    · obtain ⟨c0, c1⟩ := (unhide hcs k hlt).below (unhide hbel) hb
      have hnd := gn_node (unhide HG) k hlt
      have hnew : Hid (∀ s, s = (if k = 0 then t else t ++ ⟨#[32]⟩) ++ word (l.getD k zero) → s = textTo l (k + 1)) := fun s h => by rw [h, textTo, ← unhide ht]
      generalize l.getD k zero = x at c0 c1 hnd hnew
      obtain ⟨b1, b2, b3, b4⟩ := node_bd hnd
      have hts := txt_size x.weight.toNat (by omega)
      have hzb := (unhide hbel).size
      have hbel' : ∀ d os, Below w.heap.size w (Go.Sort.grow (redrawn (wr.alloc (.cells #[.string x.name, .int .i64 x.weight] 38)) d) os) := fun d os => ((unhide hbel).alloc hzb _).trans ((below_regrown _ d os).mono (by simp; omega))
      have cI := fun d os => Calls.regrown_of (num_any x.weight (Go.Sort.grow (redrawn (wr.alloc (.cells #[.string x.name, .int .i64 x.weight] 38)) d) os) (by omega) (by omega))
      obtain ⟨k0, k1⟩ := bx2 wr 38 (.string x.name) (.int .i64 x.weight)
      have p0 := cell_regrown k0
      have p1 := cell_regrown k1
      have hw : Hid (word x = (x.name ++ ⟨#[58]⟩) ++ txt x.weight.toNat) := rfl
      generalize txt x.weight.toNat = u at hts cI hw
      have n1 : ¬ 9223372036854775807 < x.name.size + 1 := by omega
      have n2 : ¬ 9223372036854775807 < x.name.size + 1 + u.size := by omega
      clear hnd
      by_cases hk0 : k = 0
      · subst hk0
        rw [Nat.zero_mul, Nat.add_zero] at c0 c1
        have hkd : decide (0 < ((0 : Nat) : Int)) = false := rfl
        have n3 : ¬ 9223372036854775807 < t.size + (x.name.size + 1 + u.size) := by omega
        go_wp2_with fail
        refine wp_region_quiet_below hmix (by kernel_rfl) ?_
        repeat (quiet_step (exact cI _ _))
        refine wpQuiet_nil ?_
        intro _ hw'
        obtain ⟨⟨dq, osq⟩, hw''⟩ := hw'
        subst hw''
        have HB := hide (hbel' dq osq)
        generalize (Go.Sort.grow (redrawn (wr.alloc (.cells #[.string x.name, .int .i64 x.weight] 38)) dq) osq) = wc at HB ⊢
        clear cI hbel' p0 p1 k0 k1
        go_wp2
        go_roundw
        case rel => exact ⟨0 + 1, _, by omega, by rw [ByteArray.size_append, ByteArray.size_append, ByteArray.size_append, one58]; omega, by go_num, rfl, hide (unhide hnew _ (by rw [unhide hw]; simp)), HB⟩
        case measure => simp [intOf]; omega
      · have hkd : decide (0 < (k : Int)) = true := by simp; omega
        have hk1 : 0 < (k : Int) := by omega
        have n3 : ¬ 9223372036854775807 < t.size + 1 := by omega
        have n4 : ¬ 9223372036854775807 < t.size + 1 + (x.name.size + 1 + u.size) := by omega
        go_wp2_with fail
        refine wp_region_quiet_below hmix (by kernel_rfl) ?_
        repeat (quiet_step (exact cI _ _))
        refine wpQuiet_nil ?_
        intro _ hw'
        obtain ⟨⟨dq, osq⟩, hw''⟩ := hw'
        subst hw''
        have HB := hide (hbel' dq osq)
        generalize (Go.Sort.grow (redrawn (wr.alloc (.cells #[.string x.name, .int .i64 x.weight] 38)) dq) osq) = wc at HB ⊢
        clear cI hbel' p0 p1 k0 k1
        go_wp2
        go_roundw
        case rel => exact ⟨k + 1, _, by omega, by rw [ByteArray.size_append, ByteArray.size_append, ByteArray.size_append, ByteArray.size_append, one58, one32]; omega, by go_num, rfl, hide (unhide hnew _ (by rw [unhide hw]; simp [hk0])), HB⟩
        case measure => simp [intOf]; omega
    · obtain rfl : k = l.length := by omega
      go_wp2
      go_ret
      exact ⟨ret_str (unhide ht), unhide hbel⟩

set_option maxRecDepth 10000 in
set_option maxHeartbeats 1000000 in
theorem snt_any (b off cap : Nat) (l : List D) (w : World) (hb : b < w.heap.size) (hc : ∀ i, i < l.length → At w b (off + i * 2) (l.getD i zero)) (hl : l.length ≤ maxLen) (hs : ∀ x ∈ l, Fits x) :
    Calls Tryd.prog 11 #[.slice (some ⟨b, off, none⟩) l.length cap] w fun e w' => e = .returned (ntV (ntR l)) ∧ Below w.heap.size w w' := by
  have HN := hide (NodesM.nodes_some b off cap l w hb hc hl hs)
  cases hg : NodesM.gnB l
  · rw [hg] at HN
    have HR : Hid (ntR l = ⟨ByteArray.empty, false⟩) := by show ntR l = _; unfold ntR; rw [hg]; rfl
    rw [unhide HR]
    clear hc hs hg HR
    go_enter Tryd.func11, Tryd.ntmps11
    go_wp2_with fail
    refine (unhide HN).mono ?_
    rintro e w1 ⟨rfl, hb1⟩
    have B1 := hide hb1
    clear hb1
    go_wp2
    go_ret2
    exact ⟨rfl, unhide B1⟩
  · rw [hg] at HN
    have HR : Hid (ntR l = ⟨textTo l l.length, true⟩) := by show ntR l = _; unfold ntR; rw [hg]; rfl
    rw [unhide HR]
    have HT := hide (fun w1 (h1 : Below w.heap.size w w1) => stext_any b off cap l w1 (Nat.lt_of_lt_of_le hb h1.size) (fun i hi => (hc i hi).below h1 hb) hg)
    generalize textTo l l.length = t at HT
    clear hc hs hg HR
    go_enter Tryd.func11, Tryd.ntmps11
    go_wp2_with fail
    refine (unhide HN).mono ?_
    rintro e w1 ⟨rfl, hb1⟩
    have B1 := hide hb1
    clear hb1
    go_wp2_with fail
    refine (unhide HT _ (unhide B1)).mono ?_
    rintro e w2 ⟨rfl, hb2⟩
    have B2 := hide ((unhide B1).trans (hb2.mono (unhide B1).size))
    clear hb2
    go_wp2
    go_ret2
    exact ⟨rfl, unhide B2⟩
end Nt
end Go.Proofs.YteiecijgmdbajaaDoor
