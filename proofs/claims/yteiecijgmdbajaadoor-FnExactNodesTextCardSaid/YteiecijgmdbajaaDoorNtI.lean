/-
  The program's NodesText: it answers by plain functions of the nodes.
-/
import Derived.Test.YteiecijgmdbajaaDoorNtP
import Derived.Test.YteiecijgmdbajaaDoorNodesI
import Derived.Test.YteiecijgmdbajaaDoorTabI
import Derived.Test.YteiecijgmdbajaaDoorJoinC
import Derived.Deep.RegionWith
import Derived.Deep.Cut
namespace Go.Proofs.YteiecijgmdbajaaDoor
namespace Nt
open Go.RowKit Base Nodes NumText
set_option linter.unusedVariables false

theorem bdrew {B : Nat} {a b : World} (h : Below B a.drew b) : Below B a b := ⟨h.os, h.tape, h.output, h.size, h.block⟩
def halfW (l : List D) (k j : Nat) : Value := if j < k then .string (word (l.getD j zero)) else .string ByteArray.empty
theorem halfW_step (l : List D) (k j : Nat) : (if j = k then (.string (word (l.getD k zero)) : Value) else halfW l k j) = halfW l (k + 1) j := by
  unfold halfW
  by_cases h : j = k
  · subst h; rw [if_pos rfl, if_pos (by omega)]
  rw [if_neg h]
  by_cases h1 : j < k
  · rw [if_pos h1, if_pos (by omega)]
  · rw [if_neg h1, if_neg (by omega)]
theorem madeW (i : Nat) : (#[.string ByteArray.empty] : Array Value)[i % 1]! = .string ByteArray.empty := by
  rw [Nat.mod_one]; rfl
theorem infoStr : (Tryd.prog.info? 9).map (fun i => (i.zero, i.size, i.bytes)) = some (some (.string ByteArray.empty), 1, 16) := by kernel_rfl
theorem words_get (l : List D) (k : Nat) (hk : k < l.length) : (words l).getD k ByteArray.empty = word (l.getD k zero) := by
  simp [words, List.getD_eq_getElem?_getD, List.getElem?_eq_getElem hk]

set_option maxRecDepth 10000 in
set_option maxHeartbeats 2000000 in
theorem int_any (b off cap : Nat) (l : List D) (w : World) (hb : b < w.heap.size) (hc : ∀ i, i < l.length → At w b (off + i * 2) (l.getD i zero)) (hl : l.length ≤ maxLen) (hs : ∀ x ∈ l, Fits x) (hv : Tab.Has w) :
    Calls Tryd.prog 13 #[.slice (some ⟨b, off, none⟩) l.length cap] w fun e w' => e = .returned (ntV (ntR l)) ∧ Below w.heap.size w w' := by
  have HN := hide (NodesM.inodes_some b off cap l w hb hc hl hs)
  cases hg : NodesM.gnB l
  · rw [hg] at HN
    have HR : Hid (ntR l = ⟨ByteArray.empty, false⟩) := by show ntR l = _; unfold ntR; rw [hg]; rfl
    rw [unhide HR]
    clear hc hs hg HR
    go_enter Tryd.func13, Tryd.ntmps13
    go_wp2_with fail
    refine (unhide HN).mono ?_
    rintro e w1 ⟨rfl, hb1⟩
    have B1 := hide hb1
    clear hb1
    go_wp2
    go_ret2
    exact ⟨rfl, unhide B1⟩
  rw [hg] at HN
  have HR : Hid (ntR l = ⟨textTo l l.length, true⟩) := by show ntR l = _; unfold ntR; rw [hg]; rfl
  rw [unhide HR]
  have hll := gn_lens hg
  have hcs := hide hc
  have HG := hide hg
  have HV := hide hv
  have hmk := fun w => run_make_rows (P := Tryd.prog) 34 9 _ 1 16 Tryd.underlying34 infoStr .i64 .i64 l.length (by omega) (by omega) w
  obtain ⟨R, HRT⟩ : ∃ R, Hid (textTo l l.length = R) := ⟨_, hide rfl⟩
  rw [unhide HRT]
  clear hc hs hg HR hv hl
  go_enter Tryd.func13, Tryd.ntmps13
  go_wp2_with fail
  refine (unhide HN).mono ?_
  rintro e w1 ⟨rfl, hb1⟩
  have B1 := hide hb1
  have hz1 := hb1.size
  clear hb1 HN
  obtain ⟨rb, hrb⟩ : ∃ rb, rb = w1.heap.size := ⟨_, rfl⟩
  have hrow0 : Hid ((w1.alloc (.cells (madeCells #[.string ByteArray.empty] l.length) 9)).rowIs w1.heap.size 9 l.length (halfW l 0)) := by
    have := rowIs_mades w1 #[.string ByteArray.empty] (l.length * 1) 9 (fun _ => .string ByteArray.empty) (fun i => madeW i)
    rw [Nat.mul_one] at this
    exact this.congr (fun i _ => by simp [halfW])
  go_wp2
  go_loopw [15] (fun i wr => ∃ k : Nat, k ≤ l.length ∧ i = .int .i64 k ∧ Hid (wr.rowIs w1.heap.size 9 l.length (halfW l k)) ∧ Hid (Below w.heap.size w wr)) (fun i _ => l.length - (intOf i).toNat)
  case atStart => exact ⟨0, Nat.zero_le _, rfl, hrow0, hide ((unhide B1).alloc hz1 _)⟩
  case round =>
    obtain ⟨k, hk, rfl, hrow, hbel⟩ := hrel
    by_cases hlt : k < l.length
    · obtain ⟨c0, c1⟩ := (unhide hcs k hlt).below (unhide hbel) hb
      have hnd := gn_node (unhide HG) k hlt
      have hst := hide (halfW_step l k)
      have hwd : Hid (word (l.getD k zero) = ((l.getD k zero).name ++ ⟨#[58]⟩) ++ txt (l.getD k zero).weight.toNat) := rfl
      generalize l.getD k zero = x at c0 c1 hnd hst hwd
      obtain ⟨b1, b2, b3, b4⟩ := node_bd hnd
      have hts := txt_size x.weight.toNat (by omega)
      have hzb := (unhide hbel).size
      have hcI := fun w h => Tab.itoa_any x.weight w (by omega) (by omega) h
      generalize txt x.weight.toNat = u at hts hcI hwd
      have HCI := hide hcI
      have n1 : ¬ 9223372036854775807 < x.name.size + 1 := by omega
      have n2 : ¬ 9223372036854775807 < x.name.size + 1 + u.size := by omega
      have hrl := (unhide hrow).lt
      have hbb : b < wr.heap.size := by omega
      obtain ⟨bx, hbx⟩ : ∃ bx, bx = wr.heap.size := ⟨_, rfl⟩
      clear hnd hcI
      go_upto_region 7 with fail
      have hbelA := hide ((unhide hbel).alloc hzb (.cells #[.string x.name, .int .i64 x.weight] 38))
      have hrowA := hide ((unhide hrow).of_block ((bel1 wr (.cells #[.string x.name, .int .i64 x.weight] 38)).block _ hrl))
      obtain ⟨k0, k1⟩ : (wr.alloc (.cells #[.string x.name, .int .i64 x.weight] 38)).cell? ⟨wr.heap.size, 0, none⟩ = some (.string x.name) ∧ (wr.alloc (.cells #[.string x.name, .int .i64 x.weight] 38)).cell? ⟨wr.heap.size, 1, none⟩ = some (.int .i64 x.weight) := by
        constructor <;> (rw [World.cell?_alloc_new]; rfl)
      have hbA : wr.heap.size < (wr.alloc (.cells #[.string x.name, .int .i64 x.weight] 38)).heap.size := by simp
      generalize (wr.alloc (.cells #[.string x.name, .int .i64 x.weight] 38)) = wa at hbelA hrowA k0 k1 hbA ⊢
      rw [← hbx] at k0 k1 hbA ⊢
      have hne : w1.heap.size < bx := by omega
      clear hbx hrb
      have HW : Hid (word x = (x.name ++ ⟨#[58]⟩) ++ u) := hwd
      have hrz := (unhide hrowA).lt
      have ad1 := fun w => run_string_add_sum (P := Tryd.prog) w x.name ⟨#[58]⟩ (by have : (⟨#[58]⟩ : ByteArray).size = 1 := rfl; omega)
      have ad2 := fun w => run_string_add_sum (P := Tryd.prog) w (x.name ++ ⟨#[58]⟩) u (by rw [ByteArray.size_append]; have : (⟨#[58]⟩ : ByteArray).size = 1 := rfl; omega)
      have HVa : Hid (Tab.Has wa.drew) := ((unhide HV).below (unhide hbelA)).below (Below.refl _ _).drew
      go_region_with (go_at_call 25; (refine (unhide HCI _ (unhide HVa)).mono ?_; rintro e wd ⟨rfl, hbd0⟩; have hbd := bdrew hbd0; clear hbd0; have rowd := (unhide hrowA).of_block (hbd.block _ hrz); have d0 := rowd.cell (i := k) hlt; have f0 := rowd.frozen k; have z0 := (hbd.cell (p := ⟨bx, 0, none⟩) hbA).trans k0; have z1 := (hbd.cell (p := ⟨bx, 1, none⟩) hbA).trans k1; have HBD := hide ((unhide hbelA).trans (hbd.mono (unhide hbelA).size)); have HROW := hide (rowd.set k (.string ((x.name ++ ⟨#[58]⟩) ++ u))); clear rowd hbd; generalize halfW l k k = o0 at d0))
      all_goals
        go_wp2
        go_roundw
        case rel => exact ⟨k + 1, by omega, by go_num, hide ((unhide HROW).congr (fun i _ => by rw [← unhide HW]; exact unhide hst i)), hide ((unhide HBD).setCell (by simp; omega) _)⟩
        case measure => simp [intOf]; omega
    · obtain rfl : k = l.length := by omega
      have hrowE := (unhide hrow).congr (g := fun i => .string ((words l).getD i ByteArray.empty)) (fun i hi => by unfold halfW; rw [if_pos hi, words_get l i hi])
      have hwl : (words l).length = l.length := by simp [words]
      have HJ := hide (fun w h1 h2 => Tryd.strings_Join w1.heap.size 0 l.length (words l) ⟨#[32]⟩ w h1 h2 (by omega) (by omega) (by
        rw [show (⟨#[32]⟩ : ByteArray).data.toList = [32] from rfl, text_all l]
        have := textTo_size (unhide HG) l.length (Nat.le_refl _)
        simp; omega))
      have hlt1 := hrowE.lt
      have hcl : Hid (∀ (j : Nat) x, (words l)[j]? = some x → wr.cell? ⟨w1.heap.size, 0 + j, none⟩ = some (.string x)) := fun j x h => by
        rw [Nat.zero_add, hrowE.cell (by rw [← hwl]; exact (List.getElem?_eq_some_iff.1 h).1), List.getD_eq_getElem?_getD, h]; rfl
      have HE : Hid ((⟨(Lib.join ((words l).map (·.data.toList)) (⟨#[32]⟩ : ByteArray).data.toList).toArray⟩ : ByteArray) = R) := by
        show (⟨_⟩ : ByteArray) = R
        rw [show (⟨#[32]⟩ : ByteArray).data.toList = [32] from rfl, text_all l, ← unhide HRT]
      rw [hwl] at HJ
      rw [unhide HE] at HJ
      clear hrowE hwl
      go_wp2_with fail
      refine (unhide HJ _ (unhide hcl) hlt1).mono ?_
      rintro e w2 ⟨rfl, hb2⟩
      have B2 := hide ((unhide hbel).trans (hb2.mono (unhide hbel).size))
      clear hb2
      go_wp2
      go_ret2
      exact ⟨rfl, unhide B2⟩
end Nt
end Go.Proofs.YteiecijgmdbajaaDoor
