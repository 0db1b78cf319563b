/-
  The model's l7Limit; the cells of a row of nodes.
-/
import Derived.Test.YtkodgbalhnbhcaaGreatDoorZ24
import Derived.Test.YtkodgbalhnbhcaaGreatDoorZ14
import Derived.Test.YtkodgbalhnbhcaaGreatDoorZ19
import Derived.Deep.RegionHeld3
import Derived.Deep.AppendLies
import Derived.WalkLawsBesides
import Derived.Outline
namespace Go.Proofs.YtkodgbalhnbhcaaGreatDoor
namespace Plc
open Go.RowKit Base Marks GoodKey
set_option linter.unusedVariables false

set_option maxRecDepth 10000 in
theorem limit_any (n : Int) (w : World) : Calls Tryz.prog 56 #[.int .i64 n] w fun e w' => e = .returned (.bool (inB n 0 10000)) ∧ w' = w := by
  have HI := hide (l1In_any n 0 10000 w)
  go_enter Tryz.func56, Tryz.ntmps56
  go_wp2_with fail
  refine (unhide HI).mono ?_
  rintro e w' ⟨rfl, h⟩
  rw [h]; clear h w'
  go_wp2
  go_ret
  exact ⟨rfl, rfl⟩
def nflat (l : List Nodes.D) : List Value := l.flatMap (fun x => [.string x.name, .int .i64 x.weight])
theorem nflat_len (l : List Nodes.D) : (nflat l).length = l.length * 2 := by
  induction l with
  | nil => rfl
  | cons x r ih =>
    have e : nflat (x :: r) = [.string x.name, .int .i64 x.weight] ++ nflat r := by simp [nflat]
    rw [e, List.length_append, ih]; simp; omega
theorem nflat_get : ∀ (l : List Nodes.D) (j : Nat), j < l.length * 2 → (nflat l)[j]? = some (Nodes.icell l j)
  | [], j, h => by simp at h
  | x :: r, j, h => by
    have e : nflat (x :: r) = [.string x.name, .int .i64 x.weight] ++ nflat r := by simp [nflat]
    rw [e]
    by_cases h2 : j < 2
    · rw [List.getElem?_append_left (by simpa using h2)]
      obtain rfl | rfl : j = 0 ∨ j = 1 := by omega
      all_goals simp [Nodes.icell]
    · obtain ⟨i, rfl⟩ : ∃ i, j = i + 2 := ⟨j - 2, by omega⟩
      rw [List.getElem?_append_right (by simp)]
      have ei : Nodes.icell (x :: r) (i + 2) = Nodes.icell r i := by
        unfold Nodes.icell
        rw [show (i + 2) % 2 = i % 2 by omega, show (i + 2) / 2 = i / 2 + 1 by omega]
        simp
      rw [ei]
      simp only [List.length_cons, List.length_nil, Nat.zero_add, Nat.add_sub_cancel]
      exact nflat_get r i (by simp at h; omega)
theorem nflat_one {l : List Nodes.D} {u : Value} (h : u ∈ nflat l) : u.oneCell' = true := by
  obtain ⟨x, _, hx⟩ := List.mem_flatMap.1 h
  simp only [List.mem_cons, List.not_mem_nil, or_false] at hx
  rcases hx with rfl | rfl <;> rfl
theorem nflat_cells {w : World} {b off : Nat} {l : List Nodes.D} (hc : ∀ i, i < l.length → Nodes.At w b (off + i * 2) (l.getD i Nodes.zero)) (j : Nat) (u : Value) (hj : (nflat l)[j]? = some u) : w.cell? ((⟨b, off, none⟩ : Addr).add j) = some u := by
  have hlt : j < l.length * 2 := by rw [← nflat_len]; exact (List.getElem?_eq_some_iff.1 hj).1
  rw [Go.WideShapes.add_plain]
  rw [nflat_get l j hlt] at hj
  obtain rfl := Option.some.inj hj
  obtain ⟨h0, h1⟩ := hc (j / 2) (by omega)
  unfold Nodes.icell
  by_cases h2 : j % 2 = 0
  · rw [if_pos h2]; rw [show off + j / 2 * 2 = off + j by omega] at h0; exact h0
  · rw [if_neg h2]; rw [show off + j / 2 * 2 + 1 = off + j by omega] at h1; exact h1
theorem own_empty {w : World} {g base : Nat} {t : TypeId} {size : Nat} (h : w.heap[g]? = some (.cells #[] t (0, 0))) (hg : base ≤ g) : w.ownsRow base t size (.slice (some ⟨g, 0, none⟩) 0 0) 0 [] :=
  ⟨by simp, .inr ⟨g, 0, #[], rfl, hg, h, Nat.le_refl _, Nat.zero_le _, by simp, by simp⟩⟩
end Plc
end Go.Proofs.YtkodgbalhnbhcaaGreatDoor
/-
  The program's copyOfNodes: nodes again, in a row of their own.
-/
namespace Go.Proofs.YtkodgbalhnbhcaaGreatDoor
namespace Clus
open Go.RowKit Base Marks Plc OwnR
set_option linter.unusedVariables false

theorem below_drew {B : Nat} {w w1 : World} (h : Below B w.drew w1) : Below B w w1 := ⟨h.os, h.tape, h.output, h.size, h.block⟩
theorem far {w1 w3 : World} {o : Obj} {r : Option Nat} {bx k : Nat} {u : Value} (hg : (w1.alloc o).grownBy w3 r) (hr : r ≠ some bx) (hb : bx < w1.heap.size) (h : w1.cell? ⟨bx, k, none⟩ = some u) : w3.cell? ⟨bx, k, none⟩ = some u :=
  (World.cell?_of_block (a := ⟨bx, k, none⟩) (hg.block bx (by rw [World.size_alloc]; omega) (fun e => hr e.symm))).trans ((World.cell?_of_block (a := ⟨bx, k, none⟩) (Below.heap_alloc w1 o bx hb)).trans h)
theorem info_nd : ∃ i, Tryz.prog.info? 76 = some i ∧ i.zero = some (.agg #[.string ByteArray.empty, .int .i64 0]) ∧ i.size = 2 ∧ i.bytes = 24 := by
  have h : (Tryz.prog.info? 76).map (fun i => (i.zero, i.size, i.bytes)) = some (some (.agg #[.string ByteArray.empty, .int .i64 0]), 2, 24) := by kernel_rfl
  obtain ⟨i, hi, hz⟩ := Option.map_eq_some_iff.1 h
  simp only [Prod.mk.injEq] at hz
  exact ⟨i, hi, hz.1, hz.2.1, hz.2.2⟩
def ncells (x : Nodes.D) : List Value := [.string x.name, .int .i64 x.weight]
theorem nd_one (x : Nodes.D) (u : Value) (hu : u ∈ ncells x) : u.oneCell' = true := by
  simp only [ncells, List.mem_cons, List.not_mem_nil, or_false] at hu
  rcases hu with rfl | rfl <;> rfl
theorem nd_cells (w : World) (x : Nodes.D) (t : TypeId) (j : Nat) (u : Value) (hj : (ncells x)[j]? = some u) : (w.alloc (.cells #[.string x.name, .int .i64 x.weight] t)).cell? ((⟨w.heap.size, 0, none⟩ : Addr).add j) = some u := by
  rw [Go.WideShapes.add_plain, Nat.zero_add, World.cell?_alloc_new]
  show (ncells x).toArray[j]? = some u
  simpa using hj
theorem nflat_snoc {l : List Nodes.D} {k : Nat} (hk : k < l.length) : nflat (l.take (k + 1)) = nflat (l.take k) ++ ncells (l.getD k Nodes.zero) := by
  have e : l.getD k Nodes.zero = l[k] := by simp [hk]
  rw [List.take_succ_eq_append_getElem hk, e]
  unfold nflat
  rw [List.flatMap_append]
  rfl

set_option maxRecDepth 10000 in
set_option maxHeartbeats 2000000 in
theorem copy_some (b off cap : Nat) (l : List Nodes.D) (w : World) (hb : b < w.heap.size) (hc : ∀ i, i < l.length → Nodes.At w b (off + i * 2) (l.getD i Nodes.zero)) (hl : l.length ≤ 1000) (hs : ∀ x ∈ l, x.name.size ≤ 1048576) :
    Calls Tryz.prog 110 #[.slice (some ⟨b, off, none⟩) l.length cap] w fun e w' => ∃ a cap, e = .returned (.slice a l.length cap) ∧ w'.ownsRow w.heap.size 76 2 (.slice a l.length cap) l.length (nflat l) ∧ Below w.heap.size w w' := by
  obtain ⟨i0, hi, hz0, hz1, hz2⟩ := info_nd
  have HI := hide hi
  have HZ0 := hide hz0
  have HZ1 := hide hz1
  have HZ2 := hide hz2
  have HC := hide hc
  have HS := hide hs
  clear hc hs hi hz0 hz1 hz2
  go_enter Tryz.func110, Tryz.ntmps110
  go_wp2_with fail
  go_loopw [3, 8] (fun ov iv wr => ∃ (k : Nat) (oa : Option Addr) (oc : Nat), k ≤ l.length ∧ iv = .int .i64 (k : Int) ∧ ov = .slice oa k oc ∧ Hid (wr.ownsRow w.heap.size 76 2 (.slice oa k oc) k (nflat (l.take k))) ∧ Hid (Below w.heap.size w wr)) (fun _ iv _ => l.length - (intOf iv).toNat)
  case atStart => exact ⟨0, none, 0, Nat.zero_le _, rfl, rfl, hide (World.ownsRow_nil _ _ _ _), hide (Below.refl _ _)⟩
  case round =>
    obtain ⟨k, oa, oc, hk, rfl, rfl, how, hbk⟩ := hrel
    have hzk := (unhide hbk).size
    by_cases hlt : k < l.length
    · obtain ⟨c0, c1⟩ := (unhide HC k hlt).below (unhide hbk) hb
      have HST := hide (nflat_snoc hlt)
      have hsz : (l.getD k Nodes.zero).name.size ≤ 1048576 := unhide HS _ (by rw [List.getD_eq_getElem?_getD, List.getElem?_eq_getElem hlt]; simp)
      generalize l.getD k Nodes.zero = nd at c0 c1 HST hsz
      have HCL := hide (fun w' => CloneS.clone_any nd.name w' hsz)
      go_wp2_with fail
      have d0 : (wr.alloc (.cells #[.string nd.name, .int .i64 nd.weight] 76)).cell? ⟨wr.heap.size, 0, none⟩ = some (.string nd.name) := by rw [World.cell?_alloc_new]; rfl
      have d1 : (wr.alloc (.cells #[.string nd.name, .int .i64 nd.weight] 76)).cell? ⟨wr.heap.size, 1, none⟩ = some (.int .i64 nd.weight) := by rw [World.cell?_alloc_new]; rfl
      have OW := hide ((unhide how).alloc (.cells #[.string nd.name, .int .i64 nd.weight] 76))
      have BW := hide ((unhide hbk).alloc hzk (.cells #[.string nd.name, .int .i64 nd.weight] 76))
      have hbx : wr.heap.size < (wr.alloc (.cells #[.string nd.name, .int .i64 nd.weight] 76)).heap.size := by simp
      have HNE : Hid ((Value.slice oa k oc).ownBlock ≠ some wr.heap.size) := fun e => by have := ((unhide how).lt _ e).2; omega
      generalize wr.alloc (.cells #[.string nd.name, .int .i64 nd.weight] 76) = W at d0 d1 OW BW hbx ⊢
      clear c0 c1 how hbk
      generalize wr.heap.size = bx at d0 d1 hbx hzk HNE ⊢
      have hzW := (unhide BW).size
      go_region_held3 (fun w' => w'.cell? ⟨bx, 0, none⟩ = some (.string nd.name) ∧ w'.cell? ⟨bx, 1, none⟩ = some (.int .i64 nd.weight)) (first | go_keep | (refine ⟨?_, ?_⟩ <;> first | assumption | (simp [*]; done) | (simp; omega))) (first | (go_at_call 74; refine (unhide HCL _).mono ?_; rintro e w1 ⟨rfl, hb1⟩; have q1 := (hb1.cell (p := ⟨bx, 0, none⟩) hbx).trans d0; have q2 := (hb1.cell (p := ⟨bx, 1, none⟩) hbx).trans d1; have hz1 : W.heap.size ≤ w1.heap.size := hb1.size; have HB1 := hide hb1) | (refine step_append_lies _ (by rfl) _ _ _ (by rfl) w.heap.size 76 i0 _ 2 24 Tryz.underlying27 (unhide HI) (unhide HZ0) (unhide HZ1) (unhide HZ2) rfl (by decide) _ _ _ (by rfl) (own_below (own_below (unhide OW) (below_drew (unhide HB1)) (Nat.le_refl _)) (bel1 _ _) (Nat.le_refl _)) ⟨w1.heap.size, 0, none⟩ 1 1 (ncells nd) (by rfl) rfl (nd_cells w1 nd _) (nd_one nd) (by omega) (by unfold maxLen; omega) (by omega) (by rw [World.size_alloc]; omega) (w1.heap.size + 1) (by simp) ?_; intro g cap w3 hown3 hgrow hat hlt3; have q3 := far hgrow (unhide HNE) (by omega) q1; have q4 := far hgrow (unhide HNE) (by omega) q2))
      have HO3 : Hid (w3.ownsRow w.heap.size 76 2 (.slice (some ⟨g, 0, none⟩) (k + 1) cap) (k + 1) (nflat (l.take (k + 1)))) := by rw [unhide HST]; exact hown3
      have HB3 := hide (((((unhide BW).drew).trans ((unhide HB1).mono hzW)).alloc (by omega) _).grown hgrow (by rw [World.size_alloc]; omega) (own_block (unhide OW)))
      clear hown3 hgrow hat q1 q2 q3 q4
      go_wp2
      go_roundw
      case rel => exact ⟨k + 1, some ⟨g, 0, none⟩, cap, by omega, by go_num, rfl, HO3, HB3⟩
      case measure => simp [intOf]; omega
    · obtain rfl : k = l.length := by omega
      rw [List.take_length] at how
      go_wp2
      go_ret
      exact ⟨oa, oc, rfl, unhide how, unhide hbk⟩
set_option maxRecDepth 10000 in
theorem copy_any (a : Option Addr) (cap : Nat) (l : List Nodes.D) (w : World) (h : Nodes.LAt w a l) (hl : l.length ≤ 1000) (hs : ∀ x ∈ l, x.name.size ≤ 1048576) :
    Calls Tryz.prog 110 #[.slice a l.length cap] w fun e w' => ∃ a cap, e = .returned (.slice a l.length cap) ∧ w'.ownsRow w.heap.size 76 2 (.slice a l.length cap) l.length (nflat l) ∧ Below w.heap.size w w' := by
  by_cases hne : l = []
  · subst hne
    go_enter Tryz.func110, Tryz.ntmps110
    go_wp2_with fail
    go_loopw [3, 8] (fun ov iv wr => ov = .slice none 0 0 ∧ iv = .int .i64 0 ∧ Hid (Below w.heap.size w wr)) (fun _ _ _ => 0)
    case atStart => exact ⟨rfl, rfl, hide (Below.refl _ _)⟩
    case round =>
      obtain ⟨rfl, rfl, hbk⟩ := hrel
      go_wp2
      go_ret
      exact ⟨none, 0, rfl, World.ownsRow_nil _ _ _ _, unhide hbk⟩
  · obtain ⟨b, off, rfl, hb, hc⟩ := h hne
    exact copy_some b off cap l w hb hc hl hs
end Clus
end Go.Proofs.YtkodgbalhnbhcaaGreatDoor
/-
  The model's l7At: which place has a name.
-/
namespace Go.Proofs.YtkodgbalhnbhcaaGreatDoor
namespace Clus
open Go.RowKit Base
set_option linter.unusedVariables false

def isAt (nm : ByteArray) (x : Pls.Pl) : Bool := x.name.toList == nm.toList
def plN (L : List Pls.Pl) (nm : ByteArray) : Option Nat := L.findIdx? (isAt nm)
def plI (L : List Pls.Pl) (nm : ByteArray) : Int := match plN L nm with | some k => k | none => -1
theorem plN_hit {L : List Pls.Pl} {nm : ByteArray} {k : Nat} (hk : k < L.length) (hn : ∀ j, j < k → isAt nm (L.getD j Pls.zeroL) = false) (h : isAt nm (L.getD k Pls.zeroL) = true) : plN L nm = some k := by
  unfold plN
  rw [List.findIdx?_eq_some_iff_getElem]
  refine ⟨hk, ?_, fun j hj => ?_⟩
  · simpa [List.getD_eq_getElem?_getD, List.getElem?_eq_getElem hk] using h
  · have := hn j hj
    rw [List.getD_eq_getElem?_getD, List.getElem?_eq_getElem (show j < L.length by omega)] at this
    simpa using this
theorem plN_none {L : List Pls.Pl} {nm : ByteArray} (hn : ∀ j, j < L.length → isAt nm (L.getD j Pls.zeroL) = false) : plN L nm = none := by
  unfold plN
  rw [List.findIdx?_eq_none_iff]
  intro x hx
  obtain ⟨j, hj, rfl⟩ := List.getElem_of_mem hx
  have := hn j hj
  rw [List.getD_eq_getElem?_getD, List.getElem?_eq_getElem hj] at this
  simpa using this
theorem plN_lt {L : List Pls.Pl} {nm : ByteArray} {k : Nat} (h : plN L nm = some k) : k < L.length := by
  unfold plN at h
  exact (List.findIdx?_eq_some_iff_getElem.1 h).1

set_option maxRecDepth 10000 in
set_option maxHeartbeats 1000000 in
theorem l7At_some (now nx lim lost : Int) (v4 v5 : Value) (b off cap : Nat) (L : List Pls.Pl) (nm : ByteArray) (w : World) (hb : b < w.heap.size) (hc : ∀ i, i < L.length → Pls.PlAt w b (off + i * 4) (L.getD i Pls.zeroL)) (hl : L.length ≤ 1048576)
    (na : Option Addr) (nn nc : Nat) (ca : Option Addr) (cn cc : Nat) (h4 : v4 = .slice na nn nc) (h5 : v5 = .slice ca cn cc) :
    Calls Tryz.prog 31 #[.agg #[.int .i64 now, .int .i64 nx, .int .i64 lim, .int .i64 lost, v4, v5, .slice (some ⟨b, off, none⟩) L.length cap], .string nm] w fun e w' => e = .returned (.int .i64 (plI L nm)) ∧ Below w.heap.size w w' := by
  subst h4 h5
  have hcs := hide hc
  clear hc
  go_enter Tryz.func31, Tryz.ntmps31
  go_wp2
  go_loopw [10] (fun i wr => ∃ (k : Nat), k ≤ L.length ∧ i = .int .i64 k ∧ Hid (∀ j, j < k → isAt nm (L.getD j Pls.zeroL) = false) ∧ Hid (Below w.heap.size w wr)) (fun i _ => L.length - (intOf i).toNat)
  case atStart => exact ⟨0, Nat.zero_le _, rfl, hide (fun j hj => by omega), hide (bel1 w _)⟩
  case round =>
    obtain ⟨k, hk, rfl, hn, hbel⟩ := hrel
    by_cases hlt : k < L.length
    · obtain ⟨c0, c1, c2, c3⟩ := (unhide hcs k hlt).below (unhide hbel) hb
      have hhit := hide (@plN_hit L nm k hlt (unhide hn))
      have hmiss : Hid (isAt nm (L.getD k Pls.zeroL) = false → ∀ j, j < k + 1 → isAt nm (L.getD j Pls.zeroL) = false) := by
        intro h j hj
        by_cases e : j = k
        · rw [e]; exact h
        · exact unhide hn j (by omega)
      generalize L.getD k Pls.zeroL = x at c0 c1 c2 c3 hhit hmiss
      have hzb := (unhide hbel).size
      cases e : (x.name.toList == nm.toList)
      · have H := hide (unhide hmiss e)
        clear hhit hmiss
        go_wp2
        go_roundw
        case rel => exact ⟨k + 1, by omega, by go_num, H, hide ((unhide hbel).alloc hzb _)⟩
        case measure => simp [intOf]; omega
      · have H : Hid (plI L nm = k) := by show plI L nm = k; rw [plI, unhide hhit e]
        clear hhit hmiss
        go_wp2
        go_ret
        exact ⟨ret_int (unhide H).symm, (unhide hbel).alloc hzb _⟩
    · obtain rfl : k = L.length := by omega
      have H : Hid (plI L nm = -1) := by show plI L nm = -1; rw [plI, plN_none (unhide hn)]
      go_wp2
      go_ret
      exact ⟨ret_int (unhide H).symm, unhide hbel⟩
end Clus
end Go.Proofs.YtkodgbalhnbhcaaGreatDoor
