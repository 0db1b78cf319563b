/-
  The program's copyOfNodes: nodes again, in a row of their own.
-/
import Derived.Test.YtkodgbalhnbhcaaGreatDoorZ18
import Derived.Test.YtkodgbalhnbhcaaGreatDoorCloneS
import Derived.Deep.RegionHeld3
import Derived.Deep.AppendLies
import Derived.WalkLawsBesides
import Derived.Outline
import Derived.Test.YtkodgbalhnbhcaaGreatDoorZ11
import Derived.Test.YtkodgbalhnbhcaaGreatDoorZ13
import Derived.OneCell
namespace Go.Proofs.YtkodgbalhnbhcaaGreatDoor
namespace Clus
open Go.RowKit Base Marks Plc OwnR
set_option linter.unusedVariables false

theorem below_drew {B : Nat} {w w1 : World} (h : Below B w.drew w1) : Below B w w1 := ⟨h.os, h.tape, h.output, h.size, h.block⟩
theorem far {w1 w3 : World} {o : Obj} {r : Option Nat} {bx k : Nat} {u : Value} (hg : (w1.alloc o).grownBy w3 r) (hr : r ≠ some bx) (hb : bx < w1.heap.size) (h : w1.cell? ⟨bx, k, none⟩ = some u) : w3.cell? ⟨bx, k, none⟩ = some u :=
  (World.cell?_of_block (a := ⟨bx, k, none⟩) (hg.block bx (by rw [World.size_alloc]; omega) (fun e => hr e.symm))).trans ((World.cell?_of_block (a := ⟨bx, k, none⟩) (Below.heap_alloc w1 o bx hb)).trans h)
theorem info_nd : ∃ i, Tryz.prog.info? 76 = some i ∧ i.zero = some (.agg #[.string ByteArray.empty, .int .i64 0]) ∧ i.size = 2 ∧ i.bytes = 24 := by
  have h : (Tryz.prog.info? 76).map (fun i => (i.zero, i.size, i.bytes)) = some (some (.agg #[.string ByteArray.empty, .int .i64 0]), 2, 24) := by kernel_rfl
  obtain ⟨i, hi, hz⟩ := Option.map_eq_some_iff.1 h
  simp only [Prod.mk.injEq] at hz
  exact ⟨i, hi, hz.1, hz.2.1, hz.2.2⟩
def ncells (x : Nodes.D) : List Value := [.string x.name, .int .i64 x.weight]
theorem nd_one (x : Nodes.D) (u : Value) (hu : u ∈ ncells x) : u.oneCell' = true := by
  simp only [ncells, List.mem_cons, List.not_mem_nil, or_false] at hu
  rcases hu with rfl | rfl <;> rfl
theorem nd_cells (w : World) (x : Nodes.D) (t : TypeId) (j : Nat) (u : Value) (hj : (ncells x)[j]? = some u) : (w.alloc (.cells #[.string x.name, .int .i64 x.weight] t)).cell? ((⟨w.heap.size, 0, none⟩ : Addr).add j) = some u := by
  rw [Go.WideShapes.add_plain, Nat.zero_add, World.cell?_alloc_new]
  show (ncells x).toArray[j]? = some u
  simpa using hj
theorem nflat_snoc {l : List Nodes.D} {k : Nat} (hk : k < l.length) : nflat (l.take (k + 1)) = nflat (l.take k) ++ ncells (l.getD k Nodes.zero) := by
  have e : l.getD k Nodes.zero = l[k] := by simp [hk]
  rw [List.take_succ_eq_append_getElem hk, e]
  unfold nflat
  rw [List.flatMap_append]
  rfl

set_option maxRecDepth 10000 in
set_option maxHeartbeats 2000000 in
theorem copy_some (b off cap : Nat) (l : List Nodes.D) (w : World) (hb : b < w.heap.size) (hc : ∀ i, i < l.length → Nodes.At w b (off + i * 2) (l.getD i Nodes.zero)) (hl : l.length ≤ 1000) (hs : ∀ x ∈ l, x.name.size ≤ 1048576) :
    Calls Tryz.prog 110 #[.slice (some ⟨b, off, none⟩) l.length cap] w fun e w' => ∃ a cap, e = .returned (.slice a l.length cap) ∧ w'.ownsRow w.heap.size 76 2 (.slice a l.length cap) l.length (nflat l) ∧ Below w.heap.size w w' := by
  obtain ⟨i0, hi, hz0, hz1, hz2⟩ := info_nd
  have HI := hide hi
  have HZ0 := hide hz0
  have HZ1 := hide hz1
  have HZ2 := hide hz2
  have HC := hide hc
  have HS := hide hs
  clear hc hs hi hz0 hz1 hz2
  go_enter Tryz.func110, Tryz.ntmps110
  go_wp2_with fail
  go_loopw [3, 8] (fun ov iv wr => ∃ (k : Nat) (oa : Option Addr) (oc : Nat), k ≤ l.length ∧ iv = .int .i64 (k : Int) ∧ ov = .slice oa k oc ∧ Hid (wr.ownsRow w.heap.size 76 2 (.slice oa k oc) k (nflat (l.take k))) ∧ Hid (Below w.heap.size w wr)) (fun _ iv _ => l.length - (intOf iv).toNat)
  case atStart => exact ⟨0, none, 0, Nat.zero_le _, rfl, rfl, hide (World.ownsRow_nil _ _ _ _), hide (Below.refl _ _)⟩
  case round =>
    obtain ⟨k, oa, oc, hk, rfl, rfl, how, hbk⟩ := hrel
    have hzk := (unhide hbk).size
    by_cases hlt : k < l.length
    · obtain ⟨c0, c1⟩ := (unhide HC k hlt).below (unhide hbk) hb
      have HST := hide (nflat_snoc hlt)
      have hsz : (l.getD k Nodes.zero).name.size ≤ 1048576 := unhide HS _ (by rw [List.getD_eq_getElem?_getD, List.getElem?_eq_getElem hlt]; simp)
      generalize l.getD k Nodes.zero = nd at c0 c1 HST hsz
      have HCL := hide (fun w' => CloneS.clone_any nd.name w' hsz)
      go_wp2_with fail
      have d0 : (wr.alloc (.cells #[.string nd.name, .int .i64 nd.weight] 76)).cell? ⟨wr.heap.size, 0, none⟩ = some (.string nd.name) := by rw [World.cell?_alloc_new]; rfl
      have d1 : (wr.alloc (.cells #[.string nd.name, .int .i64 nd.weight] 76)).cell? ⟨wr.heap.size, 1, none⟩ = some (.int .i64 nd.weight) := by rw [World.cell?_alloc_new]; rfl
      have OW := hide ((unhide how).alloc (.cells #[.string nd.name, .int .i64 nd.weight] 76))
      have BW := hide ((unhide hbk).alloc hzk (.cells #[.string nd.name, .int .i64 nd.weight] 76))
      have hbx : wr.heap.size < (wr.alloc (.cells #[.string nd.name, .int .i64 nd.weight] 76)).heap.size := by simp
      have HNE : Hid ((Value.slice oa k oc).ownBlock ≠ some wr.heap.size) := fun e => by have := ((unhide how).lt _ e).2; omega
      generalize wr.alloc (.cells #[.string nd.name, .int .i64 nd.weight] 76) = W at d0 d1 OW BW hbx ⊢
      clear c0 c1 how hbk
      generalize wr.heap.size = bx at d0 d1 hbx hzk HNE ⊢
      have hzW := (unhide BW).size
      go_region_held3 (fun w' => w'.cell? ⟨bx, 0, none⟩ = some (.string nd.name) ∧ w'.cell? ⟨bx, 1, none⟩ = some (.int .i64 nd.weight)) (first | go_keep | (refine ⟨?_, ?_⟩ <;> first | assumption | (simp [*]; done) | (simp; omega))) (first | (go_at_call 74; refine (unhide HCL _).mono ?_; rintro e w1 ⟨rfl, hb1⟩; have q1 := (hb1.cell (p := ⟨bx, 0, none⟩) hbx).trans d0; have q2 := (hb1.cell (p := ⟨bx, 1, none⟩) hbx).trans d1; have hz1 : W.heap.size ≤ w1.heap.size := hb1.size; have HB1 := hide hb1) | (refine step_append_lies _ (by rfl) _ _ _ (by rfl) w.heap.size 76 i0 _ 2 24 Tryz.underlying27 (unhide HI) (unhide HZ0) (unhide HZ1) (unhide HZ2) rfl (by decide) _ _ _ (by rfl) (own_below (own_below (unhide OW) (below_drew (unhide HB1)) (Nat.le_refl _)) (bel1 _ _) (Nat.le_refl _)) ⟨w1.heap.size, 0, none⟩ 1 1 (ncells nd) (by rfl) rfl (nd_cells w1 nd _) (nd_one nd) (by omega) (by unfold maxLen; omega) (by omega) (by rw [World.size_alloc]; omega) (w1.heap.size + 1) (by simp) ?_; intro g cap w3 hown3 hgrow hat hlt3; have q3 := far hgrow (unhide HNE) (by omega) q1; have q4 := far hgrow (unhide HNE) (by omega) q2))
      have HO3 : Hid (w3.ownsRow w.heap.size 76 2 (.slice (some ⟨g, 0, none⟩) (k + 1) cap) (k + 1) (nflat (l.take (k + 1)))) := by rw [unhide HST]; exact hown3
      have HB3 := hide (((((unhide BW).drew).trans ((unhide HB1).mono hzW)).alloc (by omega) _).grown hgrow (by rw [World.size_alloc]; omega) (own_block (unhide OW)))
      clear hown3 hgrow hat q1 q2 q3 q4
      go_wp2
      go_roundw
      case rel => exact ⟨k + 1, some ⟨g, 0, none⟩, cap, by omega, by go_num, rfl, HO3, HB3⟩
      case measure => simp [intOf]; omega
    · obtain rfl : k = l.length := by omega
      rw [List.take_length] at how
      go_wp2
      go_ret
      exact ⟨oa, oc, rfl, unhide how, unhide hbk⟩
set_option maxRecDepth 10000 in
theorem copy_any (a : Option Addr) (cap : Nat) (l : List Nodes.D) (w : World) (h : Nodes.LAt w a l) (hl : l.length ≤ 1000) (hs : ∀ x ∈ l, x.name.size ≤ 1048576) :
    Calls Tryz.prog 110 #[.slice a l.length cap] w fun e w' => ∃ a cap, e = .returned (.slice a l.length cap) ∧ w'.ownsRow w.heap.size 76 2 (.slice a l.length cap) l.length (nflat l) ∧ Below w.heap.size w w' := by
  by_cases hne : l = []
  · subst hne
    go_enter Tryz.func110, Tryz.ntmps110
    go_wp2_with fail
    go_loopw [3, 8] (fun ov iv wr => ov = .slice none 0 0 ∧ iv = .int .i64 0 ∧ Hid (Below w.heap.size w wr)) (fun _ _ _ => 0)
    case atStart => exact ⟨rfl, rfl, hide (Below.refl _ _)⟩
    case round =>
      obtain ⟨rfl, rfl, hbk⟩ := hrel
      go_wp2
      go_ret
      exact ⟨none, 0, rfl, World.ownsRow_nil _ _ _ _, unhide hbk⟩
  · obtain ⟨b, off, rfl, hb, hc⟩ := h hne
    exact copy_some b off cap l w hb hc hl hs
end Clus
end Go.Proofs.YtkodgbalhnbhcaaGreatDoor
/-
  The model's l7At: which place has a name.
-/
namespace Go.Proofs.YtkodgbalhnbhcaaGreatDoor
namespace Clus
open Go.RowKit Base
set_option linter.unusedVariables false

def isAt (nm : ByteArray) (x : Pls.Pl) : Bool := x.name.toList == nm.toList
def plN (L : List Pls.Pl) (nm : ByteArray) : Option Nat := L.findIdx? (isAt nm)
def plI (L : List Pls.Pl) (nm : ByteArray) : Int := match plN L nm with | some k => k | none => -1
theorem plN_hit {L : List Pls.Pl} {nm : ByteArray} {k : Nat} (hk : k < L.length) (hn : ∀ j, j < k → isAt nm (L.getD j Pls.zeroL) = false) (h : isAt nm (L.getD k Pls.zeroL) = true) : plN L nm = some k := by
  unfold plN
  rw [List.findIdx?_eq_some_iff_getElem]
  refine ⟨hk, ?_, fun j hj => ?_⟩
  · simpa [List.getD_eq_getElem?_getD, List.getElem?_eq_getElem hk] using h
  · have := hn j hj
    rw [List.getD_eq_getElem?_getD, List.getElem?_eq_getElem (show j < L.length by omega)] at this
    simpa using this
theorem plN_none {L : List Pls.Pl} {nm : ByteArray} (hn : ∀ j, j < L.length → isAt nm (L.getD j Pls.zeroL) = false) : plN L nm = none := by
  unfold plN
  rw [List.findIdx?_eq_none_iff]
  intro x hx
  obtain ⟨j, hj, rfl⟩ := List.getElem_of_mem hx
  have := hn j hj
  rw [List.getD_eq_getElem?_getD, List.getElem?_eq_getElem hj] at this
  simpa using this
theorem plN_lt {L : List Pls.Pl} {nm : ByteArray} {k : Nat} (h : plN L nm = some k) : k < L.length := by
  unfold plN at h
  exact (List.findIdx?_eq_some_iff_getElem.1 h).1

set_option maxRecDepth 10000 in
set_option maxHeartbeats 1000000 in
theorem l7At_some (now nx lim lost : Int) (v4 v5 : Value) (b off cap : Nat) (L : List Pls.Pl) (nm : ByteArray) (w : World) (hb : b < w.heap.size) (hc : ∀ i, i < L.length → Pls.PlAt w b (off + i * 4) (L.getD i Pls.zeroL)) (hl : L.length ≤ 1048576)
    (na : Option Addr) (nn nc : Nat) (ca : Option Addr) (cn cc : Nat) (h4 : v4 = .slice na nn nc) (h5 : v5 = .slice ca cn cc) :
    Calls Tryz.prog 31 #[.agg #[.int .i64 now, .int .i64 nx, .int .i64 lim, .int .i64 lost, v4, v5, .slice (some ⟨b, off, none⟩) L.length cap], .string nm] w fun e w' => e = .returned (.int .i64 (plI L nm)) ∧ Below w.heap.size w w' := by
  subst h4 h5
  have hcs := hide hc
  clear hc
  go_enter Tryz.func31, Tryz.ntmps31
  go_wp2
  go_loopw [10] (fun i wr => ∃ (k : Nat), k ≤ L.length ∧ i = .int .i64 k ∧ Hid (∀ j, j < k → isAt nm (L.getD j Pls.zeroL) = false) ∧ Hid (Below w.heap.size w wr)) (fun i _ => L.length - (intOf i).toNat)
  case atStart => exact ⟨0, Nat.zero_le _, rfl, hide (fun j hj => by omega), hide (bel1 w _)⟩
  case round =>
    obtain ⟨k, hk, rfl, hn, hbel⟩ := hrel
    by_cases hlt : k < L.length
    · obtain ⟨c0, c1, c2, c3⟩ := (unhide hcs k hlt).below (unhide hbel) hb
      have hhit := hide (@plN_hit L nm k hlt (unhide hn))
      have hmiss : Hid (isAt nm (L.getD k Pls.zeroL) = false → ∀ j, j < k + 1 → isAt nm (L.getD j Pls.zeroL) = false) := by
        intro h j hj
        by_cases e : j = k
        · rw [e]; exact h
        · exact unhide hn j (by omega)
      generalize L.getD k Pls.zeroL = x at c0 c1 c2 c3 hhit hmiss
      have hzb := (unhide hbel).size
      cases e : (x.name.toList == nm.toList)
      · have H := hide (unhide hmiss e)
        clear hhit hmiss
        go_wp2
        go_roundw
        case rel => exact ⟨k + 1, by omega, by go_num, H, hide ((unhide hbel).alloc hzb _)⟩
        case measure => simp [intOf]; omega
      · have H : Hid (plI L nm = k) := by show plI L nm = k; rw [plI, unhide hhit e]
        clear hhit hmiss
        go_wp2
        go_ret
        exact ⟨ret_int (unhide H).symm, (unhide hbel).alloc hzb _⟩
    · obtain rfl : k = L.length := by omega
      have H : Hid (plI L nm = -1) := by show plI L nm = -1; rw [plI, plN_none (unhide hn)]
      go_wp2
      go_ret
      exact ⟨ret_int (unhide H).symm, unhide hbel⟩
end Clus
end Go.Proofs.YtkodgbalhnbhcaaGreatDoor
/-
  The model's l7Own: a cluster again, in rows of its own.
-/
namespace Go.Proofs.YtkodgbalhnbhcaaGreatDoor
namespace Clus
open Go.RowKit Base OwnR Plc
set_option linter.unusedVariables false

/-- The box of a cluster. -/
def CB (w : World) (X : Nat) (now nx lim lost : Int) (v4 v5 v6 : Value) : Prop := w.heap[X]? = some (.cells #[.int .i64 now, .int .i64 nx, .int .i64 lim, .int .i64 lost, v4, v5, v6] 30 (0, 0))
theorem CB.cells {w : World} {X : Nat} {now nx lim lost : Int} {v4 v5 v6 : Value} (h : CB w X now nx lim lost v4 v5 v6) : w.cell? ⟨X, 0, none⟩ = some (.int .i64 now) ∧ w.cell? ⟨X, 1, none⟩ = some (.int .i64 nx) ∧ w.cell? ⟨X, 2, none⟩ = some (.int .i64 lim) ∧ w.cell? ⟨X, 3, none⟩ = some (.int .i64 lost) ∧ w.cell? ⟨X, 4, none⟩ = some v4 ∧ w.cell? ⟨X, 5, none⟩ = some v5 ∧ w.cell? ⟨X, 6, none⟩ = some v6 ∧ (∀ o, w.frozen? ⟨X, o, none⟩ = false) ∧ X < w.heap.size := by
  have h' : w.heap[X]? = some (.cells #[.int .i64 now, .int .i64 nx, .int .i64 lim, .int .i64 lost, v4, v5, v6] 30 (0, 0)) := h
  have hl : X < w.heap.size := (Array.getElem?_eq_some_iff.1 h').1
  refine ⟨?_, ?_, ?_, ?_, ?_, ?_, ?_, fun o => ?_, hl⟩ <;> simp [World.cell?, World.frozen?, h']
theorem CB.blk {w w' : World} {X : Nat} {now nx lim lost : Int} {v4 v5 v6 : Value} (h : CB w X now nx lim lost v4 v5 v6) (e : w'.heap[X]? = w.heap[X]?) : CB w' X now nx lim lost v4 v5 v6 := e.trans h
theorem CB.below {w w' : World} {X B : Nat} {now nx lim lost : Int} {v4 v5 v6 : Value} (h : CB w X now nx lim lost v4 v5 v6) (hb : Below B w w') (hX : X < B) : CB w' X now nx lim lost v4 v5 v6 := h.blk (hb.block X hX)
theorem CB.set4 {w : World} {X : Nat} {now nx lim lost : Int} {v4 v5 v6 : Value} (h : CB w X now nx lim lost v4 v5 v6) (v : Value) : CB (w.setCell ⟨X, 4, none⟩ v) X now nx lim lost v v5 v6 := by
  have h' : w.heap[X]? = _ := h
  unfold CB; simp [World.setCell, Array.getElem?_modify, h']
theorem CB.set5 {w : World} {X : Nat} {now nx lim lost : Int} {v4 v5 v6 : Value} (h : CB w X now nx lim lost v4 v5 v6) (v : Value) : CB (w.setCell ⟨X, 5, none⟩ v) X now nx lim lost v4 v v6 := by
  have h' : w.heap[X]? = _ := h
  unfold CB; simp [World.setCell, Array.getElem?_modify, h']
theorem CB.set6 {w : World} {X : Nat} {now nx lim lost : Int} {v4 v5 v6 : Value} (h : CB w X now nx lim lost v4 v5 v6) (v : Value) : CB (w.setCell ⟨X, 6, none⟩ v) X now nx lim lost v4 v5 v := by
  have h' : w.heap[X]? = _ := h
  unfold CB; simp [World.setCell, Array.getElem?_modify, h']
theorem CB.other {w : World} {X : Nat} {now nx lim lost : Int} {v4 v5 v6 : Value} (h : CB w X now nx lim lost v4 v5 v6) {p : Addr} (hp : p.block ≠ X) (v : Value) : CB (w.setCell p v) X now nx lim lost v4 v5 v6 := h.blk (Below.heap_setCell w p v X (fun e => hp e.symm))

theorem own_grown {w w' : World} {base : Nat} {e : TypeId} {size : Nat} {v : Value} {n : Nat} {xs : List Value} {r : Option Nat} (h : w.ownsRow base e size v n xs) (hg : w.grownBy w' r) (hne : ∀ k, v.ownBlock = some k → r ≠ some k) : w'.ownsRow base e size v n xs := by
  refine ⟨h.1, h.2.elim Or.inl ?_⟩
  rintro ⟨g, cap, cur, hv, hb, hh, r'⟩
  have hlt : g < w.heap.size := (Array.getElem?_eq_some_iff.1 hh).1
  exact Or.inr ⟨g, cap, cur, hv, hb, by rw [hg.block g hlt (fun e => hne g (by rw [hv]; rfl) e.symm)]; exact hh, r'⟩

theorem inews {w : World} {b : Nat} {t : TypeId} {l : List Items.Itm} (h : w.rowIs b t (l.length * 5) (Items.icell l)) (j : Nat) (u : Value) (hj : (Own.flat l)[j]? = some u) : w.cell? ((⟨b, 0, none⟩ : Addr).add j) = some u := by
  have hlt : j < l.length * 5 := by rw [← Own.flat_length]; exact (List.getElem?_eq_some_iff.1 hj).1
  rw [Own.flat_get l j hlt] at hj
  rw [Go.WideShapes.add_plain, Nat.zero_add, h.cell hlt]
  exact hj

def pcells (x : Pls.Pl) : List Value := [.string x.name, .int .i64 x.lim, .int .i64 x.nx, .slice x.a x.its.length x.cap]
def pflat (L : List Pls.Pl) : List Value := L.flatMap pcells
theorem pflat_append (a b : List Pls.Pl) : pflat (a ++ b) = pflat a ++ pflat b := by simp [pflat]
theorem pflat_single (x : Pls.Pl) : pflat [x] = pcells x := by simp [pflat]
theorem pcells_one (x : Pls.Pl) (u : Value) (hu : u ∈ pcells x) : u.oneCell' = true := by
  simp only [pcells, List.mem_cons, List.not_mem_nil, or_false] at hu
  rcases hu with rfl | rfl | rfl | rfl <;> rfl
theorem pnews (w : World) (x : Pls.Pl) (t : TypeId) (j : Nat) (u : Value) (hj : (pcells x)[j]? = some u) : (w.alloc (.cells #[.string x.name, .int .i64 x.lim, .int .i64 x.nx, .slice x.a x.its.length x.cap] t)).cell? ((⟨w.heap.size, 0, none⟩ : Addr).add j) = some u := by
  rw [Go.WideShapes.add_plain, Nat.zero_add, World.cell?_alloc_new]
  show (pcells x).toArray[j]? = some u
  simpa using hj
theorem info_pl : ∃ i, Tryz.prog.info? 59 = some i ∧ i.zero = some (.agg #[.string ByteArray.empty, .int .i64 0, .int .i64 0, .slice none 0 0]) ∧ i.size = 4 ∧ i.bytes = 56 := by
  have h : (Tryz.prog.info? 59).map (fun i => (i.zero, i.size, i.bytes)) = some (some (.agg #[.string ByteArray.empty, .int .i64 0, .int .i64 0, .slice none 0 0]), 4, 56) := by kernel_rfl
  obtain ⟨i, hi, hz⟩ := Option.map_eq_some_iff.1 h
  simp only [Prod.mk.injEq] at hz
  exact ⟨i, hi, hz.1, hz.2.1, hz.2.2⟩

/-- Places in a row that the call has made itself, the items of each in another. -/
structure PO (w : World) (B : Nat) (a : Option Addr) (n cap : Nat) (L : List Pls.Pl) : Prop where
  len : L.length = n
  row : w.ownsRow B 59 4 (.slice a n cap) n (pflat L)
  its : ∀ x ∈ L, w.ownsRow B 85 5 (.slice x.a x.its.length x.cap) x.its.length (Own.flat x.its)
  far : ∀ x ∈ L, ∀ g, (Value.slice x.a x.its.length x.cap).ownBlock = some g → (Value.slice a n cap).ownBlock ≠ some g
theorem PO.nil (w : World) (B : Nat) : PO w B none 0 0 [] := ⟨rfl, World.ownsRow_nil _ _ _ _, by simp, by simp⟩
theorem PO.below {w w' : World} {B C : Nat} {a : Option Addr} {n cap : Nat} {L : List Pls.Pl} (h : PO w B a n cap L) (hb : Below C w w') (hC : w.heap.size ≤ C) : PO w' B a n cap L :=
  ⟨h.len, own_below h.row hb hC, fun x hx => own_below (h.its x hx) hb hC, h.far⟩
theorem PO.le {w : World} {B C : Nat} {a : Option Addr} {n cap : Nat} {L : List Pls.Pl} (h : PO w B a n cap L) (hC : C ≤ B) : PO w C a n cap L :=
  ⟨h.len, own_le h.row hC, fun x hx => own_le (h.its x hx) hC, h.far⟩
theorem PO.set {w : World} {B : Nat} {a : Option Addr} {n cap : Nat} {L : List Pls.Pl} (h : PO w B a n cap L) {p : Addr} (hp : p.block < B) (v : Value) : PO (w.setCell p v) B a n cap L :=
  ⟨h.len, ownsRow_setCell_below h.row hp v, fun x hx => ownsRow_setCell_below (h.its x hx) hp v, h.far⟩
/-- One place more. -/
theorem PO.snoc {w w' : World} {B : Nat} {a : Option Addr} {n cap g c : Nat} {L : List Pls.Pl} {x : Pls.Pl} (h : PO w B a n cap L) (hx : w.ownsRow B 85 5 (.slice x.a x.its.length x.cap) x.its.length (Own.flat x.its)) (hxf : ∀ k, (Value.slice x.a x.its.length x.cap).ownBlock = some k → (Value.slice a n cap).ownBlock ≠ some k)
    (hrow : w'.ownsRow B 59 4 (.slice (some ⟨g, 0, none⟩) (n + 1) c) (n + 1) (pflat L ++ pcells x)) (hg : w.grownBy w' (Value.slice a n cap).ownBlock) (hat : (Value.slice a n cap).ownBlock = some g ∨ g = w.heap.size) : PO w' B (some ⟨g, 0, none⟩) (n + 1) c (L ++ [x]) := by
  have hall : ∀ y ∈ L ++ [x], w.ownsRow B 85 5 (.slice y.a y.its.length y.cap) y.its.length (Own.flat y.its) ∧ ∀ k, (Value.slice y.a y.its.length y.cap).ownBlock = some k → (Value.slice a n cap).ownBlock ≠ some k := by
    intro y hy
    rcases List.mem_append.1 hy with hy | hy
    · exact ⟨h.its y hy, h.far y hy⟩
    · obtain rfl := List.mem_singleton.1 hy
      exact ⟨hx, hxf⟩
  refine ⟨by rw [List.length_append, h.len]; rfl, by rw [pflat_append, pflat_single]; exact hrow, fun y hy => own_grown (hall y hy).1 hg (hall y hy).2, fun y hy k hk e => ?_⟩
  have e' : g = k := by simpa [Value.ownBlock] using e
  rcases hat with hat | hat
  · exact (hall y hy).2 k hk (by rw [hat, e'])
  · have := ((hall y hy).1.lt _ hk).2
    omega
theorem core_snoc {L M : List Pls.Pl} {k : Nat} {y : Pls.Pl} (hk : k < L.length) (h : M.map Pls.core = (L.take k).map Pls.core) (hy : Pls.core y = Pls.core (L.getD k Pls.zeroL)) : (M ++ [y]).map Pls.core = (L.take (k + 1)).map Pls.core := by
  have e : L.getD k Pls.zeroL = L[k] := by simp [hk]
  rw [List.take_succ_eq_append_getElem hk, List.map_append, List.map_append, h, List.map_cons, List.map_cons, hy, e]

/-- How l7Own ends. -/
def OwnEnd (now nx lim lost : Int) (ns cs : List Nodes.D) (L : List Pls.Pl) (w : World) (e : Ending) (w' : World) : Prop :=
  ∃ a1 c1 a2 c2 a3 c3 M, e = .returned (.agg #[.int .i64 now, .int .i64 nx, .int .i64 lim, .int .i64 lost, .slice a1 ns.length c1, .slice a2 cs.length c2, .slice a3 L.length c3]) ∧ w'.ownsRow w.heap.size 76 2 (.slice a1 ns.length c1) ns.length (nflat ns) ∧ w'.ownsRow w.heap.size 76 2 (.slice a2 cs.length c2) cs.length (nflat cs) ∧ PO w' w.heap.size a3 L.length c3 M ∧ (∀ q, (Value.slice a1 ns.length c1).ownBlock = some q → (Value.slice a3 L.length c3).ownBlock ≠ some q) ∧ (∀ q, (Value.slice a2 cs.length c2).ownBlock = some q → (Value.slice a3 L.length c3).ownBlock ≠ some q) ∧ M.map Pls.core = L.map Pls.core ∧ Below w.heap.size w w'

set_option maxRecDepth 10000 in
set_option maxHeartbeats 2000000 in
theorem own_spec (now nx lim lost : Int) (b1 b2 b3 : Nat) (ns cs : List Nodes.D) (L : List Pls.Pl) (w : World) (hR : CR w b1 b2 b3 ns cs L) (ln : ns.length ≤ 1000) (lc : cs.length ≤ 1000) (lp : L.length ≤ 1000) (li : ∀ x ∈ L, x.its.length ≤ 1000) :
    Calls Tryz.prog 32 #[.agg #[.int .i64 now, .int .i64 nx, .int .i64 lim, .int .i64 lost, .slice (some ⟨b1, 0, none⟩) ns.length ns.length, .slice (some ⟨b2, 0, none⟩) cs.length cs.length, .slice (some ⟨b3, 0, none⟩) L.length L.length]] w (OwnEnd now nx lim lost ns cs L w) := by
  obtain ⟨i0, hi, hz0, hz1, hz2⟩ := info_nd
  have HI := hide hi
  have HZ0 := hide hz0
  have HZ1 := hide hz1
  have HZ2 := hide hz2
  clear hi hz0 hz1 hz2
  obtain ⟨j0, hi, hz0, hz1, hz2⟩ := info_pl
  have JI := hide hi
  have JZ0 := hide hz0
  have JZ1 := hide hz1
  have JZ2 := hide hz2
  clear hi hz0 hz1 hz2
  have HR := hide hR
  have HLI := hide li
  obtain ⟨W, hW⟩ : ∃ W, W = (w.alloc (.cells #[.int .i64 now, .int .i64 nx, .int .i64 lim, .int .i64 lost, .slice (some ⟨b1, 0, none⟩) ns.length ns.length, .slice (some ⟨b2, 0, none⟩) cs.length cs.length, .slice (some ⟨b3, 0, none⟩) L.length L.length] 30)).alloc (.cells #[.int .i64 0, .int .i64 0, .int .i64 0, .int .i64 0, .slice none 0 0, .slice none 0 0, .slice none 0 0] 30) := ⟨_, rfl⟩
  have BW : Hid (Below w.heap.size w W) := by rw [hW]; exact bel2 w _ _
  have hzW : w.heap.size + 2 ≤ W.heap.size := by rw [hW]; simp
  have CX : Hid (CB W w.heap.size now nx lim lost (.slice (some ⟨b1, 0, none⟩) ns.length ns.length) (.slice (some ⟨b2, 0, none⟩) cs.length cs.length) (.slice (some ⟨b3, 0, none⟩) L.length L.length)) := by
    rw [hW]; exact ((bel1 (w.alloc _) _).block w.heap.size (by simp)).trans (heap_alloc_new w _)
  have CY : Hid (CB W (w.heap.size + 1) 0 0 0 0 (.slice none 0 0) (.slice none 0 0) (.slice none 0 0)) := by
    rw [hW]
    have := heap_alloc_new (w.alloc (.cells #[.int .i64 now, .int .i64 nx, .int .i64 lim, .int .i64 lost, .slice (some ⟨b1, 0, none⟩) ns.length ns.length, .slice (some ⟨b2, 0, none⟩) cs.length cs.length, .slice (some ⟨b3, 0, none⟩) L.length L.length] 30)) (.cells #[.int .i64 0, .int .i64 0, .int .i64 0, .int .i64 0, .slice none 0 0, .slice none 0 0, .slice none 0 0] 30)
    rw [World.size_alloc] at this
    exact this
  have HW := hide hW
  have N1 : Hid (∀ o, ∀ j u, (nflat ns)[j]? = some u → (W.alloc o).cell? ((⟨b1, 0, none⟩ : Addr).add j) = some u) := fun o => nflat_cells (Nodes.at_row ((hR.below (unhide BW) (Nat.le_refl _)).below (bel1 W o) (Nat.le_refl _)).n)
  have E1 : Hid ((W.alloc (.cells #[] 76)).ownsRow W.heap.size 76 2 (.slice (some ⟨W.heap.size, 0, none⟩) 0 0) 0 []) := World.ownsRow_lit (e := 76) (size := 2) W #[] 0 (Nat.le_refl _) (by decide) rfl
  clear hR li hW
  go_enter Tryz.func32, Tryz.ntmps32
  go_upto_region 1 with fail
  rw [← unhide HW]
  obtain ⟨x0, x1, x2, x3, x4, x5, x6, xf, xz⟩ := (unhide CX).cells
  go_wp2_with (at_builtin; go_loud (refine wpList_append_own _ rfl _ _ 27 rfl W.heap.size 76 i0 _ 2 24 Tryz.underlying27 (unhide HI) (unhide HZ0) (unhide HZ1) (unhide HZ2) rfl (by decide) _ _ _ rfl (unhide E1) ⟨b1, 0, none⟩ ns.length ns.length (nflat ns) rfl (nflat_len ns) (unhide N1 _) (fun u hu => nflat_one hu) ?c1 ?c2 ?c3 ?_))
  case c1 => unfold maxLen; omega
  case c2 => omega
  case c3 => simp
  intro v1 w1 hown1 hgrow1 _
  obtain ⟨a1, c1, rfl⟩ := own_form hown1
  have O1 : Hid (w1.ownsRow W.heap.size 76 2 (.slice a1 ns.length c1) ns.length (nflat ns)) := hown1
  have B1 := hide ((bel1 W _).grown hgrow1 (by simp) (own_block (unhide E1)))
  clear hown1 hgrow1 N1 E1 HW
  have X1 := hide ((unhide CX).below (unhide B1) xz)
  have Y1 := hide ((unhide CY).below (unhide B1) (by omega))
  clear x0 x1 x2 x3 x4 x5 x6 xf xz CX CY
  obtain ⟨x0, x1, x2, x3, x4, x5, x6, xf, xz⟩ := (unhide X1).cells
  go_upto_region 2 with fail
  have X2 := hide ((unhide X1).set4 (.slice a1 ns.length c1))
  have Y2 := hide ((unhide Y1).other (p := ⟨w.heap.size, 4, none⟩) (by show w.heap.size ≠ w.heap.size + 1; omega) (.slice a1 ns.length c1))
  have O2 := hide (ownsRow_setCell_below (unhide O1) (a := ⟨w.heap.size, 4, none⟩) (by show w.heap.size < W.heap.size; omega) (.slice a1 ns.length c1))
  have B2 : Hid (Below w.heap.size w (w1.setCell ⟨w.heap.size, 4, none⟩ (.slice a1 ns.length c1))) := ((unhide BW).trans ((unhide B1).mono (by omega))).setCell (p := ⟨w.heap.size, 4, none⟩) (Nat.le_refl _) _
  have hz2 : w.heap.size + 2 ≤ (w1.setCell ⟨w.heap.size, 4, none⟩ (.slice a1 ns.length c1)).heap.size := by have := (unhide B1).size; simp; omega
  clear x0 x1 x2 x3 x4 x5 x6 xf xz X1 Y1 O1 B1 BW
  generalize w1.setCell ⟨w.heap.size, 4, none⟩ (.slice a1 ns.length c1) = w2 at X2 Y2 O2 B2 hz2 ⊢
  have O2 := hide (own_le (unhide O2) hzW)
  clear hzW
  have N1 : Hid (∀ o, ∀ j u, (nflat cs)[j]? = some u → (w2.alloc o).cell? ((⟨b2, 0, none⟩ : Addr).add j) = some u) := fun o => nflat_cells (Nodes.at_row (((unhide HR).below (unhide B2) (Nat.le_refl _)).below (bel1 w2 o) (Nat.le_refl _)).c)
  have E1 : Hid ((w2.alloc (.cells #[] 76)).ownsRow w2.heap.size 76 2 (.slice (some ⟨w2.heap.size, 0, none⟩) 0 0) 0 []) := World.ownsRow_lit (e := 76) (size := 2) w2 #[] 0 (Nat.le_refl _) (by decide) rfl
  obtain ⟨x0, x1, x2, x3, x4, x5, x6, xf, xz⟩ := (unhide X2).cells
  go_wp2_with (at_builtin; go_loud (refine wpList_append_own _ rfl _ _ 27 rfl w2.heap.size 76 i0 _ 2 24 Tryz.underlying27 (unhide HI) (unhide HZ0) (unhide HZ1) (unhide HZ2) rfl (by decide) _ _ _ rfl (unhide E1) ⟨b2, 0, none⟩ cs.length cs.length (nflat cs) rfl (nflat_len cs) (unhide N1 _) (fun u hu => nflat_one hu) ?c4 ?c5 ?c6 ?_))
  case c4 => unfold maxLen; omega
  case c5 => omega
  case c6 => simp
  intro v3 w3 hown3 hgrow3 _
  obtain ⟨a2, c2, rfl⟩ := own_form hown3
  have P3 : Hid (w3.ownsRow w2.heap.size 76 2 (.slice a2 cs.length c2) cs.length (nflat cs)) := hown3
  have B3 := hide ((bel1 w2 _).grown hgrow3 (by simp) (own_block (unhide E1)))
  clear hown3 hgrow3 N1 E1
  have X3 := hide ((unhide X2).below (unhide B3) xz)
  have Y3 := hide ((unhide Y2).below (unhide B3) (by omega))
  have O3 := hide (own_below (unhide O2) (unhide B3) (Nat.le_refl _))
  clear x0 x1 x2 x3 x4 x5 x6 xf xz X2 Y2 O2
  obtain ⟨x0, x1, x2, x3, x4, x5, x6, xf, xz⟩ := (unhide X3).cells
  go_upto_region 3 with fail
  have X4 := hide ((unhide X3).set5 (.slice a2 cs.length c2))
  have Y4 := hide ((unhide Y3).other (p := ⟨w.heap.size, 5, none⟩) (by show w.heap.size ≠ w.heap.size + 1; omega) (.slice a2 cs.length c2))
  have O4 := hide (ownsRow_setCell_below (unhide O3) (a := ⟨w.heap.size, 5, none⟩) (by show w.heap.size < w.heap.size + 2; omega) (.slice a2 cs.length c2))
  have P4 := hide (ownsRow_setCell_below (own_le (unhide P3) hz2) (a := ⟨w.heap.size, 5, none⟩) (by show w.heap.size < w.heap.size + 2; omega) (.slice a2 cs.length c2))
  have B4 : Hid (Below w.heap.size w (w3.setCell ⟨w.heap.size, 5, none⟩ (.slice a2 cs.length c2))) := ((unhide B2).trans ((unhide B3).mono (by omega))).setCell (p := ⟨w.heap.size, 5, none⟩) (Nat.le_refl _) _
  have hz4 : w.heap.size + 2 ≤ (w3.setCell ⟨w.heap.size, 5, none⟩ (.slice a2 cs.length c2)).heap.size := by have := (unhide B3).size; simp; omega
  clear x0 x1 x2 x3 x4 x5 x6 xf xz X3 Y3 O3 P3 B3 B2 hz2
  generalize w3.setCell ⟨w.heap.size, 5, none⟩ (.slice a2 cs.length c2) = w4 at X4 Y4 O4 P4 B4 hz4 ⊢
  obtain ⟨x0, x1, x2, x3, x4, x5, x6, xf, xz⟩ := (unhide X4).cells
  go_wp2_with fail
  clear x0 x1 x2 x3 x4 x5 x6 xf xz
  go_loopw [3, 19] (fun lv iv wr => ∃ (k : Nat) (oa : Option Addr) (oc : Nat) (M : List Pls.Pl), k ≤ L.length ∧ iv = .int .i64 (k : Int) ∧ lv = .slice oa k oc ∧ Hid (M.map Pls.core = (L.take k).map Pls.core) ∧ Hid (PO wr w4.heap.size oa k oc M) ∧ Hid (Below w4.heap.size w4 wr)) (fun _ iv _ => L.length - (intOf iv).toNat)
  case atStart => exact ⟨0, none, 0, [], Nat.zero_le _, rfl, rfl, hide rfl, hide (PO.nil _ _), hide (Below.refl _ _)⟩
  case round =>
    obtain ⟨k, oa, oc, M, hk, rfl, rfl, hM, hpo, hbk⟩ := hrel
    obtain ⟨wk, hname⟩ : ∃ v, v = wr := ⟨_, rfl⟩
    subst hname
    have hzk := (unhide hbk).size
    have BK := hide ((unhide B4).trans ((unhide hbk).mono (unhide B4).size))
    by_cases hlt : k < L.length
    · obtain ⟨d0, d1, d2, d3⟩ := Pls.lcell_at ((unhide HR).below (unhide BK) (Nat.le_refl _)).p.row k hlt
      rw [Nat.zero_add] at d0 d1 d2 d3
      have HSTR := hide (fun w' (hb : Below w.heap.size w w') => ((unhide HR).below hb (Nat.le_refl _)).p.str k hlt)
      have hil := unhide HLI _ (Pls.getD_mem hlt)
      have HCO := hide (fun (y : Pls.Pl) => core_snoc (y := y) hlt (unhide hM))
      generalize L.getD k Pls.zeroL = x at d0 d1 d2 d3 HSTR hil HCO
      have ha := (unhide HSTR w (Below.refl _ _)).1
      have hca := (unhide HSTR w (Below.refl _ _)).2.2
      have HRW := hide (fun w' (hb : Below w.heap.size w w') => (unhide HSTR w' hb).2.1)
      rw [ha, hca] at d3
      clear ha hca HSTR hM
      generalize Pls.blk x = gi at d3 HRW
      go_upto_region 7 with fail
      have q0 : (wk.alloc (.cells #[.string x.name, .int .i64 x.lim, .int .i64 x.nx, .slice (some ⟨gi, 0, none⟩) x.its.length x.its.length] 59)).cell? ⟨wk.heap.size, 0, none⟩ = some (.string x.name) := by rw [World.cell?_alloc_new]; rfl
      have q1 : (wk.alloc (.cells #[.string x.name, .int .i64 x.lim, .int .i64 x.nx, .slice (some ⟨gi, 0, none⟩) x.its.length x.its.length] 59)).cell? ⟨wk.heap.size, 1, none⟩ = some (.int .i64 x.lim) := by rw [World.cell?_alloc_new]; rfl
      have q2 : (wk.alloc (.cells #[.string x.name, .int .i64 x.lim, .int .i64 x.nx, .slice (some ⟨gi, 0, none⟩) x.its.length x.its.length] 59)).cell? ⟨wk.heap.size, 2, none⟩ = some (.int .i64 x.nx) := by rw [World.cell?_alloc_new]; rfl
      have q3 : (wk.alloc (.cells #[.string x.name, .int .i64 x.lim, .int .i64 x.nx, .slice (some ⟨gi, 0, none⟩) x.its.length x.its.length] 59)).cell? ⟨wk.heap.size, 3, none⟩ = some (.slice (some ⟨gi, 0, none⟩) x.its.length x.its.length) := by rw [World.cell?_alloc_new]; rfl
      have qf : ∀ o, (wk.alloc (.cells #[.string x.name, .int .i64 x.lim, .int .i64 x.nx, .slice (some ⟨gi, 0, none⟩) x.its.length x.its.length] 59)).frozen? ⟨wk.heap.size, o, none⟩ = false := fun o => by go_simp
      have BW := hide (bel1 wk (.cells #[.string x.name, .int .i64 x.lim, .int .i64 x.nx, .slice (some ⟨gi, 0, none⟩) x.its.length x.its.length] 59))
      have hzW : wk.heap.size < (wk.alloc (.cells #[.string x.name, .int .i64 x.lim, .int .i64 x.nx, .slice (some ⟨gi, 0, none⟩) x.its.length x.its.length] 59)).heap.size := by simp
      generalize wk.alloc (.cells #[.string x.name, .int .i64 x.lim, .int .i64 x.nx, .slice (some ⟨gi, 0, none⟩) x.its.length x.its.length] 59) = V at q0 q1 q2 q3 qf BW hzW ⊢
      clear d0 d1 d2 d3
      have HROW := hide (fun (o : Obj) => unhide HRW (V.alloc o) (((unhide BK).trans ((unhide BW).mono (unhide BK).size)).trans ((bel1 V o).mono (by have := (unhide BK).size; omega))))
      have N5 : Hid (∀ o, ∀ j u, (Own.flat x.its)[j]? = some u → (V.alloc o).cell? ((⟨gi, 0, none⟩ : Addr).add j) = some u) := fun o => inews (unhide HROW o)
      have E5 := hide (Rw.row_empty V (Nat.le_refl _))
      clear HROW HRW
      go_wp2_with (at_builtin; go_loud (refine Rw.list_items _ rfl _ _ rfl V.heap.size V.heap.size 0 0 [] rfl (unhide E5) rfl ⟨gi, 0, none⟩ x.its.length x.its.length x.its rfl rfl (unhide N5 _) x.its.length (by omega) hil (by simp) ?_))
      intro g c w6 hrow6 hgrow6
      have I6 : Hid (w6.ownsRow V.heap.size 85 5 (.slice (some ⟨g, 0, none⟩) x.its.length c) x.its.length (Own.flat x.its)) := hrow6
      have B6 := hide ((bel1 V _).grown hgrow6 (by simp) (fun k e => by simp at e; omega))
      clear hrow6 hgrow6 N5 E5
      have r0 := ((unhide B6).cell (p := ⟨wk.heap.size, 0, none⟩) hzW).trans q0
      have r1 := ((unhide B6).cell (p := ⟨wk.heap.size, 1, none⟩) hzW).trans q1
      have r2 := ((unhide B6).cell (p := ⟨wk.heap.size, 2, none⟩) hzW).trans q2
      have r3 := ((unhide B6).cell (p := ⟨wk.heap.size, 3, none⟩) hzW).trans q3
      have rf := fun o => ((unhide B6).frozen (p := ⟨wk.heap.size, o, none⟩) hzW).trans (qf o)
      clear q0 q1 q2 q3 qf
      go_upto_region 8 with fail
      have s0 : (w6.setCell ⟨wk.heap.size, 3, none⟩ (.slice (some ⟨g, 0, none⟩) x.its.length c)).cell? ⟨wk.heap.size, 0, none⟩ = some (.string x.name) := by go_simp
      have s1 : (w6.setCell ⟨wk.heap.size, 3, none⟩ (.slice (some ⟨g, 0, none⟩) x.its.length c)).cell? ⟨wk.heap.size, 1, none⟩ = some (.int .i64 x.lim) := by go_simp
      have s2 : (w6.setCell ⟨wk.heap.size, 3, none⟩ (.slice (some ⟨g, 0, none⟩) x.its.length c)).cell? ⟨wk.heap.size, 2, none⟩ = some (.int .i64 x.nx) := by go_simp
      have s3 : (w6.setCell ⟨wk.heap.size, 3, none⟩ (.slice (some ⟨g, 0, none⟩) x.its.length c)).cell? ⟨wk.heap.size, 3, none⟩ = some (.slice (some ⟨g, 0, none⟩) x.its.length c) := by go_simp
      have I7 := hide (ownsRow_setCell_below (unhide I6) (a := ⟨wk.heap.size, 3, none⟩) hzW (.slice (some ⟨g, 0, none⟩) x.its.length c))
      have B7 : Hid (Below wk.heap.size wk (w6.setCell ⟨wk.heap.size, 3, none⟩ (.slice (some ⟨g, 0, none⟩) x.its.length c))) := ((unhide BW).trans ((unhide B6).mono (by omega))).setCell (p := ⟨wk.heap.size, 3, none⟩) (Nat.le_refl _) _
      have hgV := ((unhide I6).lt g rfl).1
      have HXF : Hid (∀ q, (Value.slice (some ⟨g, 0, none⟩) x.its.length c).ownBlock = some q → (Value.slice oa k oc).ownBlock ≠ some q) := by
        intro q hq e
        have h1 := ((unhide hpo).row.lt q e).2
        have h2 : g = q := by simpa [Value.ownBlock] using hq
        omega
      generalize w6.setCell ⟨wk.heap.size, 3, none⟩ (.slice (some ⟨g, 0, none⟩) x.its.length c) = w7 at s0 s1 s2 s3 I7 B7 ⊢
      clear r0 r1 r2 r3 rf I6 B6 BW
      have PO7 := hide ((unhide hpo).below (unhide B7) (Nat.le_refl _))
      have C7 := hide ((unhide hbk).trans ((unhide B7).mono hzk))
      have I7 := hide (own_le (unhide I7) (show w4.heap.size ≤ V.heap.size by omega))
      have HY := hide (unhide HCO ⟨x.name, x.lim, x.nx, some ⟨g, 0, none⟩, c, x.its⟩ rfl)
      have hz7 := (unhide C7).size
      have PO8 := hide (fun o => (unhide PO7).below (bel1 w7 o) (Nat.le_refl _))
      have I8 := hide (fun o => own_below (unhide I7) (bel1 w7 o) (Nat.le_refl _))
      clear HCO hpo hbk BK B7
      go_wp2_with (at_builtin; go_loud (refine wpList_append_lies _ rfl _ _ 28 rfl w4.heap.size 59 j0 _ 4 56 Tryz.underlying28 (unhide JI) (unhide JZ0) (unhide JZ1) (unhide JZ2) rfl (by decide) _ _ _ rfl (unhide PO8 _).row ⟨w7.heap.size, 0, none⟩ 1 1 (pcells ⟨x.name, x.lim, x.nx, some ⟨g, 0, none⟩, c, x.its⟩) rfl rfl (pnews w7 ⟨x.name, x.lim, x.nx, some ⟨g, 0, none⟩, c, x.its⟩ _) (pcells_one ⟨x.name, x.lim, x.nx, some ⟨g, 0, none⟩, c, x.its⟩) (by omega) ?d1 ?d2 ?d3 _ rfl ?_))
      case d1 => unfold maxLen; omega
      case d2 => omega
      case d3 => first | omega | (simp; omega)
      intro g8 c8 w8 hown8 hgrow8 hat8 hlt8
      have HPO := hide ((unhide PO8 _).snoc (unhide I8 _) (unhide HXF) hown8 hgrow8 (by rw [World.size_alloc]; exact hat8))
      have C8 := hide (((unhide C7).alloc hz7 _).grown hgrow8 (by simp; omega) (own_block (unhide PO7).row))
      clear hown8 hgrow8 hat8 hlt8 PO8 PO7 I8 I7 C7 HXF s0 s1 s2 s3
      go_wp2
      go_roundw
      case rel => exact ⟨k + 1, some ⟨g8, 0, none⟩, c8, _, by omega, by go_num, rfl, HY, HPO, C8⟩
      case measure => simp [intOf]; omega
    · obtain rfl : k = L.length := by omega
      have X5 := hide ((unhide X4).below (unhide hbk) (show w.heap.size < w4.heap.size by omega))
      have Y5 := hide ((unhide Y4).below (unhide hbk) (show w.heap.size + 1 < w4.heap.size by omega))
      have O5 := hide (own_below (unhide O4) (unhide hbk) (Nat.le_refl _))
      have P5 := hide (own_below (unhide P4) (unhide hbk) (Nat.le_refl _))
      have PO5 := hide ((unhide hpo).le hz4)
      have F1 : Hid (∀ q, (Value.slice a1 ns.length c1).ownBlock = some q → (Value.slice oa L.length oc).ownBlock ≠ some q) := fun q h e => by
        have h1 := ((unhide O4).lt q h).2
        have h2 := ((unhide hpo).row.lt q e).1
        omega
      have F2 : Hid (∀ q, (Value.slice a2 cs.length c2).ownBlock = some q → (Value.slice oa L.length oc).ownBlock ≠ some q) := fun q h e => by
        have h1 := ((unhide P4).lt q h).2
        have h2 := ((unhide hpo).row.lt q e).1
        omega
      have HM := hide ((unhide hM).trans (by rw [List.take_length]))
      clear X4 Y4 O4 P4 hpo hM hbk B4
      obtain ⟨x0, x1, x2, x3, x4, x5, x6, xf, xz⟩ := (unhide X5).cells
      obtain ⟨y0, y1, y2, y3, y4, y5, y6, yf, yz⟩ := (unhide Y5).cells
      go_wp2
      refine bodyPost_ret (v := .agg #[.int .i64 now, .int .i64 nx, .int .i64 lim, .int .i64 lost, .slice a1 ns.length c1, .slice a2 cs.length c2, .slice oa L.length oc]) (by simp [results, Tryz.results32, go_sem, y0, y1, y2, y3, y4, y5, y6]) rfl ⟨a1, c1, a2, c2, oa, oc, M, rfl, own_le (base := w.heap.size + 2) ?_ (by omega), own_le (base := w.heap.size + 2) ?_ (by omega), PO.le (B := w.heap.size + 2) ?_ (by omega), unhide F1, unhide F2, unhide HM, ?_⟩
      · repeat (refine ownsRow_setCell_below ?_ (by first | (simp; done) | (simp; omega)) _)
        exact unhide O5
      · repeat (refine ownsRow_setCell_below ?_ (by first | (simp; done) | (simp; omega)) _)
        exact unhide P5
      · repeat (refine PO.set ?_ (by first | (simp; done) | (simp; omega)) _)
        exact unhide PO5
      · repeat (refine Below.setCell ?_ (by first | (simp; done) | (simp; omega)) _)
        exact unhide BK
end Clus
end Go.Proofs.YtkodgbalhnbhcaaGreatDoor
/-
  A cluster in rows that the call has made itself. No Go function is spoken of here.
-/
namespace Go.Proofs.YtkodgbalhnbhcaaGreatDoor
namespace Clus
open Go.RowKit Base OwnR Plc
set_option linter.unusedVariables false

theorem pflat_at : ∀ (M : List Pls.Pl) (i r : Nat), i < M.length → r < 4 → (pflat M)[i * 4 + r]? = (pcells (M.getD i Pls.zeroL))[r]?
  | [], i, r, h, _ => by simp at h
  | x :: m, i, r, h, hr => by
    have e : pflat (x :: m) = pcells x ++ pflat m := by simp [pflat]
    have el : (pcells x).length = 4 := rfl
    rw [e]
    cases i with
    | zero => rw [List.getElem?_append_left (by omega)]; simp
    | succ i =>
      rw [List.getElem?_append_right (by omega), el, show (i + 1) * 4 + r - 4 = i * 4 + r by omega]
      exact pflat_at m i r (by simpa using h) hr
def crash (x : Pls.Pl) : Pls.Pl := ⟨x.name, x.lim, x.nx, none, 0, []⟩
theorem pflat_crash : ∀ (M : List Pls.Pl) (k : Nat), k < M.length → (pflat M).set (k * 4 + 3) (.slice none 0 0) = pflat (M.set k (crash (M.getD k Pls.zeroL)))
  | [], k, h => by simp at h
  | x :: m, k, h => by
    have e : pflat (x :: m) = pcells x ++ pflat m := by simp [pflat]
    have el : (pcells x).length = 4 := rfl
    rw [e]
    cases k with
    | zero => rw [List.set_append_left _ _ (by omega)]; simp [pflat, crash, pcells]
    | succ k =>
      rw [List.set_append_right _ _ (by omega), el, show (k + 1) * 4 + 3 - 4 = k * 4 + 3 by omega, pflat_crash m k (by simpa using h)]
      simp [pflat]
theorem PO.head {w : World} {B : Nat} {a : Option Addr} {n cap : Nat} {M : List Pls.Pl} (h : PO w B a n cap M) (hn : 0 < n) : ∃ g, a = some ⟨g, 0, none⟩ ∧ B ≤ g ∧ g < w.heap.size := by
  obtain ⟨g, c, hv, hb, _, hl⟩ := own_some h.row hn
  simp only [Value.slice.injEq] at hv
  exact ⟨g, hv.1, hb, hl⟩
theorem PO.pl {w : World} {B g n cap : Nat} {M : List Pls.Pl} (h : PO w B (some ⟨g, 0, none⟩) n cap M) (i : Nat) (hi : i < M.length) : Pls.PlAt w g (0 + i * 4) (M.getD i Pls.zeroL) := by
  have hr := h.row
  have hc := fun r (hr4 : r < 4) (u : Value) (hu : (pcells (M.getD i Pls.zeroL))[r]? = some u) => own_cells hr ((pflat_at M i r hi hr4).trans hu)
  rw [Nat.zero_add]
  exact ⟨hc 0 (by omega) _ rfl, hc 1 (by omega) _ rfl, hc 2 (by omega) _ rfl, hc 3 (by omega) _ rfl⟩
theorem PO.crash {w : World} {B g n cap : Nat} {M : List Pls.Pl} (h : PO w B (some ⟨g, 0, none⟩) n cap M) (k : Nat) (hk : k < M.length) : PO (w.setCell ⟨g, k * 4 + 3, none⟩ (.slice none 0 0)) B (some ⟨g, 0, none⟩) n cap (M.set k (crash (M.getD k Pls.zeroL))) := by
  refine ⟨by rw [List.length_set]; exact h.len, ?_, fun y hy => ?_, fun y hy q hq => ?_⟩
  · have := h.row.stored (k * 4 + 3) (.slice none 0 0)
    rw [pflat_crash M k hk] at this
    exact this.1
  · rcases List.mem_or_eq_of_mem_set hy with hy | rfl
    · exact ownsRow_setCell_other (h.its y hy) (fun e => h.far y hy g e rfl) _
    · exact World.ownsRow_nil _ _ _ _
  · rcases List.mem_or_eq_of_mem_set hy with hy | rfl
    · exact h.far y hy q hq
    · simp [Clus.crash, Value.ownBlock] at hq
theorem PO.ls {w : World} {B : Nat} {a : Option Addr} {n cap : Nat} {M : List Pls.Pl} (h : PO w B a n cap M) : Pls.LsAt w a M := by
  intro hne
  have hn : 0 < n := by rw [← h.len]; exact List.length_pos_iff.2 hne
  obtain ⟨g, rfl, _, hl⟩ := h.head hn
  exact ⟨g, 0, rfl, hl, fun i hi => ⟨h.pl i hi, Own.own_at (h.its _ (Pls.getD_mem hi))⟩⟩
theorem nodes_at {w : World} {B : Nat} {a : Option Addr} {n cap : Nat} {l : List Nodes.D} (h : w.ownsRow B 76 2 (.slice a n cap) n (nflat l)) (hn : l.length = n) : Nodes.LAt w a l := by
  intro hne
  obtain ⟨g, c, hv, _, _, hl⟩ := own_some h (by rw [← hn]; exact List.length_pos_iff.2 hne)
  simp only [Value.slice.injEq] at hv
  obtain ⟨rfl, _⟩ := hv
  refine ⟨g, 0, rfl, hl, fun i hi => ?_⟩
  rw [Nat.zero_add]
  refine ⟨?_, ?_⟩
  · refine own_cells h ?_
    rw [nflat_get l _ (by omega), Nodes.icell, show (i * 2) % 2 = 0 by omega, show (i * 2) / 2 = i by omega]; simp
  · refine own_cells h ?_
    rw [nflat_get l _ (by omega), Nodes.icell, show (i * 2 + 1) % 2 = 1 by omega, show (i * 2 + 1) / 2 = i by omega]; simp

/-- A cluster as a value. -/
def clV (c : Cl) : Value := .agg #[.int .i64 c.now, .int .i64 c.nx, .int .i64 c.lim, .int .i64 c.lost, .slice c.na c.ns.length c.nc, .slice c.ca c.cs.length c.cc, .slice c.pa c.ps.length c.pc]
/-- A cluster whose rows the call has made itself. -/
structure CO (w : World) (B : Nat) (c : Cl) : Prop where
  n : w.ownsRow B 76 2 (.slice c.na c.ns.length c.nc) c.ns.length (nflat c.ns)
  m : w.ownsRow B 76 2 (.slice c.ca c.cs.length c.cc) c.cs.length (nflat c.cs)
  p : PO w B c.pa c.ps.length c.pc c.ps
  fn : ∀ q, (Value.slice c.na c.ns.length c.nc).ownBlock = some q → (Value.slice c.pa c.ps.length c.pc).ownBlock ≠ some q
  fm : ∀ q, (Value.slice c.ca c.cs.length c.cc).ownBlock = some q → (Value.slice c.pa c.ps.length c.pc).ownBlock ≠ some q
theorem CO.below {w w' : World} {B C : Nat} {c : Cl} (h : CO w B c) (hb : Below C w w') (hC : w.heap.size ≤ C) : CO w' B c := ⟨own_below h.n hb hC, own_below h.m hb hC, h.p.below hb hC, h.fn, h.fm⟩
theorem CO.le {w : World} {B C : Nat} {c : Cl} (h : CO w B c) (hC : C ≤ B) : CO w C c := ⟨own_le h.n hC, own_le h.m hC, h.p.le hC, h.fn, h.fm⟩
theorem CO.set {w : World} {B : Nat} {c : Cl} (h : CO w B c) {p : Addr} (hp : p.block < B) (v : Value) : CO (w.setCell p v) B c := ⟨ownsRow_setCell_below h.n hp v, ownsRow_setCell_below h.m hp v, h.p.set hp v, h.fn, h.fm⟩
theorem CO.at {w : World} {B : Nat} {c : Cl} (h : CO w B c) : ClAt w c := ⟨nodes_at h.n rfl, nodes_at h.m rfl, h.p.ls⟩
/-- A cluster whose place k has lost its items. -/
def crashCl (c : Cl) (k : Nat) : Cl := ⟨c.now, c.nx, c.lim, c.lost, c.na, c.nc, c.ns, c.ca, c.cc, c.cs, c.pa, c.pc, c.ps.set k (crash (c.ps.getD k Pls.zeroL))⟩
theorem crashV (c : Cl) (k : Nat) : clV (crashCl c k) = clV c := by simp [clV, crashCl]
theorem CO.crash {w : World} {B : Nat} {c : Cl} {g : Nat} (h : CO w B c) (hg : c.pa = some ⟨g, 0, none⟩) (k : Nat) (hk : k < c.ps.length) : CO (w.setCell ⟨g, k * 4 + 3, none⟩ (.slice none 0 0)) B (crashCl c k) := by
  have hp := h.p
  have h1 := h.fn
  have h2 := h.fm
  rw [hg] at hp h1 h2
  have e : (Value.slice (some ⟨g, 0, none⟩) c.ps.length c.pc).ownBlock = some g := rfl
  have el : (c.ps.set k (Clus.crash (c.ps.getD k Pls.zeroL))).length = c.ps.length := List.length_set
  refine ⟨ownsRow_setCell_other h.n (fun h' => h1 g h' e) _, ownsRow_setCell_other h.m (fun h' => h2 g h' e) _, ?_, ?_, ?_⟩
  · show PO _ B c.pa (c.ps.set k (Clus.crash (c.ps.getD k Pls.zeroL))).length c.pc _
    rw [el, hg]
    exact hp.crash k hk
  · show ∀ q, (Value.slice c.na c.ns.length c.nc).ownBlock = some q → (Value.slice c.pa (c.ps.set k (Clus.crash (c.ps.getD k Pls.zeroL))).length c.pc).ownBlock ≠ some q
    rw [el, hg]; exact h1
  · show ∀ q, (Value.slice c.ca c.cs.length c.cc).ownBlock = some q → (Value.slice c.pa (c.ps.set k (Clus.crash (c.ps.getD k Pls.zeroL))).length c.pc).ownBlock ≠ some q
    rw [el, hg]; exact h2
/-- How l7Own ends, as a cluster. -/
theorem OwnEnd.co {now nx lim lost : Int} {ns cs : List Nodes.D} {L : List Pls.Pl} {w w' : World} {e : Ending} (h : OwnEnd now nx lim lost ns cs L w e w') : ∃ a1 c1 a2 c2 a3 c3 M, e = .returned (.agg #[.int .i64 now, .int .i64 nx, .int .i64 lim, .int .i64 lost, .slice a1 ns.length c1, .slice a2 cs.length c2, .slice a3 M.length c3]) ∧ M.map Pls.core = L.map Pls.core ∧ CO w' w.heap.size ⟨now, nx, lim, lost, a1, c1, ns, a2, c2, cs, a3, c3, M⟩ ∧ Below w.heap.size w w' := by
  obtain ⟨a1, c1, a2, c2, a3, c3, M, he, hn, hm, hp, f1, f2, hM, hb⟩ := h
  have hl : L.length = M.length := hp.len.symm
  rw [hl] at hp f1 f2 he
  exact ⟨a1, c1, a2, c2, a3, c3, M, he, hM, ⟨hn, hm, hp, f1, f2⟩, hb⟩
def noCl : Cl := ⟨0, 0, 0, 0, none, 0, [], none, 0, [], none, 0, []⟩
def noCC : CC := ⟨0, 0, 0, 0, [], [], []⟩
theorem plain_no : plain noCl = noCC := rfl
theorem CO.no (w : World) (B : Nat) : CO w B noCl := ⟨World.ownsRow_nil _ _ _ _, World.ownsRow_nil _ _ _ _, PO.nil w B, fun q h => by simp [noCl, Value.ownBlock] at h, fun q h => by simp [noCl, Value.ownBlock] at h⟩
end Clus
end Go.Proofs.YtkodgbalhnbhcaaGreatDoor
