/-
  The program's (*fleet).find and slices.Insert of a place, also where there is no place yet.
-/
import Derived.Test.YthgcfklfpllgnaaDoorZ33
namespace Go.Proofs.YthgcfklfpllgnaaDoor
namespace Fleet
open Go.RowKit Base Store Items OwnR Keep Clus Marks Plc
set_option linter.unusedVariables false

set_option maxRecDepth 10000 in
set_option maxHeartbeats 1000000 in
theorem find_all (M X : Nat) (f : Fl) (key : ByteArray) (w : World) (hf : FleetAt w M X f) (hl : f.ps.length ≤ 1000) (hs : Rising ((nms f).map toL)) :
    Calls Tryd.prog 41 #[.pointer (some ⟨X, 0, none⟩), .string key] w fun e w' => e = .returned (.tuple #[.int .i64 (kOf key (nms f) : Int), .bool (fnd (nms f) key)]) ∧ Below w.heap.size w w' := by
  by_cases hpos : 0 < f.ps.length
  · exact find_any M X f key w hf hpos hl hs
  have h0 : f.ps = [] := List.length_eq_zero_iff.1 (by omega)
  have en : nms f = [] := by unfold nms; rw [h0]; rfl
  have e1 : kOf key (nms f) = 0 := by have := kOf_le key (nms f); rw [en] at this ⊢; simpa using this
  have e2 : fnd (nms f) key = false := by unfold fnd; rw [e1, en]; simp
  have x8 := hf.box.cells.2.2.2.2.2.2.2.2
  unfold rowV at x8
  rw [h0, List.length_nil] at x8
  rw [e1, e2]
  have HS := hide (search_nil f.a f.cap key w)
  generalize f.a = a at HS x8
  generalize f.cap = cap at HS x8
  clear hf hs hl en e1 e2 h0 hpos
  go_enter Tryd.func41, Tryd.ntmps41
  go_wp2_with fail
  refine (unhide HS).mono ?_
  rintro e w1 ⟨rfl, hb1⟩
  have B1 := hide hb1
  clear hb1
  go_wp2
  go_ret2
  exact ⟨rfl, unhide B1⟩

theorem insert_all (M : Nat) (f : Fl) (i vb : Nat) (p : Pc) (w : World) (hown : w.ownsRow M 67 1 (rowV f) f.ps.length (f.ps.map ptr)) (hM : M ≤ w.heap.size) (hn : f.ps.length ≤ 1000) (hi : i ≤ f.ps.length) (hv : w.heap[vb]? = some (.cells #[ptr p] 67 (0, 0))) (hvg : (rowV f).ownBlock ≠ some vb) :
    Calls Tryd.prog 42 #[rowV f, .int .i64 (i : Int), .slice (some ⟨vb, 0, none⟩) 1 1] w (Ins.InsEnd M (rowV f) f.ps.length i (f.ps.map ptr) (ptr p) w) := by
  by_cases hpos : 0 < f.ps.length
  · exact insert_any M f i vb p w hown hM hpos hn hi hv hvg
  obtain rfl : i = f.ps.length := by omega
  unfold rowV at hown ⊢
  exact Ins.insert_end M _ _ f.cap _ vb (ptr p) w hown hM hn rfl (by rw [Lib.cell_of_heap hv]; rfl)
/-- What is said of openPlaces, also where there is no place yet. -/
def OpenSaid0 : Prop := ∀ (M X : Nat) (f : Fl) (bn : Nat) (nd : List Nodes.D) (base : List ByteArray) (ps0 : List Pls.Core) (w : World) (hf : FleetAt w M X f) (hM : M ≤ w.heap.size) (hl : f.ps.length ≤ 100) (hN : w.rowIs bn 42 (nd.length * 2) (Nodes.icell nd)) (hbM : bn < M) (hbX : bn ≠ X) (ld : nd.length ≤ 8) (hop : OpnIs base ps0 f.lim f.ps) (hfr : ∀ x, x ∉ insAll base → Beg.look ps0 f.lim x = ⟨x, f.lim, 1, []⟩),
    Calls Tryd.prog 31 #[.pointer (some ⟨X, 0, none⟩), .slice (some ⟨bn, 0, none⟩) nd.length nd.length] w fun e w' => e = .returned (.tuple #[]) ∧ ∃ a cap ps, FleetAt w' M X { f with a := a, cap := cap, ps := ps } ∧ OpnIs (base ++ nd.map (·.name)) ps0 f.lim ps ∧ Kp M X w w'
end Fleet
end Go.Proofs.YthgcfklfpllgnaaDoor
