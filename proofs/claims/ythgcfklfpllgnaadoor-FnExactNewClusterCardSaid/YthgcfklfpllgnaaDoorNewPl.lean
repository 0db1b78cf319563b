/-
  The program's newPlace: a place with nothing in it.
-/
import Derived.Test.YthgcfklfpllgnaaDoorFleetN
import Derived.Deep.RegionWith
namespace Go.Proofs.YthgcfklfpllgnaaDoor
namespace Shelf
open Go.RowKit Base Store Items OwnR Keep
set_option linter.unusedVariables false

set_option maxRecDepth 10000 in
set_option maxHeartbeats 4000000 in
theorem shelfOf_nil (lim nx : Int) (w : World) :
    Calls Tryd.prog 40 #[.agg #[.int .i64 lim, .int .i64 nx, .slice none 0 0]] w fun e w' => ∃ h S, e = .returned (.pointer (some ⟨h, 0, none⟩)) ∧ Shelf w' h S lim nx 0 [] ∧ (∀ y ∈ S, w.heap.size ≤ y) ∧ Below w.heap.size w w' := by
  have hmm := @run_makeMap Tryd.prog
  go_enter Tryd.func40, Tryd.ntmps40
  go_upto_region 1 with fail
  go_cut [3] (fun s3 wx => ∃ (h : Nat), s3 = .pointer (some ⟨h, 0, none⟩) ∧ Hid (New w wx (.cells #[.int .i64 lim, .int .i64 nx, .slice none 0 0] 57) lim nx h))
  case first =>
    have s0 := (bx_a w 57 (.int .i64 lim) (.int .i64 nx) (.slice none 0 0)).1
    have s1 := (bx_a w 57 (.int .i64 lim) (.int .i64 nx) (.slice none 0 0)).2
    have n0 := World.new_ne (w.alloc (.cells #[.int .i64 lim, .int .i64 nx, .slice none 0 0] 57)) _ s0
    have n1 := World.new_ne (w.alloc (.cells #[.int .i64 lim, .int .i64 nx, .slice none 0 0] 57)) _ s1
    go_region_held3 (fun w' => w'.cell? ⟨w.heap.size, 0, none⟩ = some (.int .i64 lim) ∧ w'.cell? ⟨w.heap.size, 1, none⟩ = some (.int .i64 nx)) (first | go_keep | (refine ⟨?_, ?_⟩ <;> first | assumption | (simp [*]; done) | (simp; omega))) (first | (go_at_call 50; refine (newChain_any _).mono ?_; rintro e w1 ⟨g, rfl, hg, hli, hb1⟩; have q0 := (hb1.cell (p := ⟨w.heap.size, 0, none⟩) (by first | (simp [World.drew]; done) | (simp [World.drew]; omega))).trans (by first | exact (bx_a w _ _ _ _).1 | exact (bx_b w _ _ _ _ _).1); have q1 := (hb1.cell (p := ⟨w.heap.size, 1, none⟩) (by first | (simp [World.drew]; done) | (simp [World.drew]; omega))).trans (by first | exact (bx_a w _ _ _ _).2 | exact (bx_b w _ _ _ _ _).2); have hz1 : w.heap.size < w1.heap.size := (by first | exact alloc_lt hb1.size | exact alloc_lt2 hb1.size); have HB1 := hide hb1; have HLI := hide hli; clear hb1 hli))
    all_goals
      go_wp2_with fail
      go_meet
      first | exact ⟨_, rfl, hide (new_a hg (unhide HLI) (unhide HB1))⟩ | exact ⟨_, rfl, hide (new_b hg (unhide HLI) (unhide HB1))⟩
  case rest =>
  obtain ⟨h, rfl, HN⟩ := hcut
  obtain ⟨S0, hs0, hS0, hbel0⟩ := unhide HN
  have hbx := boxcell hbel0
  have HS0 := hide hs0
  have HSS := hide hS0
  have HB0 := hide hbel0
  clear HN hs0 hS0 hbel0
  go_wp2
  go_loopw [17] (fun i wr => ∃ (S : List Nat), i = .int .i64 0 ∧ Hid (Shelf wr h S lim nx 0 []) ∧ Hid (∀ y ∈ S, w.heap.size < y) ∧ Hid (Below (w.heap.size + 1) (w.alloc (.cells #[.int .i64 lim, .int .i64 nx, .slice none 0 0] 57)) wr)) (fun i _ => 0)
  case atStart => exact ⟨S0, rfl, HS0, HSS, HB0⟩
  case round =>
    obtain ⟨S, rfl, hsh, hSS, hbel⟩ := hrel
    have hB : Hid (Below w.heap.size w wr) := (bel1 w _).trans ((unhide hbel).mono (by omega))
    go_wp2
    go_ret
    exact ⟨h, S, rfl, unhide hsh, fun y hy => Nat.le_of_lt (unhide hSS y hy), unhide hB⟩
end Shelf
namespace Fleet
open Go.RowKit Base Store Items OwnR Keep Clus

set_option maxRecDepth 10000 in
set_option maxHeartbeats 4000000 in
theorem newPlace_any (name : ByteArray) (lim : Int) (w : World) :
    Calls Tryd.prog 43 #[.string name, .int .i64 lim] w fun e w' => ∃ p : Pc, e = .returned (ptr p) ∧ PcAt w' p ∧ (∀ y ∈ bks p, w.heap.size ≤ y) ∧ p.name = name ∧ p.lim = lim ∧ p.nx = 1 ∧ p.lost = 0 ∧ p.its = [] ∧ Below w.heap.size w w' := by
  have HSO := hide (fun w' => _root_.Go.Proofs.YthgcfklfpllgnaaDoor.Shelf.shelfOf_nil lim 1 w')
  go_enter Tryd.func43, Tryd.ntmps43
  go_wp2_with fail
  refine (unhide HSO _).mono ?_
  rintro e w1 ⟨h, S, rfl, hsh, hS, hb1⟩
  have HSH := hide hsh
  have HS := hide hS
  have HB := hide hb1
  clear hsh hS hb1
  go_wp2
  go_ret
  have hz := (unhide HB).size
  refine ⟨⟨name, w1.heap.size, h, S, lim, 1, 0, []⟩, rfl, ⟨?_, ?_, ?_⟩, ?_, rfl, rfl, rfl, rfl, rfl, ?_⟩
  · exact heap_alloc_new w1 _
  · exact (unhide HSH).keep (keeps_below (bel1 w1 _)) (by simp)
  · intro hm
    have := (unhide HSH).lt _ hm
    exact absurd this (Nat.lt_irrefl _)
  · intro y hy
    rcases List.mem_cons.1 hy with rfl | hy
    · exact hz
    · exact unhide HS y hy
  · exact (unhide HB).alloc hz _
end Fleet
end Go.Proofs.YthgcfklfpllgnaaDoor
