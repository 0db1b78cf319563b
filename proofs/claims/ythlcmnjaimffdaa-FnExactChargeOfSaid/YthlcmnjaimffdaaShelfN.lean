/-
  The program's newChain and shelfOf: a shelf out of a store's items.
-/
import Derived.Test.YthlcmnjaimffdaaShelfI
import Derived.Deep.RegionHeld3
namespace Go.Proofs.Ythlcmnjaimffdaa
namespace Shelf
open Go.RowKit Base Items Keep Own Chain Store
set_option linter.unusedVariables false

theorem made_zl : madeCells (Value.agg #[.string ByteArray.empty, .int .i64 0, .string ByteArray.empty, .int .i64 0, .int .i64 0, .int .i64 0, .int .i64 0]).cells 7 = (lcells zl).toArray := by
  kernel_rfl
theorem links_new (w : World) : LinksAt (w.alloc (.cells (lcells zl).toArray 83)) 83 w.heap.size 1 [zl] :=
  ⟨rfl, _, heap_alloc_new w _, Nat.le_refl _, by unfold maxLen; omega, rfl, rfl⟩
theorem make_links (w : World) : (Instr.makeSlice 56 (.int .i64 1) (.int .i64 1)).run Try.prog w = .ok (.slice (some ⟨w.heap.size, 0, none⟩) 1 1) (w.alloc (.cells (lcells zl).toArray 83)) := by
  have h := run_make_rows (P := Try.prog) 56 83 (.agg #[.string ByteArray.empty, .int .i64 0, .string ByteArray.empty, .int .i64 0, .int .i64 0, .int .i64 0, .int .i64 0]) 7 72 Try.underlying56 (by kernel_rfl) .i64 .i64 1 (by omega) (by omega) w
  rw [Nat.one_mul, made_zl] at h
  exact h

set_option maxRecDepth 10000 in
set_option maxHeartbeats 1000000 in
theorem newChain_any (w : World) : Calls Try.prog 49 #[] w fun e w' => ∃ g, e = .returned (.agg #[.slice (some ⟨g, 0, none⟩) 1 1, .slice none 0 0]) ∧ w.heap.size ≤ g ∧ LinksAt w' 83 g 1 [zl] ∧ Below w.heap.size w w' := by
  go_enter Try.func49, Try.ntmps49
  have hmk := make_links
  go_wp2
  refine bodyPost_ret (v := .agg #[.slice (some ⟨w.heap.size + 1, 0, none⟩) 1 1, .slice none 0 0]) (by simp [results, Try.results49, go_sem]) rfl ⟨w.heap.size + 1, rfl, by omega, ?_, ?_⟩
  · have h := links_new (w.alloc (.cells #[.slice (some ⟨w.heap.size + 1, 0, none⟩) 1 1, .slice none 0 0] 59))
    rw [World.size_alloc] at h
    exact h
  · exact bel2 w _ _

theorem alloc_lt2 {w w1 : World} {o o2 : Obj} (h : ((w.alloc o).alloc o2).drew.heap.size ≤ w1.heap.size) : w.heap.size < w1.heap.size := by
  have e : ((w.alloc o).alloc o2).drew.heap.size = w.heap.size + 1 + 1 := by show ((w.alloc o).alloc o2).heap.size = _; simp
  omega
theorem keys_take {its : List Itm} (h : (its.map Itm.key).Nodup) {k : Nat} (hk : k < its.length) : ∀ y ∈ its.take k, y.key ≠ (its.getD k zero).key := by
  intro y hy
  have e : its = its.take k ++ its[k] :: its.drop (k + 1) := by rw [← List.drop_eq_getElem_cons hk, List.take_append_drop]
  rw [e, List.map_append, List.nodup_append] at h
  rw [List.getD_eq_getElem?_getD, List.getElem?_eq_getElem hk]
  exact h.2.2 _ (List.mem_map_of_mem hy) _ (List.mem_map.2 ⟨_, List.mem_cons_self, rfl⟩)
theorem bx_a (w : World) (t : TypeId) (v0 v1 v2 : Value) : (w.alloc (.cells #[v0, v1, v2] t)).drew.cell? ⟨w.heap.size, 0, none⟩ = some v0 ∧ (w.alloc (.cells #[v0, v1, v2] t)).drew.cell? ⟨w.heap.size, 1, none⟩ = some v1 := by
  have e : ∀ (W : World) p, W.drew.cell? p = W.cell? p := fun _ _ => rfl
  rw [e, e, World.cell?_alloc_new, World.cell?_alloc_new]
  exact ⟨rfl, rfl⟩
theorem bx_b (w : World) (t : TypeId) (v0 v1 v2 : Value) (o : Obj) : ((w.alloc (.cells #[v0, v1, v2] t)).alloc o).drew.cell? ⟨w.heap.size, 0, none⟩ = some v0 ∧ ((w.alloc (.cells #[v0, v1, v2] t)).alloc o).drew.cell? ⟨w.heap.size, 1, none⟩ = some v1 := by
  have h := bx_a w t v0 v1 v2
  have e : ∀ (W : World) p, W.drew.cell? p = W.cell? p := fun _ _ => rfl
  have e2 : ∀ i, ((w.alloc (.cells #[v0, v1, v2] t)).alloc o).cell? ⟨w.heap.size, i, none⟩ = (w.alloc (.cells #[v0, v1, v2] t)).cell? ⟨w.heap.size, i, none⟩ := fun i => World.cell?_of_block (a := ⟨w.heap.size, i, none⟩) (Below.heap_alloc _ _ _ (by simp))
  rw [e, e, e2, e2]
  exact h

theorem shelf_new {wx : World} {h g bm : Nat} {lim nx : Int} (hB : Box wx h ⟨lim, nx, 0, 0, .map (some bm)⟩ (.slice (some ⟨g, 0, none⟩) 1 1) (.slice none 0 0)) (hl : LinksAt wx 83 g 1 [zl])
    (hm : wx.ownsMap Try.prog 9 (plainElem Try.prog 3) bm 0 (.map [] : DataW Unit)) (h1 : h ≠ g) (h2 : bm ≠ h) (h3 : bm ≠ g) : Shelf wx h [h, g, bm] lim nx 0 [] :=
  ⟨g, none, bm, [zl], [], [], 1, .slice none 0 0, .map [], ⟨⟨hB, hl, World.ownsRow_nil _ _ _ _, rfl, h1, by simp, by simp⟩, good_new, rfl, by simp, hm, mapIs_new, h2, h3, by simp, rfl, by simp, by simp⟩⟩
/-- What a new shelf is, behind shelfOf's first statement. -/
def New (w wx : World) (B0 : Obj) (lim nx : Int) (h : Nat) : Prop := ∃ S, Shelf wx h S lim nx 0 [] ∧ (∀ y ∈ S, w.heap.size < y) ∧ Below (w.heap.size + 1) (w.alloc B0) wx
theorem new_a {w w1 : World} {B0 : Obj} {lim nx : Int} {g : Nat} (hg : (w.alloc B0).drew.heap.size ≤ g) (hli : LinksAt w1 83 g 1 [zl]) (hb : Below (w.alloc B0).drew.heap.size (w.alloc B0).drew w1) :
    New w ((w1.alloc (.map #[] 0)).alloc (.cells #[.int .i64 lim, .int .i64 nx, .int .i64 0, .int .i64 0, .slice (some ⟨g, 0, none⟩) 1 1, .slice none 0 0, .map (some w1.heap.size)] 62)) B0 lim nx (w1.heap.size + 1) := by
  have e : (w.alloc B0).drew.heap.size = w.heap.size + 1 := by show (w.alloc B0).heap.size = _; simp
  rw [e] at hg hb
  have hgl : g < w1.heap.size := Row.lt hli
  have hz := hb.size
  rw [e] at hz
  refine ⟨[w1.heap.size + 1, g, w1.heap.size], shelf_new ?_ ?_ ?_ (by omega) (by omega) (by omega), ?_, ?_⟩
  · have h1 := heap_alloc_new (w1.alloc (.map #[] 0)) (.cells #[.int .i64 lim, .int .i64 nx, .int .i64 0, .int .i64 0, .slice (some ⟨g, 0, none⟩) 1 1, .slice none 0 0, .map (some w1.heap.size)] 62)
    rw [World.size_alloc] at h1
    exact h1
  · exact (Row.alloc (Row.alloc hli _) _)
  · exact (World.ownsMap_made w1 _ _ _).alloc _
  · intro y hy
    simp at hy
    omega
  · exact (((Below.refl _ (w.alloc B0)).drew.trans hb).alloc (by omega) _).alloc (by simp; omega) _
theorem new_b {w w1 : World} {B0 : Obj} {lim nx : Int} {g : Nat} (hg : ((w.alloc B0).alloc (.map #[] 0)).drew.heap.size ≤ g) (hli : LinksAt w1 83 g 1 [zl]) (hb : Below ((w.alloc B0).alloc (.map #[] 0)).drew.heap.size ((w.alloc B0).alloc (.map #[] 0)).drew w1) :
    New w (w1.alloc (.cells #[.int .i64 lim, .int .i64 nx, .int .i64 0, .int .i64 0, .slice (some ⟨g, 0, none⟩) 1 1, .slice none 0 0, .map (some (w.heap.size + 1))] 62)) B0 lim nx w1.heap.size := by
  have e : ((w.alloc B0).alloc (.map #[] 0)).drew.heap.size = w.heap.size + 1 + 1 := by show ((w.alloc B0).alloc (.map #[] 0)).heap.size = _; simp
  rw [e] at hg hb
  have hgl : g < w1.heap.size := Row.lt hli
  have hz := hb.size
  rw [e] at hz
  have hm := World.ownsMap_made (w.alloc B0) Try.prog 9 (plainElem (H := Unit) Try.prog 3)
  rw [World.size_alloc] at hm
  refine ⟨[w1.heap.size, g, w.heap.size + 1], shelf_new ?_ ?_ ?_ (by omega) (by omega) (by omega), ?_, ?_⟩
  · exact heap_alloc_new w1 _
  · exact Row.alloc hli _
  · exact (map_below (show ((w.alloc B0).alloc (.map #[] 0)).drew.ownsMap _ _ _ _ _ _ from hm) hb (by omega)).alloc _
  · intro y hy
    simp at hy
    omega
  · exact ((((Below.refl _ (w.alloc B0)).alloc (by simp) _).drew.trans (hb.mono (by omega))).alloc (by omega) _)

set_option maxRecDepth 10000 in
set_option maxHeartbeats 4000000 in
theorem shelfOf_some (lim nx : Int) (b off cap : Nat) (its : List Itm) (w : World) (hb : b < w.heap.size) (hc : ∀ i, i < its.length → At w b (off + i * 5) (its.getD i zero)) (hl : its.length ≤ 100) (hs : ∀ x ∈ its, Small x) (hk : (its.map Itm.key).Nodup) :
    Calls Try.prog 31 #[.agg #[.int .i64 lim, .int .i64 nx, .slice (some ⟨b, off, none⟩) its.length cap]] w fun e w' => ∃ h S, e = .returned (.pointer (some ⟨h, 0, none⟩)) ∧ Shelf w' h S lim nx 0 its ∧ (∀ y ∈ S, w.heap.size ≤ y) ∧ Below w.heap.size w w' := by
  have HC := hide hc
  have HS := hide hs
  have HK := hide hk
  clear hc hs hk
  have hmm := @run_makeMap Try.prog
  go_enter Try.func31, Try.ntmps31
  go_upto_region 1 with fail
  go_cut [3] (fun s3 wx => ∃ (h : Nat), s3 = .pointer (some ⟨h, 0, none⟩) ∧ Hid (New w wx (.cells #[.int .i64 lim, .int .i64 nx, .slice (some ⟨b, off, none⟩) its.length cap] 29) lim nx h))
  case first =>
    have s0 := (bx_a w 29 (.int .i64 lim) (.int .i64 nx) (.slice (some ⟨b, off, none⟩) its.length cap)).1
    have s1 := (bx_a w 29 (.int .i64 lim) (.int .i64 nx) (.slice (some ⟨b, off, none⟩) its.length cap)).2
    have n0 := World.new_ne (w.alloc (.cells #[.int .i64 lim, .int .i64 nx, .slice (some ⟨b, off, none⟩) its.length cap] 29)) _ s0
    have n1 := World.new_ne (w.alloc (.cells #[.int .i64 lim, .int .i64 nx, .slice (some ⟨b, off, none⟩) its.length cap] 29)) _ s1
    go_region_held3 (fun w' => w'.cell? ⟨w.heap.size, 0, none⟩ = some (.int .i64 lim) ∧ w'.cell? ⟨w.heap.size, 1, none⟩ = some (.int .i64 nx)) (first | go_keep | (refine ⟨?_, ?_⟩ <;> first | assumption | (simp [*]; done) | (simp; omega))) (first | (go_at_call 49; refine (newChain_any _).mono ?_; rintro e w1 ⟨g, rfl, hg, hli, hb1⟩; have q0 := (hb1.cell (p := ⟨w.heap.size, 0, none⟩) (by first | (simp [World.drew]; done) | (simp [World.drew]; omega))).trans (by first | exact (bx_a w _ _ _ _).1 | exact (bx_b w _ _ _ _ _).1); have q1 := (hb1.cell (p := ⟨w.heap.size, 1, none⟩) (by first | (simp [World.drew]; done) | (simp [World.drew]; omega))).trans (by first | exact (bx_a w _ _ _ _).2 | exact (bx_b w _ _ _ _ _).2); have hz1 : w.heap.size < w1.heap.size := (by first | exact alloc_lt hb1.size | exact alloc_lt2 hb1.size); have HB1 := hide hb1; have HLI := hide hli; clear hb1 hli))
    all_goals
      go_wp2_with fail
      go_meet
      first | exact ⟨_, rfl, hide (new_a hg (unhide HLI) (unhide HB1))⟩ | exact ⟨_, rfl, hide (new_b hg (unhide HLI) (unhide HB1))⟩
  case rest =>
  obtain ⟨h, rfl, HN⟩ := hcut
  obtain ⟨S0, hs0, hS0, hbel0⟩ := unhide HN
  have hbx := boxcell hbel0
  have HS0 := hide hs0
  have HSS := hide hS0
  have HB0 := hide hbel0
  clear HN hs0 hS0 hbel0
  go_wp2
  go_loopw [17] (fun i wr => ∃ (k : Nat) (S : List Nat), k ≤ its.length ∧ i = .int .i64 k ∧ Hid (Shelf wr h S lim nx 0 (its.take k)) ∧ Hid (∀ y ∈ S, w.heap.size < y) ∧ Hid (Below (w.heap.size + 1) (w.alloc (.cells #[.int .i64 lim, .int .i64 nx, .slice (some ⟨b, off, none⟩) its.length cap] 29)) wr)) (fun i _ => its.length - (intOf i).toNat)
  case atStart => exact ⟨0, S0, Nat.zero_le _, rfl, HS0, HSS, HB0⟩
  case round =>
    obtain ⟨k, S, hk, rfl, hsh, hSS, hbel⟩ := hrel
    have hB : Hid (Below w.heap.size w wr) := (bel1 w _).trans ((unhide hbel).mono (by omega))
    have hzw : w.heap.size + 1 ≤ wr.heap.size := by have := (unhide hbel).size; simp at this; omega
    by_cases hlt : k < its.length
    · obtain ⟨c0, c1, c2, c3, c4⟩ := (unhide HC k hlt).below (unhide hB) hb
      have hsm := hide (small_getD (unhide HS) k hlt)
      have hnk : Hid (∀ y ∈ its.take k, y.key ≠ (its.getD k zero).key) := keys_take (unhide HK) hlt
      have hst : Hid (its.take (k + 1) = its.take k ++ [its.getD k zero]) := by
        show its.take (k + 1) = _
        rw [List.take_succ_eq_append_getElem hlt]
        simp [List.getD_eq_getElem?_getD, List.getElem?_eq_getElem hlt]
      generalize its.getD k zero = x at c0 c1 c2 c3 c4 hsm hnk hst
      clear hbx
      go_wp2_with fail
      refine (putLast_shelf _ h S lim nx 0 (its.take k) x ((unhide hsh).keep ((Keeps.refl [] wr).alloc _) (by simp)) (by simp; omega) (unhide hsm) (unhide hnk)).mono ?_
      rintro e w1 ⟨rfl, S1, hs1, hS1, hk1⟩
      have HS1 : Hid (Shelf w1 h S1 lim nx 0 (its.take (k + 1))) := by
        show Shelf w1 h S1 lim nx 0 (its.take (k + 1))
        rw [unhide hst]; exact hs1
      have HSS1 : Hid (∀ y ∈ S1, w.heap.size < y) := fun y hy => (hS1 y hy).elim (unhide hSS y) (fun e => by simp at e; omega)
      have HB1 := hide (((unhide hbel).alloc (by omega) _).trans (hk1.below (B := w.heap.size + 1) (fun y hy => unhide hSS y hy) (by simp; omega)))
      clear hs1 hS1 hk1
      go_wp2
      go_roundw
      case rel => exact ⟨k + 1, S1, by omega, by go_num, HS1, HSS1, HB1⟩
      case measure => simp [intOf]; omega
    · have et : its.take k = its := List.take_of_length_le (by omega)
      rw [et] at hsh
      go_wp2
      go_ret
      exact ⟨h, S, rfl, unhide hsh, fun y hy => Nat.le_of_lt (unhide hSS y hy), unhide hB⟩
end Shelf
end Go.Proofs.Ythlcmnjaimffdaa
