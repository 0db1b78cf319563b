/-
  The program's newChain and shelfOf: a shelf out of a store's items.
-/
import Derived.Test.YtkodgbalhnbhcaaGreatDoorZ7
import Derived.Deep.RegionHeld3
import Derived.Test.YtkodgbalhnbhcaaGreatDoorZ5
import Derived.Test.YtkodgbalhnbhcaaGreatDoorZ1
namespace Go.Proofs.YtkodgbalhnbhcaaGreatDoor
namespace Shelf
open Go.RowKit Base Items Keep Own Chain Store
set_option linter.unusedVariables false

theorem made_zl : madeCells (Value.agg #[.string ByteArray.empty, .int .i64 0, .string ByteArray.empty, .int .i64 0, .int .i64 0, .int .i64 0, .int .i64 0]).cells 7 = (lcells zl).toArray := by
  kernel_rfl
theorem links_new (w : World) : LinksAt (w.alloc (.cells (lcells zl).toArray 196)) 196 w.heap.size 1 [zl] :=
  ⟨rfl, _, heap_alloc_new w _, Nat.le_refl _, by unfold maxLen; omega, rfl, rfl⟩
theorem make_links (w : World) : (Instr.makeSlice 105 (.int .i64 1) (.int .i64 1)).run Tryz.prog w = .ok (.slice (some ⟨w.heap.size, 0, none⟩) 1 1) (w.alloc (.cells (lcells zl).toArray 196)) := by
  have h := run_make_rows (P := Tryz.prog) 105 196 (.agg #[.string ByteArray.empty, .int .i64 0, .string ByteArray.empty, .int .i64 0, .int .i64 0, .int .i64 0, .int .i64 0]) 7 72 Tryz.underlying105 (by kernel_rfl) .i64 .i64 1 (by omega) (by omega) w
  rw [Nat.one_mul, made_zl] at h
  exact h

set_option maxRecDepth 10000 in
set_option maxHeartbeats 1000000 in
theorem newChain_any (w : World) : Calls Tryz.prog 115 #[] w fun e w' => ∃ g, e = .returned (.agg #[.slice (some ⟨g, 0, none⟩) 1 1, .slice none 0 0]) ∧ w.heap.size ≤ g ∧ LinksAt w' 196 g 1 [zl] ∧ Below w.heap.size w w' := by
  go_enter Tryz.func115, Tryz.ntmps115
  have hmk := make_links
  go_wp2
  refine bodyPost_ret (v := .agg #[.slice (some ⟨w.heap.size + 1, 0, none⟩) 1 1, .slice none 0 0]) (by simp [results, Tryz.results115, go_sem]) rfl ⟨w.heap.size + 1, rfl, by omega, ?_, ?_⟩
  · have h := links_new (w.alloc (.cells #[.slice (some ⟨w.heap.size + 1, 0, none⟩) 1 1, .slice none 0 0] 108))
    rw [World.size_alloc] at h
    exact h
  · exact bel2 w _ _

theorem alloc_lt2 {w w1 : World} {o o2 : Obj} (h : ((w.alloc o).alloc o2).drew.heap.size ≤ w1.heap.size) : w.heap.size < w1.heap.size := by
  have e : ((w.alloc o).alloc o2).drew.heap.size = w.heap.size + 1 + 1 := by show ((w.alloc o).alloc o2).heap.size = _; simp
  omega
theorem keys_take {its : List Itm} (h : (its.map Itm.key).Nodup) {k : Nat} (hk : k < its.length) : ∀ y ∈ its.take k, y.key ≠ (its.getD k zero).key := by
  intro y hy
  have e : its = its.take k ++ its[k] :: its.drop (k + 1) := by rw [← List.drop_eq_getElem_cons hk, List.take_append_drop]
  rw [e, List.map_append, List.nodup_append] at h
  rw [List.getD_eq_getElem?_getD, List.getElem?_eq_getElem hk]
  exact h.2.2 _ (List.mem_map_of_mem hy) _ (List.mem_map.2 ⟨_, List.mem_cons_self, rfl⟩)
theorem bx_a (w : World) (t : TypeId) (v0 v1 v2 : Value) : (w.alloc (.cells #[v0, v1, v2] t)).drew.cell? ⟨w.heap.size, 0, none⟩ = some v0 ∧ (w.alloc (.cells #[v0, v1, v2] t)).drew.cell? ⟨w.heap.size, 1, none⟩ = some v1 := by
  have e : ∀ (W : World) p, W.drew.cell? p = W.cell? p := fun _ _ => rfl
  rw [e, e, World.cell?_alloc_new, World.cell?_alloc_new]
  exact ⟨rfl, rfl⟩
theorem bx_b (w : World) (t : TypeId) (v0 v1 v2 : Value) (o : Obj) : ((w.alloc (.cells #[v0, v1, v2] t)).alloc o).drew.cell? ⟨w.heap.size, 0, none⟩ = some v0 ∧ ((w.alloc (.cells #[v0, v1, v2] t)).alloc o).drew.cell? ⟨w.heap.size, 1, none⟩ = some v1 := by
  have h := bx_a w t v0 v1 v2
  have e : ∀ (W : World) p, W.drew.cell? p = W.cell? p := fun _ _ => rfl
  have e2 : ∀ i, ((w.alloc (.cells #[v0, v1, v2] t)).alloc o).cell? ⟨w.heap.size, i, none⟩ = (w.alloc (.cells #[v0, v1, v2] t)).cell? ⟨w.heap.size, i, none⟩ := fun i => World.cell?_of_block (a := ⟨w.heap.size, i, none⟩) (Below.heap_alloc _ _ _ (by simp))
  rw [e, e, e2, e2]
  exact h

theorem shelf_new {wx : World} {h g bm : Nat} {lim nx : Int} (hB : Box wx h ⟨lim, nx, 0, 0, .map (some bm)⟩ (.slice (some ⟨g, 0, none⟩) 1 1) (.slice none 0 0)) (hl : LinksAt wx 196 g 1 [zl])
    (hm : wx.ownsMap Tryz.prog 9 (plainElem Tryz.prog 3) bm 0 (.map [] : DataW Unit)) (h1 : h ≠ g) (h2 : bm ≠ h) (h3 : bm ≠ g) : Shelf wx h [h, g, bm] lim nx 0 [] :=
  ⟨g, none, bm, [zl], [], [], 1, .slice none 0 0, .map [], ⟨⟨hB, hl, World.ownsRow_nil _ _ _ _, rfl, h1, by simp, by simp⟩, good_new, rfl, by simp, hm, mapIs_new, h2, h3, by simp, rfl, by simp, by simp⟩⟩
/-- What a new shelf is, behind shelfOf's first statement. -/
def New (w wx : World) (B0 : Obj) (lim nx : Int) (h : Nat) : Prop := ∃ S, Shelf wx h S lim nx 0 [] ∧ (∀ y ∈ S, w.heap.size < y) ∧ Below (w.heap.size + 1) (w.alloc B0) wx
theorem new_a {w w1 : World} {B0 : Obj} {lim nx : Int} {g : Nat} (hg : (w.alloc B0).drew.heap.size ≤ g) (hli : LinksAt w1 196 g 1 [zl]) (hb : Below (w.alloc B0).drew.heap.size (w.alloc B0).drew w1) :
    New w ((w1.alloc (.map #[] 0)).alloc (.cells #[.int .i64 lim, .int .i64 nx, .int .i64 0, .int .i64 0, .slice (some ⟨g, 0, none⟩) 1 1, .slice none 0 0, .map (some w1.heap.size)] 111)) B0 lim nx (w1.heap.size + 1) := by
  have e : (w.alloc B0).drew.heap.size = w.heap.size + 1 := by show (w.alloc B0).heap.size = _; simp
  rw [e] at hg hb
  have hgl : g < w1.heap.size := Row.lt hli
  have hz := hb.size
  rw [e] at hz
  refine ⟨[w1.heap.size + 1, g, w1.heap.size], shelf_new ?_ ?_ ?_ (by omega) (by omega) (by omega), ?_, ?_⟩
  · have h1 := heap_alloc_new (w1.alloc (.map #[] 0)) (.cells #[.int .i64 lim, .int .i64 nx, .int .i64 0, .int .i64 0, .slice (some ⟨g, 0, none⟩) 1 1, .slice none 0 0, .map (some w1.heap.size)] 111)
    rw [World.size_alloc] at h1
    exact h1
  · exact (Row.alloc (Row.alloc hli _) _)
  · exact (World.ownsMap_made w1 _ _ _).alloc _
  · intro y hy
    simp at hy
    omega
  · exact (((Below.refl _ (w.alloc B0)).drew.trans hb).alloc (by omega) _).alloc (by simp; omega) _
theorem new_b {w w1 : World} {B0 : Obj} {lim nx : Int} {g : Nat} (hg : ((w.alloc B0).alloc (.map #[] 0)).drew.heap.size ≤ g) (hli : LinksAt w1 196 g 1 [zl]) (hb : Below ((w.alloc B0).alloc (.map #[] 0)).drew.heap.size ((w.alloc B0).alloc (.map #[] 0)).drew w1) :
    New w (w1.alloc (.cells #[.int .i64 lim, .int .i64 nx, .int .i64 0, .int .i64 0, .slice (some ⟨g, 0, none⟩) 1 1, .slice none 0 0, .map (some (w.heap.size + 1))] 111)) B0 lim nx w1.heap.size := by
  have e : ((w.alloc B0).alloc (.map #[] 0)).drew.heap.size = w.heap.size + 1 + 1 := by show ((w.alloc B0).alloc (.map #[] 0)).heap.size = _; simp
  rw [e] at hg hb
  have hgl : g < w1.heap.size := Row.lt hli
  have hz := hb.size
  rw [e] at hz
  have hm := World.ownsMap_made (w.alloc B0) Tryz.prog 9 (plainElem (H := Unit) Tryz.prog 3)
  rw [World.size_alloc] at hm
  refine ⟨[w1.heap.size, g, w.heap.size + 1], shelf_new ?_ ?_ ?_ (by omega) (by omega) (by omega), ?_, ?_⟩
  · exact heap_alloc_new w1 _
  · exact Row.alloc hli _
  · exact (map_below (show ((w.alloc B0).alloc (.map #[] 0)).drew.ownsMap _ _ _ _ _ _ from hm) hb (by omega)).alloc _
  · intro y hy
    simp at hy
    omega
  · exact ((((Below.refl _ (w.alloc B0)).alloc (by simp) _).drew.trans (hb.mono (by omega))).alloc (by omega) _)

set_option maxRecDepth 10000 in
set_option maxHeartbeats 4000000 in
theorem shelfOf_some (lim nx : Int) (b off cap : Nat) (its : List Itm) (w : World) (hb : b < w.heap.size) (hc : ∀ i, i < its.length → At w b (off + i * 5) (its.getD i zero)) (hl : its.length ≤ 100) (hs : ∀ x ∈ its, Small x) (hk : (its.map Itm.key).Nodup) :
    Calls Tryz.prog 109 #[.agg #[.int .i64 lim, .int .i64 nx, .slice (some ⟨b, off, none⟩) its.length cap]] w fun e w' => ∃ h S, e = .returned (.pointer (some ⟨h, 0, none⟩)) ∧ Shelf w' h S lim nx 0 its ∧ (∀ y ∈ S, w.heap.size ≤ y) ∧ Below w.heap.size w w' := by
  have HC := hide hc
  have HS := hide hs
  have HK := hide hk
  clear hc hs hk
  have hmm := @run_makeMap Tryz.prog
  go_enter Tryz.func109, Tryz.ntmps109
  go_upto_region 1 with fail
  go_cut [3] (fun s3 wx => ∃ (h : Nat), s3 = .pointer (some ⟨h, 0, none⟩) ∧ Hid (New w wx (.cells #[.int .i64 lim, .int .i64 nx, .slice (some ⟨b, off, none⟩) its.length cap] 57) lim nx h))
  case first =>
    have s0 := (bx_a w 57 (.int .i64 lim) (.int .i64 nx) (.slice (some ⟨b, off, none⟩) its.length cap)).1
    have s1 := (bx_a w 57 (.int .i64 lim) (.int .i64 nx) (.slice (some ⟨b, off, none⟩) its.length cap)).2
    have n0 := World.new_ne (w.alloc (.cells #[.int .i64 lim, .int .i64 nx, .slice (some ⟨b, off, none⟩) its.length cap] 57)) _ s0
    have n1 := World.new_ne (w.alloc (.cells #[.int .i64 lim, .int .i64 nx, .slice (some ⟨b, off, none⟩) its.length cap] 57)) _ s1
    go_region_held3 (fun w' => w'.cell? ⟨w.heap.size, 0, none⟩ = some (.int .i64 lim) ∧ w'.cell? ⟨w.heap.size, 1, none⟩ = some (.int .i64 nx)) (first | go_keep | (refine ⟨?_, ?_⟩ <;> first | assumption | (simp [*]; done) | (simp; omega))) (first | (go_at_call 115; refine (newChain_any _).mono ?_; rintro e w1 ⟨g, rfl, hg, hli, hb1⟩; have q0 := (hb1.cell (p := ⟨w.heap.size, 0, none⟩) (by first | (simp [World.drew]; done) | (simp [World.drew]; omega))).trans (by first | exact (bx_a w _ _ _ _).1 | exact (bx_b w _ _ _ _ _).1); have q1 := (hb1.cell (p := ⟨w.heap.size, 1, none⟩) (by first | (simp [World.drew]; done) | (simp [World.drew]; omega))).trans (by first | exact (bx_a w _ _ _ _).2 | exact (bx_b w _ _ _ _ _).2); have hz1 : w.heap.size < w1.heap.size := (by first | exact alloc_lt hb1.size | exact alloc_lt2 hb1.size); have HB1 := hide hb1; have HLI := hide hli; clear hb1 hli))
    all_goals
      go_wp2_with fail
      go_meet
      first | exact ⟨_, rfl, hide (new_a hg (unhide HLI) (unhide HB1))⟩ | exact ⟨_, rfl, hide (new_b hg (unhide HLI) (unhide HB1))⟩
  case rest =>
  obtain ⟨h, rfl, HN⟩ := hcut
  obtain ⟨S0, hs0, hS0, hbel0⟩ := unhide HN
  have hbx := boxcell hbel0
  have HS0 := hide hs0
  have HSS := hide hS0
  have HB0 := hide hbel0
  clear HN hs0 hS0 hbel0
  go_wp2
  go_loopw [17] (fun i wr => ∃ (k : Nat) (S : List Nat), k ≤ its.length ∧ i = .int .i64 k ∧ Hid (Shelf wr h S lim nx 0 (its.take k)) ∧ Hid (∀ y ∈ S, w.heap.size < y) ∧ Hid (Below (w.heap.size + 1) (w.alloc (.cells #[.int .i64 lim, .int .i64 nx, .slice (some ⟨b, off, none⟩) its.length cap] 57)) wr)) (fun i _ => its.length - (intOf i).toNat)
  case atStart => exact ⟨0, S0, Nat.zero_le _, rfl, HS0, HSS, HB0⟩
  case round =>
    obtain ⟨k, S, hk, rfl, hsh, hSS, hbel⟩ := hrel
    have hB : Hid (Below w.heap.size w wr) := (bel1 w _).trans ((unhide hbel).mono (by omega))
    have hzw : w.heap.size + 1 ≤ wr.heap.size := by have := (unhide hbel).size; simp at this; omega
    by_cases hlt : k < its.length
    · obtain ⟨c0, c1, c2, c3, c4⟩ := (unhide HC k hlt).below (unhide hB) hb
      have hsm := hide (small_getD (unhide HS) k hlt)
      have hnk : Hid (∀ y ∈ its.take k, y.key ≠ (its.getD k zero).key) := keys_take (unhide HK) hlt
      have hst : Hid (its.take (k + 1) = its.take k ++ [its.getD k zero]) := by
        show its.take (k + 1) = _
        rw [List.take_succ_eq_append_getElem hlt]
        simp [List.getD_eq_getElem?_getD, List.getElem?_eq_getElem hlt]
      generalize its.getD k zero = x at c0 c1 c2 c3 c4 hsm hnk hst
      clear hbx
      go_wp2_with fail
      refine (putLast_shelf _ h S lim nx 0 (its.take k) x ((unhide hsh).keep ((Keeps.refl [] wr).alloc _) (by simp)) (by simp; omega) (unhide hsm) (unhide hnk)).mono ?_
      rintro e w1 ⟨rfl, S1, hs1, hS1, hk1⟩
      have HS1 : Hid (Shelf w1 h S1 lim nx 0 (its.take (k + 1))) := by
        show Shelf w1 h S1 lim nx 0 (its.take (k + 1))
        rw [unhide hst]; exact hs1
      have HSS1 : Hid (∀ y ∈ S1, w.heap.size < y) := fun y hy => (hS1 y hy).elim (unhide hSS y) (fun e => by simp at e; omega)
      have HB1 := hide (((unhide hbel).alloc (by omega) _).trans (hk1.below (B := w.heap.size + 1) (fun y hy => unhide hSS y hy) (by simp; omega)))
      clear hs1 hS1 hk1
      go_wp2
      go_roundw
      case rel => exact ⟨k + 1, S1, by omega, by go_num, HS1, HSS1, HB1⟩
      case measure => simp [intOf]; omega
    · have et : its.take k = its := List.take_of_length_le (by omega)
      rw [et] at hsh
      go_wp2
      go_ret
      exact ⟨h, S, rfl, unhide hsh, fun y hy => Nat.le_of_lt (unhide hSS y hy), unhide hB⟩
end Shelf
end Go.Proofs.YtkodgbalhnbhcaaGreatDoor
/-
  The program's shelf: take, find.
-/
namespace Go.Proofs.YtkodgbalhnbhcaaGreatDoor
namespace Shelf
open Go.RowKit Base Items Keep Own Chain Store
set_option linter.unusedVariables false

theorem hasKey_iff (key : ByteArray) (x : Itm) : hasKey key x = true ↔ x.key = key := by
  unfold hasKey
  constructor
  · intro h
    by_cases e : x.key = key
    · exact e
    · rw [str_ne e] at h; cases h
  · exact fun h => str_eq h
/-- An item that is there, by its place. -/
theorem at_split {its : List Itm} {key : ByteArray} {k : Nat} (h : atN its key = some k) : k < its.length ∧ (its.getD k zero).key = key := by
  have hk := atN_lt h
  refine ⟨hk, ?_⟩
  unfold atN at h
  have := (List.findIdx?_eq_some_iff_getElem.1 h).2.1
  rw [List.getD_eq_getElem?_getD, List.getElem?_eq_getElem hk]
  exact (hasKey_iff _ _).1 this
theorem at_none {its : List Itm} {key : ByteArray} (h : atN its key = none) : ∀ x ∈ its, x.key ≠ key := by
  unfold atN at h
  rw [List.findIdx?_eq_none_iff] at h
  intro x hx e
  have h1 := h x hx
  rw [(hasKey_iff key x).2 e] at h1
  cases h1
theorem order_split {α : Type} {l : List α} {k : Nat} (hk : k < l.length) : l = l.take k ++ l[k] :: l.drop (k + 1) := by rw [← List.drop_eq_getElem_cons hk, List.take_append_drop]
theorem total_erase {its : List Itm} {k : Nat} (hk : k < its.length) : total its = total (its.eraseIdx k) + charge (its.getD k zero) := by
  rw [List.eraseIdx_eq_take_drop_succ, total_append]
  have e := congrArg total (order_split hk)
  rw [total_append] at e
  rw [List.getD_eq_getElem?_getD, List.getElem?_eq_getElem hk]
  simp only [total, Option.getD_some] at e ⊢
  omega

theorem zeroI (w : World) : (zeroValue 3).run Tryz.prog w = .ok (.int .i64 0) w := by kernel_rfl
theorem look_miss {w : World} {hb : Nat} {S : List Nat} {lim nx lost : Int} {its : List Itm} {gl : Nat} {gf : Option Nat} {bm : Nat} {ls : List Lnk} {free order : List Nat} {cl : Nat} {vf : Value} {D : DataW Unit} {key : ByteArray}
    (hp : Parts w hb S lim nx lost its gl gf bm ls free order cl vf D) (hkey : key.size ≤ maxLen) (hn : atN its key = none) :
    (Instr.lookup 109 (.map (some bm)) (.string key) true).run Tryz.prog w = .ok (.tuple #[.int .i64 0, .bool false]) w := by
  have hno : Maps.has D (kk key) = false := hp.map.miss key (fun p hpo => at_none hn _ (keys_of hp.items p hpo))
  obtain ⟨v, ps, hrun, hv⟩ := hp.own.look_ok keyLaw Tryz.underlying109 (zeroI w) (plainElem_int (H := Unit) (a := 0) Tryz.underlying3 (by decide)) (key := .string key) (kl := kk key) (Go.WideMaps.keyOf_string_mk Tryz.underlying9 hkey)
  rw [Maps.atKey_of_not_has hno] at hv
  obtain ⟨c, rfl, hc, _⟩ := plainElem_int_inv Tryz.underlying3 hv
  simp only [Prod.mk.injEq, DataW.lit.injEq, Lit.int.injEq, true_and] at hc
  rw [hno, ← hc.1] at hrun
  exact hrun
theorem look_hit {w : World} {hb : Nat} {S : List Nat} {lim nx lost : Int} {its : List Itm} {gl : Nat} {gf : Option Nat} {bm : Nat} {ls : List Lnk} {free order : List Nat} {cl : Nat} {vf : Value} {D : DataW Unit} {key : ByteArray} {k : Nat}
    (hp : Parts w hb S lim nx lost its gl gf bm ls free order cl vf D) (hkey : key.size ≤ maxLen) (hn : atN its key = some k) :
    ∃ p, (Instr.lookup 109 (.map (some bm)) (.string key) true).run Tryz.prog w = .ok (.tuple #[.int .i64 (p : Nat), .bool true]) w ∧ order = order.take k ++ p :: order.drop (k + 1) ∧ (lk ls p).val = its.getD k zero := by
  obtain ⟨hk, hkk⟩ := at_split hn
  have hko : k < order.length := by rw [← items_len ls order, hp.items]; exact hk
  have hval : (lk ls order[k]).val = its.getD k zero := by
    have := hp.items
    subst this
    simp [itemsOf, List.getD_eq_getElem?_getD, List.getElem?_eq_getElem hko]
  have hh := hp.map.hit order[k] (List.getElem_mem _)
  rw [hval, hkk] at hh
  obtain ⟨v, ps, hrun, hv⟩ := hp.own.look_ok keyLaw Tryz.underlying109 (zeroI w) (plainElem_int (H := Unit) (a := 0) Tryz.underlying3 (by decide)) (key := .string key) (kl := kk key) (Go.WideMaps.keyOf_string_mk Tryz.underlying9 hkey)
  rw [hh.2] at hv
  obtain ⟨c, rfl, hc, _⟩ := plainElem_int_inv Tryz.underlying3 hv
  simp only [Prod.mk.injEq, DataW.lit.injEq, Lit.int.injEq, true_and] at hc
  rw [hh.1, ← hc.1] at hrun
  exact ⟨order[k], hrun, order_split hko, hval⟩

set_option maxRecDepth 10000 in
set_option maxHeartbeats 1000000 in
/-- A key that is not there. -/
theorem take_none (w : World) (hb : Nat) (S : List Nat) (lim nx lost : Int) (its : List Itm) (key : ByteArray) (hs : Shelf w hb S lim nx lost its) (hkey : key.size ≤ maxLen) (hn : atN its key = none) :
    Calls Tryz.prog 151 #[.pointer (some ⟨hb, 0, none⟩), .string key] w fun e w' => e = .returned (.tuple #[.agg #[.string ByteArray.empty, .int .i64 0, .string ByteArray.empty, .int .i64 0, .int .i64 0], .bool false]) ∧ Below w.heap.size w w' := by
  obtain ⟨gl, gf, bm, ls, free, order, cl, vf, D, hp⟩ := hs
  obtain ⟨c0, c1, c2, c3, c4, c5, c6⟩ := hp.mem.box.cells
  have hlt := hp.mem.box.lt
  have hrun := look_miss (hp.keep ((Keeps.refl [] w).alloc (.cells #[.string ⟨#[]⟩, .int .i64 0, .string ⟨#[]⟩, .int .i64 0, .int .i64 0] 85)) (by simp)) hkey hn
  clear c0 c1 c2 c3 c4 c5 hp hn hkey
  go_enter Tryz.func151, Tryz.ntmps151
  go_wp2
  refine bodyPost_ret (v := .tuple #[.agg #[.string ⟨#[]⟩, .int .i64 0, .string ⟨#[]⟩, .int .i64 0, .int .i64 0], .bool false]) (by simp [results, Tryz.results151, go_sem]; done) rfl ⟨rfl, ?_⟩
  exact bel1 w _

theorem take_step {w w0 w1 w2 w3 : World} {hb : Nat} {S : List Nat} {lim nx lost : Int} {its : List Itm} {gl : Nat} {gf gf' : Option Nat} {bm : Nat} {ls : List Lnk} {free order : List Nat} {cl : Nat} {vf vf' : Value} {D : DataW Unit} {key : ByteArray} {k p : Nat}
    (hp : Parts w hb S lim nx lost its gl gf bm ls free order cl vf D) (hn : atN its key = some k) (ho : order = order.take k ++ p :: order.drop (k + 1)) (hv : (lk ls p).val = its.getD k zero)
    (k1 : Keeps ([hb, gl] ++ gf.toList) w w1) (hm1 : Mem w1 hb ⟨lim, nx, total its, lost, .map (some bm)⟩ gl gf' (takeL ls p) (free ++ [p]) cl vf') (hgf : gf' = gf ∨ ∃ g, gf' = some g ∧ w.heap.size ≤ g)
    (hown2 : w2.ownsMap Tryz.prog 9 (plainElem Tryz.prog 3) bm its.length (D.del (kk key))) (hturn : w1.mapTurned w2 bm) (k3 : Keeps [] w2 w3) :
    Step w (w3.setCell ⟨hb, 2, none⟩ (.int .i64 (total its - charge (its.getD k zero)))) hb S lim nx lost (its.eraseIdx k) := by
  obtain ⟨hk, hkk⟩ := at_split hn
  have hG : Chain.Good ls free (order.take k ++ p :: order.drop (k + 1)) := by rw [← ho]; exact hp.good
  have hbl : bm < w.heap.size := hp.own.lt
  have hg3 : gf' ≠ some bm := by
    rcases hgf with e | ⟨g, e, hge⟩
    · rw [e]; exact hp.m3
    · rw [e]; intro e2; simp at e2; omega
  have k2 := keeps_turned hturn
  have hm2 := hm1.keep k2 (by simp; exact Ne.symm hp.m1) (by simp; exact Ne.symm hp.m2) (fun g hg => by simp; intro e; exact hg3 (by rw [hg, e]))
  have hm3 := hm2.keep k3 (by simp) (by simp) (by simp)
  have hitems : itemsOf ls (order.take k ++ order.drop (k + 1)) = its.eraseIdx k := by
    rw [List.eraseIdx_eq_take_drop_succ, ← hp.items]
    simp [itemsOf]
  have hkn : ∀ q ∈ order.take k ++ order.drop (k + 1), (lk ls q).val.key ≠ (lk ls p).val.key := by
    intro q hq e
    have h1 := hp.keys
    rw [order_split hk, List.map_append, List.map_cons, List.nodup_append] at h1
    have hpk : (lk ls p).val.key = its[k].key := by rw [hv, List.getD_eq_getElem?_getD, List.getElem?_eq_getElem hk]; rfl
    rw [hpk] at e
    have e1 : itemsOf ls (order.take k) = its.take k := by rw [← hp.items]; simp [itemsOf]
    have e2 : itemsOf ls (order.drop (k + 1)) = its.drop (k + 1) := by rw [← hp.items]; simp [itemsOf]
    rcases List.mem_append.1 hq with h2 | h2
    · exact h1.2.2 _ (List.mem_map_of_mem (keys_of e1 q h2)) _ (by simp) e
    · exact (List.nodup_cons.1 h1.2.1).1 (e ▸ List.mem_map_of_mem (keys_of e2 q h2))
  have hmap : MapIs (D.del (kk key)) (takeL ls p) (order.take k ++ order.drop (k + 1)) := by
    have h0 : MapIs D ls (order.take k ++ p :: order.drop (k + 1)) := by rw [← ho]; exact hp.map
    have h1 := h0.del (hp.own.tidy keyLaw) hkn
    rw [hv, hkk] at h1
    obtain ⟨ha, hb', _, _⟩ := mid_lt hG
    exact h1.congr (fun q _ => (takeL_at ha hb' q).1)
  have hsz : (its.eraseIdx k).length = its.length - 1 := List.length_eraseIdx_of_lt hk
  have ht : total its - charge (its.getD k zero) = total (its.eraseIdx k) := by rw [total_erase hk]; omega
  rw [ht]
  refine ⟨[hb, gl, bm] ++ gf'.toList, ⟨gl, gf', bm, takeL ls p, free ++ [p], order.take k ++ order.drop (k + 1), cl, vf', D.del (kk key), ?_⟩, ?_, ?_⟩
  · refine ⟨mem_set hm3 (box_set2 hm3.box _), hG.take, ?_, ?_, ?_, hmap, hp.m1, hp.m2, hg3, rfl, ?_, ?_⟩
    · rw [items_take hG, hitems]
    · rw [takeL_len]; exact hp.len
    · have h1 := (k3.map hown2 (by simp)).setCell (a := ⟨hb, 2, none⟩) hp.m1 (.int .i64 (total (its.eraseIdx k)))
      refine map_tight h1 ?_
      rw [hmap.size, hsz]
      have : order.length = its.length := by rw [← hp.items, items_len]
      simp
      omega
    · exact hp.keys.sublist ((List.eraseIdx_sublist its k).map Itm.key)
    · exact fun x hx => hp.small x (List.eraseIdx_subset hx)
  · intro b hbm
    rw [hp.blocks]
    simp only [List.mem_append, List.mem_cons, List.not_mem_nil, or_false, Option.mem_toList] at hbm ⊢
    rcases hbm with (h1 | h1 | h1) | h1
    · exact .inl (.inl (.inl h1))
    · exact .inl (.inl (.inr (.inl h1)))
    · exact .inl (.inl (.inr (.inr h1)))
    · rcases hgf with e | ⟨g, e, hge⟩
      · exact .inl (.inr (e ▸ h1))
      · rw [e] at h1; simp at h1; exact .inr (by omega)
  · have k1' : Keeps S w w1 := k1.mono (fun y hy => by rw [hp.blocks]; simp only [List.mem_append, List.mem_cons, List.not_mem_nil, or_false] at hy ⊢; rcases hy with (e | e) | e <;> simp [e])
    exact ((k1'.trans k2 (fun y hy => .inl (by rw [hp.blocks]; simp at hy ⊢; simp [hy]))).trans k3 (by simp)).setCell (.inl (by rw [hp.blocks]; simp)) _

/-- The box of what is handed back, the call's first block, is written at the end. -/
theorem Step.result {w w4 w5 : World} {o : Obj} {hb : Nat} {S : List Nat} {lim nx lost : Int} {its : List Itm} (h : Step (w.alloc o) w4 hb S lim nx lost its) (ho : One w4 w5 w.heap.size) (hS : ∀ b ∈ S, b < w.heap.size) : Step w w5 hb S lim nx lost its := by
  obtain ⟨S', hs, hS', hk⟩ := h
  have hk5 : Keeps [w.heap.size] w4 w5 := ⟨ho.os, ho.tape, ho.output, ho.size, fun k _ hn => ho.block k (by simpa using hn)⟩
  refine ⟨S', hs.keep hk5 (fun b hb' => ?_), fun b hb' => ?_, ?_⟩
  · rcases hS' b hb' with h1 | h1
    · have := hS b h1; simp; omega
    · simp at h1; simp; omega
  · exact (hS' b hb').imp id (fun e => by simp at e; omega)
  · exact (((Keeps.refl S w).alloc o).trans hk (fun y hy => .inl hy)).trans hk5 (fun y hy => by simp at hy; right; omega)

set_option maxRecDepth 10000 in
set_option maxHeartbeats 2000000 in
/-- A key that is there: its item goes, and is handed back. -/
theorem take_some (w : World) (hb : Nat) (S : List Nat) (lim nx lost : Int) (its : List Itm) (key : ByteArray) (k : Nat) (hs : Shelf w hb S lim nx lost its) (hl : its.length ≤ 100) (hkey : key.size ≤ maxLen) (hn : atN its key = some k) :
    Calls Tryz.prog 151 #[.pointer (some ⟨hb, 0, none⟩), .string key] w fun e w' => e = .returned (.tuple #[itemV (its.getD k zero), .bool true]) ∧ Step w w' hb S lim nx lost (its.eraseIdx k) := by
  obtain ⟨gl, gf, bm, ls, free, order, cl, vf, D, hp⟩ := hs
  obtain ⟨c0, c1, c2, c3, c4, c5, c6⟩ := hp.mem.box.cells
  have hlt := hp.mem.box.lt
  have hp1 := hp.keep ((Keeps.refl [] w).alloc (.cells #[.string ⟨#[]⟩, .int .i64 0, .string ⟨#[]⟩, .int .i64 0, .int .i64 0] 85)) (by simp)
  obtain ⟨p, hrun, ho, hv⟩ := look_hit hp1 hkey hn
  have hkl : keyOf Tryz.prog 9 (.string key) = some (kk key) := Go.WideMaps.keyOf_string_mk Tryz.underlying9 hkey
  have hsm : Small (its.getD k zero) := small_getD hp.small k (at_split hn).1
  have htot := total_small hp.small (by omega)
  have hch : 0 ≤ charge (its.getD k zero) ∧ charge (its.getD k zero) ≤ 2097162 := by have := hsm; unfold Small at this; unfold charge; omega
  have HO := hide ho
  have HV := hide hv
  have HP := hide hp
  have HP1 := hide hp1
  have HKL := hide hkl
  have HN := hide hn
  have HSM := hide hsm
  have hws : w.heap.size ∉ [hb, gl] ++ gf.toList := by
    have h1 := hp.lt
    have h2 : ∀ y ∈ [hb, gl] ++ gf.toList, y < w.heap.size := fun y hy => h1 y (by
      rw [hp.blocks]
      simp only [List.mem_append, List.mem_cons, List.not_mem_nil, or_false] at hy ⊢
      rcases hy with (e | e) | e <;> simp [e])
    intro h3
    have := h2 _ h3
    omega
  clear c0 c1 c2 c3 c4 c5 hp hp1 ho hv hkl hn hkey hsm
  go_enter Tryz.func151, Tryz.ntmps151
  go_wp2_with fail
  refine (take_any _ hb _ gl gf ls free (order.take k) (order.drop (k + 1)) p cl vf (unhide HP1).mem (by have := (unhide HP1).good; rw [unhide HO] at this; exact this) (by have := (unhide HP1).len; omega)).mono ?_
  rintro e w1 ⟨gf1, vf1, rfl, hm1, hgf1, hk1⟩
  rw [unhide HV]
  simp only [World.size_alloc] at hgf1
  obtain ⟨d0, d1, d2, d3, d4, d5, d6⟩ := hm1.box.cells
  have hlt1 := hm1.box.lt
  have hr1 := fun o => hk1.cell (b := w.heap.size) (o := o) (by simp) hws
  have hrf1 := fun o => hk1.frozen (b := w.heap.size) (o := o) (by simp) hws
  have hzw : w.heap.size < w1.heap.size := by have := hk1.size; simp at this; omega
  have hbm1 : bm ∉ [hb, gl] ++ gf.toList := by
    have h1 := (unhide HP).m1
    have h2 := (unhide HP).m2
    have h3 := (unhide HP).m3
    simp only [List.mem_append, List.mem_cons, List.not_mem_nil, or_false, Option.mem_toList, not_or]
    exact ⟨⟨h1, h2⟩, h3⟩
  have hown1 := hide (hk1.map (unhide HP1).own hbm1)
  have HK1 := hide hk1
  have HM1 := hide hm1
  have HGF : Hid (gf1 = gf ∨ ∃ g, gf1 = some g ∧ (w.alloc (.cells #[.string ⟨#[]⟩, .int .i64 0, .string ⟨#[]⟩, .int .i64 0, .int .i64 0] 85)).heap.size ≤ g) := by
    show _ ∨ _
    rw [World.size_alloc]
    exact hgf1
  have hbmlt := (unhide HP).own.lt
  have hbmh := (unhide HP).m1
  clear d0 d1 d2 d3 d4 d5 hk1 hm1 hgf1
  generalize hx : its.getD k zero = x at HSM hch
  go_wp2_with (at_delete; go_loud (refine wpList_delete_own _ rfl _ _ 109 9 rfl 3 keyLaw Tryz.underlying109 _ bm its.length D rfl ((unhide hown1).alloc _) _ _ rfl (unhide HKL) ?_))
  intro w2 hown2 hturn2
  have hg2 := hturn2.grown
  have hm1' := (unhide HM1).keep ((Keeps.refl [] w1).alloc (.cells #[.string x.key, .int .i64 x.flags, .string x.data, .int .i64 x.upto, .int .i64 x.token] 85)) (by simp) (by simp) (by simp)
  have hb2 := hm1'.box.of_block (hg2.block hb hm1'.box.lt (by simp; exact Ne.symm hbmh))
  obtain ⟨e0, e1, e2, e3, e4, e5, e6⟩ := hb2.cells
  have f2 := hb2.frozen 2
  have hlt2 := hb2.lt
  have hz2 : w1.heap.size < w2.heap.size := by have := hg2.size; simp at this; omega
  have hix : ∀ o, w2.cell? ⟨w1.heap.size, o, none⟩ = (w1.alloc (.cells #[.string x.key, .int .i64 x.flags, .string x.data, .int .i64 x.upto, .int .i64 x.token] 85)).cell? ⟨w1.heap.size, o, none⟩ := fun o => World.cell?_of_block (a := ⟨w1.heap.size, o, none⟩) (hg2.block w1.heap.size (by simp) (by simp; omega))
  have hrb := (hg2.block w.heap.size (by simp; omega) (by simp; omega)).trans (Below.heap_alloc _ _ _ hzw)
  have hrx : ∀ o, w2.cell? ⟨w.heap.size, o, none⟩ = w1.cell? ⟨w.heap.size, o, none⟩ := fun o => World.cell?_of_block (a := ⟨w.heap.size, o, none⟩) hrb
  have hrfx : ∀ o, w2.frozen? ⟨w.heap.size, o, none⟩ = w1.frozen? ⟨w.heap.size, o, none⟩ := fun o => World.frozen?_of_block (a := ⟨w.heap.size, o, none⟩) hrb
  have HF := hide (fun w3 k3 => take_step (w0 := w) (w3 := w3) (unhide HP1) (unhide HN) (unhide HO) (unhide HV) ((unhide HK1).alloc _) hm1' (unhide HGF) hown2 hturn2 k3)
  rw [hx] at HF
  have hcc : IntKind.i64.wrap (total its - charge x) = total its - charge x := by rw [IntKind.wrap_i64]; omega
  have hcal := fun w => chargeOf_any x w (unhide HSM)
  clear e0 e1 e3 e4 e5 e6 hg2 hm1' hb2 hown2 hturn2 d6 hrun
  generalize charge x = c at HF hch hcc hcal
  generalize total its = t at HF e2 htot hcc
  have HC := hide hcal
  clear hcal
  go_wp2_with fail
  go_region_with (go_at_call 137; refine (unhide HC _).mono ?_; rintro e w3 ⟨rfl, hb3⟩; have g2 := hb3.cell (p := ⟨hb, 2, none⟩) (show hb < w2.drew.heap.size from hlt2); have gf2 := hb3.frozen (p := ⟨hb, 2, none⟩) (show hb < w2.drew.heap.size from hlt2); have gx := fun o => hb3.cell (p := ⟨w1.heap.size, o, none⟩) (show w1.heap.size < w2.drew.heap.size from hz2); have gr := fun o => hb3.cell (p := ⟨w.heap.size, o, none⟩) (show w.heap.size < w2.drew.heap.size by (show w.heap.size < w2.heap.size; omega)); have grf := fun o => hb3.frozen (p := ⟨w.heap.size, o, none⟩) (show w.heap.size < w2.drew.heap.size by (show w.heap.size < w2.heap.size; omega)); have HB3 := hide hb3; clear hb3)
  all_goals
    have k3 : Keeps [] w2 w3 := (Keeps.refl [] w2).drew.trans (Keeps.of_below (S := []) (unhide HB3) (fun _ h1 _ => h1)) (by simp)
    have HF4 := hide (unhide HF w3 k3)
    have O4 := (One.refl w3 hb).set 2 (.int .i64 (t - c))
    have j0 : ∀ o, (w3.setCell ⟨hb, 2, none⟩ (.int .i64 (t - c))).cell? ⟨w1.heap.size, o, none⟩ = (w1.alloc (.cells #[.string x.key, .int .i64 x.flags, .string x.data, .int .i64 x.upto, .int .i64 x.token] 85)).cell? ⟨w1.heap.size, o, none⟩ := fun o => (World.cell?_of_block (a := ⟨w1.heap.size, o, none⟩) (O4.block _ (by simp; omega))).trans ((gx o).trans (hix o))
    have j1 : ∀ o, (w3.setCell ⟨hb, 2, none⟩ (.int .i64 (t - c))).cell? ⟨w.heap.size, o, none⟩ = (w.alloc (.cells #[.string ⟨#[]⟩, .int .i64 0, .string ⟨#[]⟩, .int .i64 0, .int .i64 0] 85)).cell? ⟨w.heap.size, o, none⟩ := fun o => (World.cell?_of_block (a := ⟨w.heap.size, o, none⟩) (O4.block _ (by simp; omega))).trans ((gr o).trans ((hrx o).trans (hr1 o)))
    have j2 : ∀ o, (w3.setCell ⟨hb, 2, none⟩ (.int .i64 (t - c))).frozen? ⟨w.heap.size, o, none⟩ = (w.alloc (.cells #[.string ⟨#[]⟩, .int .i64 0, .string ⟨#[]⟩, .int .i64 0, .int .i64 0] 85)).frozen? ⟨w.heap.size, o, none⟩ := fun o => (World.frozen?_of_block (a := ⟨w.heap.size, o, none⟩) (O4.block _ (by simp; omega))).trans ((grf o).trans ((hrfx o).trans (hrf1 o)))
    clear O4 gx gr grf hix hrx hrfx hr1 hrf1 g2 gf2 e2 f2 hlt2 hz2 hrb HB3 k3
    generalize (w3.setCell ⟨hb, 2, none⟩ (.int .i64 (t - c))) = w4 at HF4 j0 j1 j2 ⊢
    go_wp2
    refine bodyPost_ret (v := .tuple #[itemV x, .bool true]) (by simp [results, Tryz.results151, go_sem, itemV, j1]; done) rfl ⟨by rw [hx], ?_⟩
    refine (unhide HF4).result ?_ ?_
    · repeat (refine One.set ?_ _ _)
      exact One.refl _ _
    · exact (unhide HP).lt
end Shelf
end Go.Proofs.YtkodgbalhnbhcaaGreatDoor
/-
  The program's shelf: isOld, dropOld.
-/
namespace Go.Proofs.YtkodgbalhnbhcaaGreatDoor
namespace Shelf
open Go.RowKit Base Items Keep Own Chain Store
set_option linter.unusedVariables false

set_option maxRecDepth 10000 in
set_option maxHeartbeats 400000 in
theorem isOld_any (x : Itm) (now : Int) (w : World) :
    Calls Tryz.prog 72 #[.agg #[.string x.key, .int .i64 x.flags, .string x.data, .int .i64 x.upto, .int .i64 x.token], .int .i64 now] w fun e w' => e = .returned (.bool (oldB x now)) ∧ Below w.heap.size w w' := by
  cases h : (x.upto != 0)
  · have H : Hid (oldB x now = false) := by show oldB x now = false; rw [oldB, h]; rfl
    go_enter Tryz.func72, Tryz.ntmps72
    go_wp2
    go_ret
    exact ⟨ret_bool (unhide H).symm, bel1 w _⟩
  · have H : Hid (oldB x now = decide (x.upto ≤ now)) := by show oldB x now = _; rw [oldB, h]; rfl
    go_enter Tryz.func72, Tryz.ntmps72
    go_wp2
    go_ret
    exact ⟨ret_bool (unhide H).symm, bel1 w _⟩

theorem step_refl {w : World} {hb : Nat} {S : List Nat} {lim nx lost : Int} {its : List Itm} (h : Shelf w hb S lim nx lost its) : Step w w hb S lim nx lost its := ⟨S, h, fun b hb' => .inl hb', Keeps.refl _ _⟩
/-- Steps one behind the other, with what lies between. -/
theorem step_go {w w1 w2 : World} {hb : Nat} {S S1 : List Nat} {lim nx lost : Int} {its : List Itm} (hk : Keeps S w w1) (hS : ∀ b ∈ S1, b ∈ S ∨ w.heap.size ≤ b) (h : Step w1 w2 hb S1 lim nx lost its) : Step w w2 hb S lim nx lost its := by
  obtain ⟨S2, hs, hS2, hk2⟩ := h
  exact ⟨S2, hs, fun b hb' => (hS2 b hb').elim (hS b) (fun e => .inr (Nat.le_trans hk.size e)), hk.trans hk2 hS⟩
theorem at_mid {l1 l2 : List Itm} {x : Itm} (h : ((l1 ++ x :: l2).map Itm.key).Nodup) : atN (l1 ++ x :: l2) x.key = some l1.length := by
  rw [List.map_append, List.map_cons, List.nodup_append] at h
  refine atN_hit (by simp) (fun j hj => ?_) ?_
  · rw [List.getD_eq_getElem?_getD, List.getElem?_append_left hj, List.getElem?_eq_getElem hj]
    cases e : hasKey x.key l1[j]
    · exact e
    · exact absurd ((hasKey_iff _ _).1 e) (h.2.2 _ (List.mem_map_of_mem (List.getElem_mem hj)) _ (by simp))
  · simp [List.getD_eq_getElem?_getD]
    exact (hasKey_iff _ _).2 rfl
theorem erase_mid {α : Type} (l1 l2 : List α) (x : α) : (l1 ++ x :: l2).eraseIdx l1.length = l1 ++ l2 := by
  rw [List.eraseIdx_append_of_length_le (Nat.le_refl _)]
  simp
theorem get_mid (l1 l2 : List Itm) (x : Itm) : (l1 ++ x :: l2).getD l1.length zero = x := by simp [List.getD_eq_getElem?_getD]

/-- The items behind k rounds of dropOld. -/
def mid (its : List Itm) (now : Int) (k : Nat) : List Itm := keepB (its.take k) now ++ its.drop k
theorem mid_0 (its : List Itm) (now : Int) : mid its now 0 = its := by simp [mid, keepB]
theorem mid_all (its : List Itm) (now : Int) : mid its now its.length = keepB its now := by simp [mid]
theorem mid_cons (its : List Itm) (now : Int) {k : Nat} (hk : k < its.length) : mid its now k = keepB (its.take k) now ++ its.getD k zero :: its.drop (k + 1) := by
  unfold mid
  rw [List.drop_eq_getElem_cons hk, List.getD_eq_getElem?_getD, List.getElem?_eq_getElem hk]
  rfl
theorem mid_old (its : List Itm) (now : Int) {k : Nat} (hk : k < its.length) (h : oldB (its.getD k zero) now = true) : mid its now (k + 1) = keepB (its.take k) now ++ its.drop (k + 1) := by
  unfold mid
  rw [keep_step its now k hk, if_pos h, List.append_nil]
theorem mid_new (its : List Itm) (now : Int) {k : Nat} (hk : k < its.length) (h : oldB (its.getD k zero) now = false) : mid its now (k + 1) = mid its now k := by
  rw [mid_cons its now hk]
  unfold mid
  rw [keep_step its now k hk, if_neg (by rw [h]; simp)]
  simp
theorem mid_len (its : List Itm) (now : Int) (k : Nat) : (mid its now k).length ≤ its.length := by
  have := keep_len its now k
  unfold mid
  have h2 : (keepB (its.take k) now).length ≤ (its.take k).length := List.length_filter_le _ _
  simp at h2 ⊢
  omega

theorem row_at {w : World} {t : TypeId} {g cap : Nat} {its : List Itm} (h : Row w t 5 g its.length cap (flat its)) {k : Nat} (hk : k < its.length) : At w g (k * 5) (its.getD k zero) := by
  have hc : ∀ i, i < 5 → w.cell? ⟨g, k * 5 + i, none⟩ = some (icell its (k * 5 + i)) := fun i hi => Row.cell h (flat_get its _ (by omega))
  refine ⟨?_, ?_, ?_, ?_, ?_⟩
  · have := hc 0 (by omega); rw [Nat.add_zero] at this; rw [this, icell, show (k * 5) % 5 = 0 by omega, show (k * 5) / 5 = k by omega]; simp
  · rw [hc 1 (by omega), icell, show (k * 5 + 1) % 5 = 1 by omega, show (k * 5 + 1) / 5 = k by omega]; simp
  · rw [hc 2 (by omega), icell, show (k * 5 + 2) % 5 = 2 by omega, show (k * 5 + 2) / 5 = k by omega]; simp
  · rw [hc 3 (by omega), icell, show (k * 5 + 3) % 5 = 3 by omega, show (k * 5 + 3) / 5 = k by omega]; simp
  · rw [hc 4 (by omega), icell, show (k * 5 + 4) % 5 = 4 by omega, show (k * 5 + 4) / 5 = k by omega]; simp
theorem shelf_keys {w : World} {hb : Nat} {S : List Nat} {lim nx lost : Int} {its : List Itm} (h : Shelf w hb S lim nx lost its) : (its.map Itm.key).Nodup ∧ ∀ x ∈ its, Small x := by
  obtain ⟨gl, gf, bm, ls, free, order, cl, vf, D, hp⟩ := h
  exact ⟨hp.keys, hp.small⟩

set_option maxRecDepth 10000 in
set_option maxHeartbeats 2000000 in
theorem dropOld_shelf (w : World) (hb : Nat) (S : List Nat) (lim nx lost : Int) (its : List Itm) (now : Int) (hs : Shelf w hb S lim nx lost its) (hl : its.length ≤ 100) :
    Calls Tryz.prog 120 #[.pointer (some ⟨hb, 0, none⟩), .int .i64 now] w fun e w' => e = .returned (.int .i64 (its.length - (keepB its now).length)) ∧ Step w w' hb S lim nx lost (keepB its now) := by
  have HS := hide hs
  obtain ⟨gl, gf, bm, ls, free, order, cl, vf, D, hp⟩ := hs
  have hol : order.length = its.length := by rw [← hp.items, items_len]
  have hval := fun w' (hk : Below w.heap.size w w') => values_any w' hb _ gl gf ls free order cl vf (hp.keep (Keeps.of_below (S := []) hk (fun _ h1 _ => h1)) (by simp)).mem hp.good (by have := hp.len; omega)
  rw [hp.items, hol] at hval
  have HV := hide hval
  have hSl := hide (hp.lt)
  clear hval hp
  go_enter Tryz.func120, Tryz.ntmps120
  go_wp2_with fail
  refine (unhide HV _ (Below.refl _ _)).mono ?_
  rintro e w1 ⟨va, vc, rfl, hown, hb1⟩
  have HO := hide hown
  have HB1 := hide hb1
  have HS1 := hide ((unhide HS).below hb1)
  clear hown hb1 HV
  have hz1 : w.heap.size ≤ w1.heap.size := (unhide HB1).size
  go_wp2_with fail
  go_loopw [5, 13] (fun t i wr => ∃ (k : Nat) (z : Int), k ≤ its.length ∧ i = .int .i64 k ∧ t = .int .i64 z ∧ Hid (z = k - (keepB (its.take k) now).length) ∧ Hid (Step w1 wr hb S lim nx lost (mid its now k))) (fun _ i _ => its.length - (intOf i).toNat)
  case atStart => exact ⟨0, 0, Nat.zero_le _, rfl, rfl, hide (by simp [keepB]), hide (by rw [mid_0]; exact step_refl (unhide HS1))⟩
  case round =>
    obtain ⟨k, z, hk, rfl, rfl, hz, hst⟩ := hrel
    obtain ⟨Sk, hsk, hSk, hkk⟩ := unhide hst
    by_cases hlt : k < its.length
    · obtain ⟨g, cap, hva, hg, hrow⟩ := Row.of_owns (unhide HO) (by omega)
      simp only [Value.slice.injEq, true_and] at hva
      obtain ⟨rfl, rfl⟩ := hva
      have hgS : g ∉ S := fun hm => by have := unhide hSl g hm; omega
      have hrow2 := hrow.keep hkk hgS
      obtain ⟨c0, c1, c2, c3, c4⟩ := row_at hrow2 hlt
      have hkz : (keepB (its.take k) now).length ≤ k := keep_len its now k
      have hzb : 0 ≤ z ∧ z ≤ 100 := by have := unhide hz; omega
      have hkl := hide (keep_step its now k hlt)
      have hm1 := hide (mid_cons its now hlt)
      have hm2 := hide (mid_old its now hlt)
      have hm3 := hide (mid_new its now hlt)
      have hks := hide (shelf_keys hsk)
      have hml := mid_len its now k
      have HSK := hide hsk
      have HSS := hide hSk
      have HKK := hide hkk
      clear hrow hrow2 hsk hSk hkk hst
      generalize its.getD k zero = x at c0 c1 c2 c3 c4 hkl hm1 hm2 hm3
      cases ho : oldB x now
      · rw [ho] at hkl
        have H3 := hide (unhide hm3 ho)
        have HO' := hide ho
        clear ho hm1 hm2 hm3
        go_wp2_with fail
        refine (isOld_any x now _).mono ?_
        rintro e w2 ⟨rfl, hb2⟩
        rw [unhide HO']
        have K2 := hide ((Keeps.refl [] wr).alloc (.cells #[.string x.key, .int .i64 x.flags, .string x.data, .int .i64 x.upto, .int .i64 x.token] 85) |>.trans (Keeps.of_below (S := []) hb2 (fun _ h1 _ => h1)) (by simp))
        clear hb2
        go_wp2
        go_roundw
        case rel =>
          refine ⟨k + 1, z, by omega, by go_num, rfl, hide ?_, hide ?_⟩
          · have := unhide hz; rw [unhide hkl]; simp; omega
          · rw [unhide H3]
            exact ⟨Sk, (unhide HSK).keep (unhide K2) (by simp), unhide HSS, (unhide HKK).trans (unhide K2) (by simp)⟩
        case measure => simp [intOf]; omega
      · rw [ho] at hkl
        have H2 := hide (unhide hm2 ho)
        have HO' := hide ho
        clear ho hm2 hm3
        go_wp2_with fail
        refine (isOld_any x now _).mono ?_
        rintro e w2 ⟨rfl, hb2⟩
        rw [unhide HO']
        simp only [World.size_alloc] at hb2
        have hx2 := boxcell hb2
        have hz2 : wr.heap.size < w2.heap.size := by have := hb2.size; simp at this; omega
        have K2 := hide ((Keeps.refl [] wr).alloc (.cells #[.string x.key, .int .i64 x.flags, .string x.data, .int .i64 x.upto, .int .i64 x.token] 85) |>.trans (Keeps.of_below (S := []) hb2 (fun k h1 _ => by simpa using h1)) (by simp))
        clear hb2
        have hxm : Hid (x.key.size ≤ maxLen) := by
          have h1 := (unhide hks).2 x (by rw [unhide hm1]; simp)
          have h2 := h1.1
          show x.key.size ≤ maxLen
          unfold maxLen
          omega
        have hat : Hid (atN (mid its now k) x.key = some (keepB (its.take k) now).length) := by
          show atN (mid its now k) x.key = _
          have h1 := (unhide hks).1
          rw [unhide hm1] at h1 ⊢
          exact at_mid h1
        go_wp2_with fail
        refine (take_some _ hb Sk lim nx lost (mid its now k) x.key _ ((unhide HSK).keep (unhide K2) (by simp)) (by omega) (unhide hxm) (unhide hat)).mono ?_
        rintro e w3 ⟨rfl, hst3⟩
        have HST : Hid (Step w1 w3 hb S lim nx lost (mid its now (k + 1))) := by
          have h1 := step_go ((unhide HKK).trans (unhide K2) (by simp)) (unhide HSS) hst3
          rw [unhide hm1, erase_mid, ← unhide H2] at h1
          exact h1
        clear hst3 hx2
        go_wp2
        go_roundw
        case rel =>
          refine ⟨k + 1, z + 1, by omega, by go_num, rfl, hide ?_, HST⟩
          have := unhide hz; rw [unhide hkl]; simp; omega
        case measure => simp [intOf]; omega
    · obtain rfl : k = its.length := by omega
      have hz' : Hid (z = its.length - (keepB its now).length) := by have := unhide hz; rw [List.take_length] at this; exact this
      have hst' : Hid (Step w w1 hb S lim nx lost its) := ⟨S, unhide HS1, fun b hb' => .inl hb', Keeps.of_below (unhide HB1) (fun k h1 _ => h1)⟩
      have hfin : Hid (Step w wr hb S lim nx lost (keepB its now)) := by
        have h1 := unhide hst
        rw [mid_all] at h1
        exact step_go (Keeps.of_below (unhide HB1) (fun k h1 _ => h1)) (fun b hb' => .inl hb') h1
      clear hz hst hst' hsk hSk hkk
      go_wp2
      go_ret
      exact ⟨ret_int (unhide hz'), unhide hfin⟩
end Shelf
end Go.Proofs.YtkodgbalhnbhcaaGreatDoor
/-
  Plain data of a slice of places, and how it lies in memory. No Go function is spoken of here.
-/
namespace Go.Proofs.YtkodgbalhnbhcaaGreatDoor
namespace Pls
open Go.RowKit Base
set_option linter.unusedVariables false

structure Pl where
  name : ByteArray
  lim : Int
  nx : Int
  a : Option Addr
  cap : Nat
  its : List Items.Itm
structure Core where
  name : ByteArray
  lim : Int
  nx : Int
  its : List Items.Itm
def zeroL : Pl := ⟨ByteArray.empty, 0, 0, none, 0, []⟩
def zeroC : Core := ⟨ByteArray.empty, 0, 0, []⟩
def core (x : Pl) : Core := ⟨x.name, x.lim, x.nx, x.its⟩
def PlAt (w : World) (b o : Nat) (x : Pl) : Prop :=
  w.cell? ⟨b, o, none⟩ = some (.string x.name) ∧ w.cell? ⟨b, o + 1, none⟩ = some (.int .i64 x.lim) ∧ w.cell? ⟨b, o + 2, none⟩ = some (.int .i64 x.nx) ∧ w.cell? ⟨b, o + 3, none⟩ = some (.slice x.a x.its.length x.cap)
theorem PlAt.below {w w' : World} {b o : Nat} {x : Pl} {B : Nat} (h : PlAt w b o x) (hb : Below B w w') (hB : b < B) : PlAt w' b o x := by
  have e := fun o => hb.cell (p := ⟨b, o, none⟩) hB
  exact ⟨(e _).trans h.1, (e _).trans h.2.1, (e _).trans h.2.2.1, (e _).trans h.2.2.2⟩
def LsAt (w : World) (a : Option Addr) (L : List Pl) : Prop :=
  L ≠ [] → ∃ b off, a = some ⟨b, off, none⟩ ∧ b < w.heap.size ∧ ∀ i, i < L.length → PlAt w b (off + i * 4) (L.getD i zeroL) ∧ Items.ItemsAt w (L.getD i zeroL).a (L.getD i zeroL).its
theorem LsAt.below {w w' : World} {a : Option Addr} {L : List Pl} {B : Nat} (h : LsAt w a L) (hb : Below B w w') (hB : w.heap.size ≤ B) : LsAt w' a L := by
  intro hne
  obtain ⟨b, off, ha, hlt, hc⟩ := h hne
  exact ⟨b, off, ha, Nat.lt_of_lt_of_le hlt hb.size, fun i hi => ⟨(hc i hi).1.below hb (Nat.lt_of_lt_of_le hlt hB), (hc i hi).2.below hb hB⟩⟩
/-- What can be handed in. -/
def Fits (x : Pl) : Prop := x.name.size ≤ maxLen ∧ x.its.length ≤ x.cap ∧ x.its.length ≤ maxLen ∧ ∀ y ∈ x.its, Items.Fits y
/-- The block that holds a place's items. -/
def blk (x : Pl) : Nat := match x.a with | some p => p.block | none => 0
/-- A place that a call has laid itself: its items have a block of their own. -/
def Str (w : World) (x : Pl) : Prop := x.a = some ⟨blk x, 0, none⟩ ∧ w.rowIs (blk x) 85 (x.its.length * 5) (Items.icell x.its) ∧ x.cap = x.its.length
theorem Str.lt {w : World} {x : Pl} (h : Str w x) : blk x < w.heap.size := h.2.1.lt
theorem Str.block {w w' : World} {x : Pl} (h : Str w x) (e : w'.heap[blk x]? = w.heap[blk x]?) : Str w' x := ⟨h.1, h.2.1.of_block e, h.2.2⟩
theorem Str.below {w w' : World} {x : Pl} {B : Nat} (h : Str w x) (hb : Below B w w') (hB : w.heap.size ≤ B) : Str w' x := h.block (hb.block _ (Nat.lt_of_lt_of_le h.lt hB))
theorem Str.set {w : World} {x : Pl} {p : Addr} (h : Str w x) (hne : blk x ≠ p.block) (v : Value) : Str (w.setCell p v) x := h.block (Below.heap_setCell _ _ _ _ hne)
theorem Str.items {w : World} {x : Pl} (h : Str w x) : Items.ItemsAt w x.a x.its := by rw [h.1]; exact Items.ItemsAt.row h.2.1

/-- Cell j of a row of places. -/
def lcell (L : List Pl) (j : Nat) : Value :=
  if j % 4 = 0 then .string (L.getD (j / 4) zeroL).name else if j % 4 = 1 then .int .i64 (L.getD (j / 4) zeroL).lim else if j % 4 = 2 then .int .i64 (L.getD (j / 4) zeroL).nx else .slice (L.getD (j / 4) zeroL).a (L.getD (j / 4) zeroL).its.length (L.getD (j / 4) zeroL).cap
theorem getD_snoc (L : List Pl) (x : Pl) (i : Nat) : (L ++ [x]).getD i zeroL = if i = L.length then x else L.getD i zeroL := by
  simp only [List.getD_eq_getElem?_getD]
  rcases Nat.lt_trichotomy i L.length with h | h | h
  · rw [if_neg (by omega), List.getElem?_append_left h]
  · rw [if_pos h, h]; simp
  · rw [if_neg (by omega), List.getElem?_append_right (by omega), List.getElem?_eq_none (by simp; omega), List.getElem?_eq_none (by omega)]
theorem lcell_snoc (L : List Pl) (x : Pl) (k j : Nat) (hk : L.length = k) : (if j = k * 4 + 3 then (.slice x.a x.its.length x.cap : Value) else if j = k * 4 + 2 then (.int .i64 x.nx : Value) else if j = k * 4 + 1 then (.int .i64 x.lim : Value) else if j = k * 4 then (.string x.name : Value) else lcell L j) = lcell (L ++ [x]) j := by
  subst hk
  unfold lcell
  rw [getD_snoc]
  have hm : j % 4 < 4 := Nat.mod_lt _ (by decide)
  have hd := Nat.div_add_mod j 4
  by_cases h3 : j = L.length * 4 + 3
  · rw [if_pos h3, if_neg (by omega), if_neg (by omega), if_neg (by omega), if_pos (by omega)]
  rw [if_neg h3]
  by_cases h2 : j = L.length * 4 + 2
  · rw [if_pos h2, if_neg (by omega), if_neg (by omega), if_pos (by omega), if_pos (by omega)]
  rw [if_neg h2]
  by_cases h1 : j = L.length * 4 + 1
  · rw [if_pos h1, if_neg (by omega), if_pos (by omega), if_pos (by omega)]
  rw [if_neg h1]
  by_cases h0 : j = L.length * 4
  · rw [if_pos h0, if_pos (by omega), if_pos (by omega)]
  rw [if_neg h0, if_neg (show ¬ j / 4 = L.length by omega)]
theorem lcell_at {w : World} {b : Nat} {t : TypeId} {n : Nat} {L : List Pl} (h : w.rowIs b t (n * 4) (lcell L)) (i : Nat) (hi : i < n) : PlAt w b (0 + i * 4) (L.getD i zeroL) := by
  rw [Nat.zero_add]
  refine ⟨?_, ?_, ?_, ?_⟩
  · rw [h.cell (by omega), lcell, show (i * 4) % 4 = 0 by omega, show (i * 4) / 4 = i by omega]; simp
  · rw [h.cell (by omega), lcell, show (i * 4 + 1) % 4 = 1 by omega, show (i * 4 + 1) / 4 = i by omega]; simp
  · rw [h.cell (by omega), lcell, show (i * 4 + 2) % 4 = 2 by omega, show (i * 4 + 2) / 4 = i by omega]; simp
  · rw [h.cell (by omega), lcell, show (i * 4 + 3) % 4 = 3 by omega, show (i * 4 + 3) / 4 = i by omega]; simp

/-- A row of places that a call has laid itself, every block apart. -/
structure RAt (w : World) (b : Nat) (L : List Pl) : Prop where
  row : w.rowIs b 59 (L.length * 4) (lcell L)
  str : ∀ i, i < L.length → Str w (L.getD i zeroL)
  far : ∀ i, i < L.length → b < blk (L.getD i zeroL)
  up : ∀ i j, i < j → j < L.length → blk (L.getD i zeroL) < blk (L.getD j zeroL)
theorem RAt.below {w w' : World} {b : Nat} {L : List Pl} {B : Nat} (h : RAt w b L) (hb : Below B w w') (hB : w.heap.size ≤ B) : RAt w' b L :=
  ⟨h.row.of_block (hb.block _ (Nat.lt_of_lt_of_le h.row.lt hB)), fun i hi => (h.str i hi).below hb hB, h.far, h.up⟩
theorem RAt.setOther {w : World} {b : Nat} {L : List Pl} {p : Addr} (h : RAt w b L) (hp : p.block < b) (v : Value) : RAt (w.setCell p v) b L :=
  ⟨h.row.setOther (by omega) v, fun i hi => (h.str i hi).set (by have := h.far i hi; omega) v, h.far, h.up⟩
theorem RAt.lt {w : World} {b : Nat} {L : List Pl} (h : RAt w b L) : b < w.heap.size := h.row.lt
theorem RAt.ls {w : World} {b : Nat} {L : List Pl} (h : RAt w b L) : LsAt w (some ⟨b, 0, none⟩) L :=
  fun _ => ⟨b, 0, rfl, h.row.lt, fun i hi => ⟨lcell_at h.row i hi, (h.str i hi).items⟩⟩

/-- How much room is left. -/
def szPl (x : Pl) (left : Int) : Int := if left - x.name.size < 0 then -1 else Items.szIs x.its (left - x.name.size)
def szGo : List Pl → Int → Int
  | [], left => left
  | x :: r, left => if szPl x left < 0 then -1 else szGo r (szPl x left)
def szLs (L : List Pl) (left : Int) : Int := if left - L.length < 0 then -1 else szGo L (left - L.length)
theorem szPl_bd (x : Pl) (l : Int) (h : 0 ≤ l) : -1 ≤ szPl x l ∧ szPl x l ≤ l := by
  unfold szPl
  split
  · omega
  · have := Items.szIs_bd x.its (l - x.name.size) (by omega)
    omega
theorem szPl_len {x : Pl} {l : Int} (h : ¬ szPl x l < 0) : (x.name.size : Int) ≤ l ∧ (x.its.length : Int) ≤ l := by
  unfold szPl at h
  split at h
  · omega
  · have := Items.szIs_len h
    omega
theorem szGo_drop (L : List Pl) (k : Nat) (h : k < L.length) (l : Int) : szGo (L.drop k) l = if szPl (L.getD k zeroL) l < 0 then -1 else szGo (L.drop (k + 1)) (szPl (L.getD k zeroL) l) := by
  rw [List.drop_eq_getElem_cons h, szGo]
  simp [h]
theorem szGo_bd (L : List Pl) (l : Int) (h : 0 ≤ l) : -1 ≤ szGo L l ∧ szGo L l ≤ l := by
  induction L generalizing l with
  | nil => simp [szGo]; omega
  | cons x r ih =>
    have := szPl_bd x l h
    rw [szGo]
    split
    · omega
    · have := ih (szPl x l) (by omega); omega
theorem szLs_bd (L : List Pl) (left : Int) (h0 : 0 ≤ left) : -1 ≤ szLs L left ∧ szLs L left ≤ left := by
  unfold szLs
  split
  · omega
  · have := szGo_bd L (left - L.length) (by omega); omega
theorem szGo_len : ∀ (L : List Pl) (left : Int), 0 ≤ left → ¬ szGo L left < 0 → ∀ x ∈ L, (x.name.size : Int) ≤ left ∧ (x.its.length : Int) ≤ left
  | [], _, _, _ => by simp
  | x :: r, left, h0, h => by
    have hbd := szPl_bd x left h0
    unfold szGo at h
    split at h
    · omega
    · rename_i hn
      intro y hy
      rcases List.mem_cons.1 hy with rfl | hy
      · exact szPl_len hn
      · have := szGo_len r _ (by omega) h y hy
        omega
theorem szLs_len {L : List Pl} {left : Int} (h : ¬ szLs L left < 0) : (L.length : Int) ≤ left ∧ ∀ x ∈ L, (x.name.size : Int) ≤ left ∧ (x.its.length : Int) ≤ left := by
  unfold szLs at h
  split at h
  · omega
  · refine ⟨by omega, fun x hx => ?_⟩
    have := szGo_len L _ (by omega) h x hx
    omega
theorem map_at {L M : List Pl} (h : L.map core = M.map core) (i : Nat) : core (L.getD i zeroL) = core (M.getD i zeroL) := by
  have e := congrArg (fun l => l[i]?) h
  simp only [List.getElem?_map] at e
  simp only [List.getD_eq_getElem?_getD]
  cases h1 : L[i]? <;> cases h2 : M[i]? <;> rw [h1, h2] at e <;> simp at e <;> simp [e]
theorem map_len {L M : List Pl} (h : L.map core = M.map core) : L.length = M.length := by
  have := congrArg List.length h
  simpa using this
theorem getD_mem {L : List Pl} {k : Nat} (h : k < L.length) : L.getD k zeroL ∈ L := by
  rw [List.getD_eq_getElem?_getD, List.getElem?_eq_getElem h]; simp
end Pls
end Go.Proofs.YtkodgbalhnbhcaaGreatDoor
