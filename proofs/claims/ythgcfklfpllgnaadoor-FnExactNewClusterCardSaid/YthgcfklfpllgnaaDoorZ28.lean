/-
  The program's newChain and shelfOf: a shelf out of a store's items.
-/
import Derived.Test.YthgcfklfpllgnaaDoorShelfI
import Derived.Deep.RegionHeld3
import Derived.Test.YthgcfklfpllgnaaDoorZ10
namespace Go.Proofs.YthgcfklfpllgnaaDoor
namespace Shelf
open Go.RowKit Base Items Keep Own Chain Store
set_option linter.unusedVariables false

theorem made_zl : madeCells (Value.agg #[.string ByteArray.empty, .int .i64 0, .string ByteArray.empty, .int .i64 0, .int .i64 0, .int .i64 0, .int .i64 0]).cells 7 = (lcells zl).toArray := by
  kernel_rfl
theorem links_new (w : World) : LinksAt (w.alloc (.cells (lcells zl).toArray 107)) 107 w.heap.size 1 [zl] :=
  ⟨rfl, _, heap_alloc_new w _, Nat.le_refl _, by unfold maxLen; omega, rfl, rfl⟩
theorem make_links (w : World) : (Instr.makeSlice 73 (.int .i64 1) (.int .i64 1)).run Tryd.prog w = .ok (.slice (some ⟨w.heap.size, 0, none⟩) 1 1) (w.alloc (.cells (lcells zl).toArray 107)) := by
  have h := run_make_rows (P := Tryd.prog) 73 107 (.agg #[.string ByteArray.empty, .int .i64 0, .string ByteArray.empty, .int .i64 0, .int .i64 0, .int .i64 0, .int .i64 0]) 7 72 Tryd.underlying73 (by kernel_rfl) .i64 .i64 1 (by omega) (by omega) w
  rw [Nat.one_mul, made_zl] at h
  exact h

set_option maxRecDepth 10000 in
set_option maxHeartbeats 1000000 in
theorem newChain_any (w : World) : Calls Tryd.prog 50 #[] w fun e w' => ∃ g, e = .returned (.agg #[.slice (some ⟨g, 0, none⟩) 1 1, .slice none 0 0]) ∧ w.heap.size ≤ g ∧ LinksAt w' 107 g 1 [zl] ∧ Below w.heap.size w w' := by
  go_enter Tryd.func50, Tryd.ntmps50
  have hmk := make_links
  go_wp2
  refine bodyPost_ret (v := .agg #[.slice (some ⟨w.heap.size + 1, 0, none⟩) 1 1, .slice none 0 0]) (by simp [results, Tryd.results50, go_sem]) rfl ⟨w.heap.size + 1, rfl, by omega, ?_, ?_⟩
  · have h := links_new (w.alloc (.cells #[.slice (some ⟨w.heap.size + 1, 0, none⟩) 1 1, .slice none 0 0] 76))
    rw [World.size_alloc] at h
    exact h
  · exact bel2 w _ _

theorem alloc_lt2 {w w1 : World} {o o2 : Obj} (h : ((w.alloc o).alloc o2).drew.heap.size ≤ w1.heap.size) : w.heap.size < w1.heap.size := by
  have e : ((w.alloc o).alloc o2).drew.heap.size = w.heap.size + 1 + 1 := by show ((w.alloc o).alloc o2).heap.size = _; simp
  omega
theorem keys_take {its : List Itm} (h : (its.map Itm.key).Nodup) {k : Nat} (hk : k < its.length) : ∀ y ∈ its.take k, y.key ≠ (its.getD k zero).key := by
  intro y hy
  have e : its = its.take k ++ its[k] :: its.drop (k + 1) := by rw [← List.drop_eq_getElem_cons hk, List.take_append_drop]
  rw [e, List.map_append, List.nodup_append] at h
  rw [List.getD_eq_getElem?_getD, List.getElem?_eq_getElem hk]
  exact h.2.2 _ (List.mem_map_of_mem hy) _ (List.mem_map.2 ⟨_, List.mem_cons_self, rfl⟩)
theorem bx_a (w : World) (t : TypeId) (v0 v1 v2 : Value) : (w.alloc (.cells #[v0, v1, v2] t)).drew.cell? ⟨w.heap.size, 0, none⟩ = some v0 ∧ (w.alloc (.cells #[v0, v1, v2] t)).drew.cell? ⟨w.heap.size, 1, none⟩ = some v1 := by
  have e : ∀ (W : World) p, W.drew.cell? p = W.cell? p := fun _ _ => rfl
  rw [e, e, World.cell?_alloc_new, World.cell?_alloc_new]
  exact ⟨rfl, rfl⟩
theorem bx_b (w : World) (t : TypeId) (v0 v1 v2 : Value) (o : Obj) : ((w.alloc (.cells #[v0, v1, v2] t)).alloc o).drew.cell? ⟨w.heap.size, 0, none⟩ = some v0 ∧ ((w.alloc (.cells #[v0, v1, v2] t)).alloc o).drew.cell? ⟨w.heap.size, 1, none⟩ = some v1 := by
  have h := bx_a w t v0 v1 v2
  have e : ∀ (W : World) p, W.drew.cell? p = W.cell? p := fun _ _ => rfl
  have e2 : ∀ i, ((w.alloc (.cells #[v0, v1, v2] t)).alloc o).cell? ⟨w.heap.size, i, none⟩ = (w.alloc (.cells #[v0, v1, v2] t)).cell? ⟨w.heap.size, i, none⟩ := fun i => World.cell?_of_block (a := ⟨w.heap.size, i, none⟩) (Below.heap_alloc _ _ _ (by simp))
  rw [e, e, e2, e2]
  exact h

theorem shelf_new {wx : World} {h g bm : Nat} {lim nx : Int} (hB : Box wx h ⟨lim, nx, 0, 0, .map (some bm)⟩ (.slice (some ⟨g, 0, none⟩) 1 1) (.slice none 0 0)) (hl : LinksAt wx 107 g 1 [zl])
    (hm : wx.ownsMap Tryd.prog 9 (plainElem Tryd.prog 3) bm 0 (.map [] : DataW Unit)) (h1 : h ≠ g) (h2 : bm ≠ h) (h3 : bm ≠ g) : Shelf wx h [h, g, bm] lim nx 0 [] :=
  ⟨g, none, bm, [zl], [], [], 1, .slice none 0 0, .map [], ⟨⟨hB, hl, World.ownsRow_nil _ _ _ _, rfl, h1, by simp, by simp⟩, good_new, rfl, by simp, hm, mapIs_new, h2, h3, by simp, rfl, by simp, by simp⟩⟩
/-- What a new shelf is, behind shelfOf's first statement. -/
def New (w wx : World) (B0 : Obj) (lim nx : Int) (h : Nat) : Prop := ∃ S, Shelf wx h S lim nx 0 [] ∧ (∀ y ∈ S, w.heap.size < y) ∧ Below (w.heap.size + 1) (w.alloc B0) wx
theorem new_a {w w1 : World} {B0 : Obj} {lim nx : Int} {g : Nat} (hg : (w.alloc B0).drew.heap.size ≤ g) (hli : LinksAt w1 107 g 1 [zl]) (hb : Below (w.alloc B0).drew.heap.size (w.alloc B0).drew w1) :
    New w ((w1.alloc (.map #[] 0)).alloc (.cells #[.int .i64 lim, .int .i64 nx, .int .i64 0, .int .i64 0, .slice (some ⟨g, 0, none⟩) 1 1, .slice none 0 0, .map (some w1.heap.size)] 79)) B0 lim nx (w1.heap.size + 1) := by
  have e : (w.alloc B0).drew.heap.size = w.heap.size + 1 := by show (w.alloc B0).heap.size = _; simp
  rw [e] at hg hb
  have hgl : g < w1.heap.size := Row.lt hli
  have hz := hb.size
  rw [e] at hz
  refine ⟨[w1.heap.size + 1, g, w1.heap.size], shelf_new ?_ ?_ ?_ (by omega) (by omega) (by omega), ?_, ?_⟩
  · have h1 := heap_alloc_new (w1.alloc (.map #[] 0)) (.cells #[.int .i64 lim, .int .i64 nx, .int .i64 0, .int .i64 0, .slice (some ⟨g, 0, none⟩) 1 1, .slice none 0 0, .map (some w1.heap.size)] 79)
    rw [World.size_alloc] at h1
    exact h1
  · exact (Row.alloc (Row.alloc hli _) _)
  · exact (World.ownsMap_made w1 _ _ _).alloc _
  · intro y hy
    simp at hy
    omega
  · exact (((Below.refl _ (w.alloc B0)).drew.trans hb).alloc (by omega) _).alloc (by simp; omega) _
theorem new_b {w w1 : World} {B0 : Obj} {lim nx : Int} {g : Nat} (hg : ((w.alloc B0).alloc (.map #[] 0)).drew.heap.size ≤ g) (hli : LinksAt w1 107 g 1 [zl]) (hb : Below ((w.alloc B0).alloc (.map #[] 0)).drew.heap.size ((w.alloc B0).alloc (.map #[] 0)).drew w1) :
    New w (w1.alloc (.cells #[.int .i64 lim, .int .i64 nx, .int .i64 0, .int .i64 0, .slice (some ⟨g, 0, none⟩) 1 1, .slice none 0 0, .map (some (w.heap.size + 1))] 79)) B0 lim nx w1.heap.size := by
  have e : ((w.alloc B0).alloc (.map #[] 0)).drew.heap.size = w.heap.size + 1 + 1 := by show ((w.alloc B0).alloc (.map #[] 0)).heap.size = _; simp
  rw [e] at hg hb
  have hgl : g < w1.heap.size := Row.lt hli
  have hz := hb.size
  rw [e] at hz
  have hm := World.ownsMap_made (w.alloc B0) Tryd.prog 9 (plainElem (H := Unit) Tryd.prog 3)
  rw [World.size_alloc] at hm
  refine ⟨[w1.heap.size, g, w.heap.size + 1], shelf_new ?_ ?_ ?_ (by omega) (by omega) (by omega), ?_, ?_⟩
  · exact heap_alloc_new w1 _
  · exact Row.alloc hli _
  · exact (map_below (show ((w.alloc B0).alloc (.map #[] 0)).drew.ownsMap _ _ _ _ _ _ from hm) hb (by omega)).alloc _
  · intro y hy
    simp at hy
    omega
  · exact ((((Below.refl _ (w.alloc B0)).alloc (by simp) _).drew.trans (hb.mono (by omega))).alloc (by omega) _)

set_option maxRecDepth 10000 in
set_option maxHeartbeats 4000000 in
theorem shelfOf_some (lim nx : Int) (b off cap : Nat) (its : List Itm) (w : World) (hb : b < w.heap.size) (hc : ∀ i, i < its.length → At w b (off + i * 5) (its.getD i zero)) (hl : its.length ≤ 100) (hs : ∀ x ∈ its, Small x) (hk : (its.map Itm.key).Nodup) :
    Calls Tryd.prog 40 #[.agg #[.int .i64 lim, .int .i64 nx, .slice (some ⟨b, off, none⟩) its.length cap]] w fun e w' => ∃ h S, e = .returned (.pointer (some ⟨h, 0, none⟩)) ∧ Shelf w' h S lim nx 0 its ∧ (∀ y ∈ S, w.heap.size ≤ y) ∧ Below w.heap.size w w' := by
  have HC := hide hc
  have HS := hide hs
  have HK := hide hk
  clear hc hs hk
  have hmm := @run_makeMap Tryd.prog
  go_enter Tryd.func40, Tryd.ntmps40
  go_upto_region 1 with fail
  go_cut [3] (fun s3 wx => ∃ (h : Nat), s3 = .pointer (some ⟨h, 0, none⟩) ∧ Hid (New w wx (.cells #[.int .i64 lim, .int .i64 nx, .slice (some ⟨b, off, none⟩) its.length cap] 57) lim nx h))
  case first =>
    have s0 := (bx_a w 57 (.int .i64 lim) (.int .i64 nx) (.slice (some ⟨b, off, none⟩) its.length cap)).1
    have s1 := (bx_a w 57 (.int .i64 lim) (.int .i64 nx) (.slice (some ⟨b, off, none⟩) its.length cap)).2
    have n0 := World.new_ne (w.alloc (.cells #[.int .i64 lim, .int .i64 nx, .slice (some ⟨b, off, none⟩) its.length cap] 57)) _ s0
    have n1 := World.new_ne (w.alloc (.cells #[.int .i64 lim, .int .i64 nx, .slice (some ⟨b, off, none⟩) its.length cap] 57)) _ s1
    go_region_held3 (fun w' => w'.cell? ⟨w.heap.size, 0, none⟩ = some (.int .i64 lim) ∧ w'.cell? ⟨w.heap.size, 1, none⟩ = some (.int .i64 nx)) (first | go_keep | (refine ⟨?_, ?_⟩ <;> first | assumption | (simp [*]; done) | (simp; omega))) (first | (go_at_call 50; refine (newChain_any _).mono ?_; rintro e w1 ⟨g, rfl, hg, hli, hb1⟩; have q0 := (hb1.cell (p := ⟨w.heap.size, 0, none⟩) (by first | (simp [World.drew]; done) | (simp [World.drew]; omega))).trans (by first | exact (bx_a w _ _ _ _).1 | exact (bx_b w _ _ _ _ _).1); have q1 := (hb1.cell (p := ⟨w.heap.size, 1, none⟩) (by first | (simp [World.drew]; done) | (simp [World.drew]; omega))).trans (by first | exact (bx_a w _ _ _ _).2 | exact (bx_b w _ _ _ _ _).2); have hz1 : w.heap.size < w1.heap.size := (by first | exact alloc_lt hb1.size | exact alloc_lt2 hb1.size); have HB1 := hide hb1; have HLI := hide hli; clear hb1 hli))
    all_goals
      go_wp2_with fail
      go_meet
      first | exact ⟨_, rfl, hide (new_a hg (unhide HLI) (unhide HB1))⟩ | exact ⟨_, rfl, hide (new_b hg (unhide HLI) (unhide HB1))⟩
  case rest =>
  obtain ⟨h, rfl, HN⟩ := hcut
  obtain ⟨S0, hs0, hS0, hbel0⟩ := unhide HN
  have hbx := boxcell hbel0
  have HS0 := hide hs0
  have HSS := hide hS0
  have HB0 := hide hbel0
  clear HN hs0 hS0 hbel0
  go_wp2
  go_loopw [17] (fun i wr => ∃ (k : Nat) (S : List Nat), k ≤ its.length ∧ i = .int .i64 k ∧ Hid (Shelf wr h S lim nx 0 (its.take k)) ∧ Hid (∀ y ∈ S, w.heap.size < y) ∧ Hid (Below (w.heap.size + 1) (w.alloc (.cells #[.int .i64 lim, .int .i64 nx, .slice (some ⟨b, off, none⟩) its.length cap] 57)) wr)) (fun i _ => its.length - (intOf i).toNat)
  case atStart => exact ⟨0, S0, Nat.zero_le _, rfl, HS0, HSS, HB0⟩
  case round =>
    obtain ⟨k, S, hk, rfl, hsh, hSS, hbel⟩ := hrel
    have hB : Hid (Below w.heap.size w wr) := (bel1 w _).trans ((unhide hbel).mono (by omega))
    have hzw : w.heap.size + 1 ≤ wr.heap.size := by have := (unhide hbel).size; simp at this; omega
    by_cases hlt : k < its.length
    · obtain ⟨c0, c1, c2, c3, c4⟩ := (unhide HC k hlt).below (unhide hB) hb
      have hsm := hide (small_getD (unhide HS) k hlt)
      have hnk : Hid (∀ y ∈ its.take k, y.key ≠ (its.getD k zero).key) := keys_take (unhide HK) hlt
      have hst : Hid (its.take (k + 1) = its.take k ++ [its.getD k zero]) := by
        show its.take (k + 1) = _
        rw [List.take_succ_eq_append_getElem hlt]
        simp [List.getD_eq_getElem?_getD, List.getElem?_eq_getElem hlt]
      generalize its.getD k zero = x at c0 c1 c2 c3 c4 hsm hnk hst
      clear hbx
      go_wp2_with fail
      refine (putLast_shelf _ h S lim nx 0 (its.take k) x ((unhide hsh).keep ((Keeps.refl [] wr).alloc _) (by simp)) (by simp; omega) (unhide hsm) (unhide hnk)).mono ?_
      rintro e w1 ⟨rfl, S1, hs1, hS1, hk1⟩
      have HS1 : Hid (Shelf w1 h S1 lim nx 0 (its.take (k + 1))) := by
        show Shelf w1 h S1 lim nx 0 (its.take (k + 1))
        rw [unhide hst]; exact hs1
      have HSS1 : Hid (∀ y ∈ S1, w.heap.size < y) := fun y hy => (hS1 y hy).elim (unhide hSS y) (fun e => by simp at e; omega)
      have HB1 := hide (((unhide hbel).alloc (by omega) _).trans (hk1.below (B := w.heap.size + 1) (fun y hy => unhide hSS y hy) (by simp; omega)))
      clear hs1 hS1 hk1
      go_wp2
      go_roundw
      case rel => exact ⟨k + 1, S1, by omega, by go_num, HS1, HSS1, HB1⟩
      case measure => simp [intOf]; omega
    · have et : its.take k = its := List.take_of_length_le (by omega)
      rw [et] at hsh
      go_wp2
      go_ret
      exact ⟨h, S, rfl, unhide hsh, fun y hy => Nat.le_of_lt (unhide hSS y hy), unhide hB⟩
end Shelf
end Go.Proofs.YthgcfklfpllgnaaDoor
/-
  The program's shelf: take, find.
-/
namespace Go.Proofs.YthgcfklfpllgnaaDoor
namespace Shelf
open Go.RowKit Base Items Keep Own Chain Store
set_option linter.unusedVariables false

theorem hasKey_iff (key : ByteArray) (x : Itm) : hasKey key x = true ↔ x.key = key := by
  unfold hasKey
  constructor
  · intro h
    by_cases e : x.key = key
    · exact e
    · rw [str_ne e] at h; cases h
  · exact fun h => str_eq h
/-- An item that is there, by its place. -/
theorem at_split {its : List Itm} {key : ByteArray} {k : Nat} (h : atN its key = some k) : k < its.length ∧ (its.getD k zero).key = key := by
  have hk := atN_lt h
  refine ⟨hk, ?_⟩
  unfold atN at h
  have := (List.findIdx?_eq_some_iff_getElem.1 h).2.1
  rw [List.getD_eq_getElem?_getD, List.getElem?_eq_getElem hk]
  exact (hasKey_iff _ _).1 this
theorem at_none {its : List Itm} {key : ByteArray} (h : atN its key = none) : ∀ x ∈ its, x.key ≠ key := by
  unfold atN at h
  rw [List.findIdx?_eq_none_iff] at h
  intro x hx e
  have h1 := h x hx
  rw [(hasKey_iff key x).2 e] at h1
  cases h1
theorem order_split {α : Type} {l : List α} {k : Nat} (hk : k < l.length) : l = l.take k ++ l[k] :: l.drop (k + 1) := by rw [← List.drop_eq_getElem_cons hk, List.take_append_drop]
theorem total_erase {its : List Itm} {k : Nat} (hk : k < its.length) : total its = total (its.eraseIdx k) + charge (its.getD k zero) := by
  rw [List.eraseIdx_eq_take_drop_succ, total_append]
  have e := congrArg total (order_split hk)
  rw [total_append] at e
  rw [List.getD_eq_getElem?_getD, List.getElem?_eq_getElem hk]
  simp only [total, Option.getD_some] at e ⊢
  omega

theorem zeroI (w : World) : (zeroValue 3).run Tryd.prog w = .ok (.int .i64 0) w := by kernel_rfl
theorem look_miss {w : World} {hb : Nat} {S : List Nat} {lim nx lost : Int} {its : List Itm} {gl : Nat} {gf : Option Nat} {bm : Nat} {ls : List Lnk} {free order : List Nat} {cl : Nat} {vf : Value} {D : DataW Unit} {key : ByteArray}
    (hp : Parts w hb S lim nx lost its gl gf bm ls free order cl vf D) (hkey : key.size ≤ maxLen) (hn : atN its key = none) :
    (Instr.lookup 77 (.map (some bm)) (.string key) true).run Tryd.prog w = .ok (.tuple #[.int .i64 0, .bool false]) w := by
  have hno : Maps.has D (kk key) = false := hp.map.miss key (fun p hpo => at_none hn _ (keys_of hp.items p hpo))
  obtain ⟨v, ps, hrun, hv⟩ := hp.own.look_ok keyLaw Tryd.underlying77 (zeroI w) (plainElem_int (H := Unit) (a := 0) Tryd.underlying3 (by decide)) (key := .string key) (kl := kk key) (Go.WideMaps.keyOf_string_mk Tryd.underlying9 hkey)
  rw [Maps.atKey_of_not_has hno] at hv
  obtain ⟨c, rfl, hc, _⟩ := plainElem_int_inv Tryd.underlying3 hv
  simp only [Prod.mk.injEq, DataW.lit.injEq, Lit.int.injEq, true_and] at hc
  rw [hno, ← hc.1] at hrun
  exact hrun
theorem look_hit {w : World} {hb : Nat} {S : List Nat} {lim nx lost : Int} {its : List Itm} {gl : Nat} {gf : Option Nat} {bm : Nat} {ls : List Lnk} {free order : List Nat} {cl : Nat} {vf : Value} {D : DataW Unit} {key : ByteArray} {k : Nat}
    (hp : Parts w hb S lim nx lost its gl gf bm ls free order cl vf D) (hkey : key.size ≤ maxLen) (hn : atN its key = some k) :
    ∃ p, (Instr.lookup 77 (.map (some bm)) (.string key) true).run Tryd.prog w = .ok (.tuple #[.int .i64 (p : Nat), .bool true]) w ∧ order = order.take k ++ p :: order.drop (k + 1) ∧ (lk ls p).val = its.getD k zero := by
  obtain ⟨hk, hkk⟩ := at_split hn
  have hko : k < order.length := by rw [← items_len ls order, hp.items]; exact hk
  have hval : (lk ls order[k]).val = its.getD k zero := by
    have := hp.items
    subst this
    simp [itemsOf, List.getD_eq_getElem?_getD, List.getElem?_eq_getElem hko]
  have hh := hp.map.hit order[k] (List.getElem_mem _)
  rw [hval, hkk] at hh
  obtain ⟨v, ps, hrun, hv⟩ := hp.own.look_ok keyLaw Tryd.underlying77 (zeroI w) (plainElem_int (H := Unit) (a := 0) Tryd.underlying3 (by decide)) (key := .string key) (kl := kk key) (Go.WideMaps.keyOf_string_mk Tryd.underlying9 hkey)
  rw [hh.2] at hv
  obtain ⟨c, rfl, hc, _⟩ := plainElem_int_inv Tryd.underlying3 hv
  simp only [Prod.mk.injEq, DataW.lit.injEq, Lit.int.injEq, true_and] at hc
  rw [hh.1, ← hc.1] at hrun
  exact ⟨order[k], hrun, order_split hko, hval⟩

theorem take_step {w w0 w1 w2 w3 : World} {hb : Nat} {S : List Nat} {lim nx lost : Int} {its : List Itm} {gl : Nat} {gf gf' : Option Nat} {bm : Nat} {ls : List Lnk} {free order : List Nat} {cl : Nat} {vf vf' : Value} {D : DataW Unit} {key : ByteArray} {k p : Nat}
    (hp : Parts w hb S lim nx lost its gl gf bm ls free order cl vf D) (hn : atN its key = some k) (ho : order = order.take k ++ p :: order.drop (k + 1)) (hv : (lk ls p).val = its.getD k zero)
    (k1 : Keeps ([hb, gl] ++ gf.toList) w w1) (hm1 : Mem w1 hb ⟨lim, nx, total its, lost, .map (some bm)⟩ gl gf' (takeL ls p) (free ++ [p]) cl vf') (hgf : gf' = gf ∨ ∃ g, gf' = some g ∧ w.heap.size ≤ g)
    (hown2 : w2.ownsMap Tryd.prog 9 (plainElem Tryd.prog 3) bm its.length (D.del (kk key))) (hturn : w1.mapTurned w2 bm) (k3 : Keeps [] w2 w3) :
    Step w (w3.setCell ⟨hb, 2, none⟩ (.int .i64 (total its - charge (its.getD k zero)))) hb S lim nx lost (its.eraseIdx k) := by
  obtain ⟨hk, hkk⟩ := at_split hn
  have hG : Chain.Good ls free (order.take k ++ p :: order.drop (k + 1)) := by rw [← ho]; exact hp.good
  have hbl : bm < w.heap.size := hp.own.lt
  have hg3 : gf' ≠ some bm := by
    rcases hgf with e | ⟨g, e, hge⟩
    · rw [e]; exact hp.m3
    · rw [e]; intro e2; simp at e2; omega
  have k2 := keeps_turned hturn
  have hm2 := hm1.keep k2 (by simp; exact Ne.symm hp.m1) (by simp; exact Ne.symm hp.m2) (fun g hg => by simp; intro e; exact hg3 (by rw [hg, e]))
  have hm3 := hm2.keep k3 (by simp) (by simp) (by simp)
  have hitems : itemsOf ls (order.take k ++ order.drop (k + 1)) = its.eraseIdx k := by
    rw [List.eraseIdx_eq_take_drop_succ, ← hp.items]
    simp [itemsOf]
  have hkn : ∀ q ∈ order.take k ++ order.drop (k + 1), (lk ls q).val.key ≠ (lk ls p).val.key := by
    intro q hq e
    have h1 := hp.keys
    rw [order_split hk, List.map_append, List.map_cons, List.nodup_append] at h1
    have hpk : (lk ls p).val.key = its[k].key := by rw [hv, List.getD_eq_getElem?_getD, List.getElem?_eq_getElem hk]; rfl
    rw [hpk] at e
    have e1 : itemsOf ls (order.take k) = its.take k := by rw [← hp.items]; simp [itemsOf]
    have e2 : itemsOf ls (order.drop (k + 1)) = its.drop (k + 1) := by rw [← hp.items]; simp [itemsOf]
    rcases List.mem_append.1 hq with h2 | h2
    · exact h1.2.2 _ (List.mem_map_of_mem (keys_of e1 q h2)) _ (by simp) e
    · exact (List.nodup_cons.1 h1.2.1).1 (e ▸ List.mem_map_of_mem (keys_of e2 q h2))
  have hmap : MapIs (D.del (kk key)) (takeL ls p) (order.take k ++ order.drop (k + 1)) := by
    have h0 : MapIs D ls (order.take k ++ p :: order.drop (k + 1)) := by rw [← ho]; exact hp.map
    have h1 := h0.del (hp.own.tidy keyLaw) hkn
    rw [hv, hkk] at h1
    obtain ⟨ha, hb', _, _⟩ := mid_lt hG
    exact h1.congr (fun q _ => (takeL_at ha hb' q).1)
  have hsz : (its.eraseIdx k).length = its.length - 1 := List.length_eraseIdx_of_lt hk
  have ht : total its - charge (its.getD k zero) = total (its.eraseIdx k) := by rw [total_erase hk]; omega
  rw [ht]
  refine ⟨[hb, gl, bm] ++ gf'.toList, ⟨gl, gf', bm, takeL ls p, free ++ [p], order.take k ++ order.drop (k + 1), cl, vf', D.del (kk key), ?_⟩, ?_, ?_⟩
  · refine ⟨mem_set hm3 (box_set2 hm3.box _), hG.take, ?_, ?_, ?_, hmap, hp.m1, hp.m2, hg3, rfl, ?_, ?_⟩
    · rw [items_take hG, hitems]
    · rw [takeL_len]; exact hp.len
    · have h1 := (k3.map hown2 (by simp)).setCell (a := ⟨hb, 2, none⟩) hp.m1 (.int .i64 (total (its.eraseIdx k)))
      refine map_tight h1 ?_
      rw [hmap.size, hsz]
      have : order.length = its.length := by rw [← hp.items, items_len]
      simp
      omega
    · exact hp.keys.sublist ((List.eraseIdx_sublist its k).map Itm.key)
    · exact fun x hx => hp.small x (List.eraseIdx_subset hx)
  · intro b hbm
    rw [hp.blocks]
    simp only [List.mem_append, List.mem_cons, List.not_mem_nil, or_false, Option.mem_toList] at hbm ⊢
    rcases hbm with (h1 | h1 | h1) | h1
    · exact .inl (.inl (.inl h1))
    · exact .inl (.inl (.inr (.inl h1)))
    · exact .inl (.inl (.inr (.inr h1)))
    · rcases hgf with e | ⟨g, e, hge⟩
      · exact .inl (.inr (e ▸ h1))
      · rw [e] at h1; simp at h1; exact .inr (by omega)
  · have k1' : Keeps S w w1 := k1.mono (fun y hy => by rw [hp.blocks]; simp only [List.mem_append, List.mem_cons, List.not_mem_nil, or_false] at hy ⊢; rcases hy with (e | e) | e <;> simp [e])
    exact ((k1'.trans k2 (fun y hy => .inl (by rw [hp.blocks]; simp at hy ⊢; simp [hy]))).trans k3 (by simp)).setCell (.inl (by rw [hp.blocks]; simp)) _

/-- The box of what is handed back, the call's first block, is written at the end. -/
theorem Step.result {w w4 w5 : World} {o : Obj} {hb : Nat} {S : List Nat} {lim nx lost : Int} {its : List Itm} (h : Step (w.alloc o) w4 hb S lim nx lost its) (ho : One w4 w5 w.heap.size) (hS : ∀ b ∈ S, b < w.heap.size) : Step w w5 hb S lim nx lost its := by
  obtain ⟨S', hs, hS', hk⟩ := h
  have hk5 : Keeps [w.heap.size] w4 w5 := ⟨ho.os, ho.tape, ho.output, ho.size, fun k _ hn => ho.block k (by simpa using hn)⟩
  refine ⟨S', hs.keep hk5 (fun b hb' => ?_), fun b hb' => ?_, ?_⟩
  · rcases hS' b hb' with h1 | h1
    · have := hS b h1; simp; omega
    · simp at h1; simp; omega
  · exact (hS' b hb').imp id (fun e => by simp at e; omega)
  · exact (((Keeps.refl S w).alloc o).trans hk (fun y hy => .inl hy)).trans hk5 (fun y hy => by simp at hy; right; omega)

end Shelf
end Go.Proofs.YthgcfklfpllgnaaDoor
/-
  The program's shelf: isOld, dropOld.
-/
namespace Go.Proofs.YthgcfklfpllgnaaDoor
namespace Shelf
open Go.RowKit Base Items Keep Own Chain Store
set_option linter.unusedVariables false

theorem step_refl {w : World} {hb : Nat} {S : List Nat} {lim nx lost : Int} {its : List Itm} (h : Shelf w hb S lim nx lost its) : Step w w hb S lim nx lost its := ⟨S, h, fun b hb' => .inl hb', Keeps.refl _ _⟩
/-- Steps one behind the other, with what lies between. -/
theorem step_go {w w1 w2 : World} {hb : Nat} {S S1 : List Nat} {lim nx lost : Int} {its : List Itm} (hk : Keeps S w w1) (hS : ∀ b ∈ S1, b ∈ S ∨ w.heap.size ≤ b) (h : Step w1 w2 hb S1 lim nx lost its) : Step w w2 hb S lim nx lost its := by
  obtain ⟨S2, hs, hS2, hk2⟩ := h
  exact ⟨S2, hs, fun b hb' => (hS2 b hb').elim (hS b) (fun e => .inr (Nat.le_trans hk.size e)), hk.trans hk2 hS⟩
theorem at_mid {l1 l2 : List Itm} {x : Itm} (h : ((l1 ++ x :: l2).map Itm.key).Nodup) : atN (l1 ++ x :: l2) x.key = some l1.length := by
  rw [List.map_append, List.map_cons, List.nodup_append] at h
  refine atN_hit (by simp) (fun j hj => ?_) ?_
  · rw [List.getD_eq_getElem?_getD, List.getElem?_append_left hj, List.getElem?_eq_getElem hj]
    cases e : hasKey x.key l1[j]
    · exact e
    · exact absurd ((hasKey_iff _ _).1 e) (h.2.2 _ (List.mem_map_of_mem (List.getElem_mem hj)) _ (by simp))
  · simp [List.getD_eq_getElem?_getD]
    exact (hasKey_iff _ _).2 rfl
theorem erase_mid {α : Type} (l1 l2 : List α) (x : α) : (l1 ++ x :: l2).eraseIdx l1.length = l1 ++ l2 := by
  rw [List.eraseIdx_append_of_length_le (Nat.le_refl _)]
  simp
theorem get_mid (l1 l2 : List Itm) (x : Itm) : (l1 ++ x :: l2).getD l1.length zero = x := by simp [List.getD_eq_getElem?_getD]

/-- The items behind k rounds of dropOld. -/
def mid (its : List Itm) (now : Int) (k : Nat) : List Itm := keepB (its.take k) now ++ its.drop k
theorem mid_0 (its : List Itm) (now : Int) : mid its now 0 = its := by simp [mid, keepB]
theorem mid_all (its : List Itm) (now : Int) : mid its now its.length = keepB its now := by simp [mid]
theorem mid_cons (its : List Itm) (now : Int) {k : Nat} (hk : k < its.length) : mid its now k = keepB (its.take k) now ++ its.getD k zero :: its.drop (k + 1) := by
  unfold mid
  rw [List.drop_eq_getElem_cons hk, List.getD_eq_getElem?_getD, List.getElem?_eq_getElem hk]
  rfl
theorem mid_old (its : List Itm) (now : Int) {k : Nat} (hk : k < its.length) (h : oldB (its.getD k zero) now = true) : mid its now (k + 1) = keepB (its.take k) now ++ its.drop (k + 1) := by
  unfold mid
  rw [keep_step its now k hk, if_pos h, List.append_nil]
theorem mid_new (its : List Itm) (now : Int) {k : Nat} (hk : k < its.length) (h : oldB (its.getD k zero) now = false) : mid its now (k + 1) = mid its now k := by
  rw [mid_cons its now hk]
  unfold mid
  rw [keep_step its now k hk, if_neg (by rw [h]; simp)]
  simp
theorem mid_len (its : List Itm) (now : Int) (k : Nat) : (mid its now k).length ≤ its.length := by
  have := keep_len its now k
  unfold mid
  have h2 : (keepB (its.take k) now).length ≤ (its.take k).length := List.length_filter_le _ _
  simp at h2 ⊢
  omega

theorem row_at {w : World} {t : TypeId} {g cap : Nat} {its : List Itm} (h : Row w t 5 g its.length cap (flat its)) {k : Nat} (hk : k < its.length) : At w g (k * 5) (its.getD k zero) := by
  have hc : ∀ i, i < 5 → w.cell? ⟨g, k * 5 + i, none⟩ = some (icell its (k * 5 + i)) := fun i hi => Row.cell h (flat_get its _ (by omega))
  refine ⟨?_, ?_, ?_, ?_, ?_⟩
  · have := hc 0 (by omega); rw [Nat.add_zero] at this; rw [this, icell, show (k * 5) % 5 = 0 by omega, show (k * 5) / 5 = k by omega]; simp
  · rw [hc 1 (by omega), icell, show (k * 5 + 1) % 5 = 1 by omega, show (k * 5 + 1) / 5 = k by omega]; simp
  · rw [hc 2 (by omega), icell, show (k * 5 + 2) % 5 = 2 by omega, show (k * 5 + 2) / 5 = k by omega]; simp
  · rw [hc 3 (by omega), icell, show (k * 5 + 3) % 5 = 3 by omega, show (k * 5 + 3) / 5 = k by omega]; simp
  · rw [hc 4 (by omega), icell, show (k * 5 + 4) % 5 = 4 by omega, show (k * 5 + 4) / 5 = k by omega]; simp
theorem shelf_keys {w : World} {hb : Nat} {S : List Nat} {lim nx lost : Int} {its : List Itm} (h : Shelf w hb S lim nx lost its) : (its.map Itm.key).Nodup ∧ ∀ x ∈ its, Small x := by
  obtain ⟨gl, gf, bm, ls, free, order, cl, vf, D, hp⟩ := h
  exact ⟨hp.keys, hp.small⟩

end Shelf
end Go.Proofs.YthgcfklfpllgnaaDoor
