/-
  The program's newChain and shelfOf: a shelf out of a store's items.
-/
import Derived.Test.YtkdcofmpbmiloaaGreatDoorY5
import Derived.Deep.RegionHeld3
import Derived.Test.YtkdcofmpbmiloaaGreatDoorY2
import Derived.Lib.BufferWrite
import Derived.Lib.UnsafeStr
import Derived.Laws.CopyOwn
import Derived.Test.YtkdcofmpbmiloaaGreatDoorY3
import Derived.BigQuiet
import Derived.Deep.QuietTactic
import Derived.Test.YtkdcofmpbmiloaaGreatDoorY7
import Derived.Deep.DeepCutAuto
import Derived.Lib.QuietBelow
import Derived.Deep.RegionLaw
namespace Go.Proofs.YtkdcofmpbmiloaaGreatDoor
namespace Shelf
open Go.RowKit Base Items Keep Own Chain Store
set_option linter.unusedVariables false

theorem made_zl : madeCells (Value.agg #[.string ByteArray.empty, .int .i64 0, .string ByteArray.empty, .int .i64 0, .int .i64 0, .int .i64 0, .int .i64 0]).cells 7 = (lcells zl).toArray := by
  kernel_rfl
theorem links_new (w : World) : LinksAt (w.alloc (.cells (lcells zl).toArray 92)) 92 w.heap.size 1 [zl] :=
  ⟨rfl, _, heap_alloc_new w _, Nat.le_refl _, by unfold maxLen; omega, rfl, rfl⟩
theorem make_links (w : World) : (Instr.makeSlice 55 (.int .i64 1) (.int .i64 1)).run Tryz.prog w = .ok (.slice (some ⟨w.heap.size, 0, none⟩) 1 1) (w.alloc (.cells (lcells zl).toArray 92)) := by
  have h := run_make_rows (P := Tryz.prog) 55 92 (.agg #[.string ByteArray.empty, .int .i64 0, .string ByteArray.empty, .int .i64 0, .int .i64 0, .int .i64 0, .int .i64 0]) 7 72 Tryz.underlying55 (by kernel_rfl) .i64 .i64 1 (by omega) (by omega) w
  rw [Nat.one_mul, made_zl] at h
  exact h

set_option maxRecDepth 10000 in
set_option maxHeartbeats 1000000 in
theorem newChain_any (w : World) : Calls Tryz.prog 41 #[] w fun e w' => ∃ g, e = .returned (.agg #[.slice (some ⟨g, 0, none⟩) 1 1, .slice none 0 0]) ∧ w.heap.size ≤ g ∧ LinksAt w' 92 g 1 [zl] ∧ Below w.heap.size w w' := by
  go_enter Tryz.func41, Tryz.ntmps41
  have hmk := make_links
  go_wp2
  refine bodyPost_ret (v := .agg #[.slice (some ⟨w.heap.size + 1, 0, none⟩) 1 1, .slice none 0 0]) (by simp [results, Tryz.results41, go_sem]) rfl ⟨w.heap.size + 1, rfl, by omega, ?_, ?_⟩
  · have h := links_new (w.alloc (.cells #[.slice (some ⟨w.heap.size + 1, 0, none⟩) 1 1, .slice none 0 0] 58))
    rw [World.size_alloc] at h
    exact h
  · exact bel2 w _ _

theorem alloc_lt2 {w w1 : World} {o o2 : Obj} (h : ((w.alloc o).alloc o2).drew.heap.size ≤ w1.heap.size) : w.heap.size < w1.heap.size := by
  have e : ((w.alloc o).alloc o2).drew.heap.size = w.heap.size + 1 + 1 := by show ((w.alloc o).alloc o2).heap.size = _; simp
  omega
theorem keys_take {its : List Itm} (h : (its.map Itm.key).Nodup) {k : Nat} (hk : k < its.length) : ∀ y ∈ its.take k, y.key ≠ (its.getD k zero).key := by
  intro y hy
  have e : its = its.take k ++ its[k] :: its.drop (k + 1) := by rw [← List.drop_eq_getElem_cons hk, List.take_append_drop]
  rw [e, List.map_append, List.nodup_append] at h
  rw [List.getD_eq_getElem?_getD, List.getElem?_eq_getElem hk]
  exact h.2.2 _ (List.mem_map_of_mem hy) _ (List.mem_map.2 ⟨_, List.mem_cons_self, rfl⟩)
theorem bx_a (w : World) (t : TypeId) (v0 v1 v2 : Value) : (w.alloc (.cells #[v0, v1, v2] t)).drew.cell? ⟨w.heap.size, 0, none⟩ = some v0 ∧ (w.alloc (.cells #[v0, v1, v2] t)).drew.cell? ⟨w.heap.size, 1, none⟩ = some v1 := by
  have e : ∀ (W : World) p, W.drew.cell? p = W.cell? p := fun _ _ => rfl
  rw [e, e, World.cell?_alloc_new, World.cell?_alloc_new]
  exact ⟨rfl, rfl⟩
theorem bx_b (w : World) (t : TypeId) (v0 v1 v2 : Value) (o : Obj) : ((w.alloc (.cells #[v0, v1, v2] t)).alloc o).drew.cell? ⟨w.heap.size, 0, none⟩ = some v0 ∧ ((w.alloc (.cells #[v0, v1, v2] t)).alloc o).drew.cell? ⟨w.heap.size, 1, none⟩ = some v1 := by
  have h := bx_a w t v0 v1 v2
  have e : ∀ (W : World) p, W.drew.cell? p = W.cell? p := fun _ _ => rfl
  have e2 : ∀ i, ((w.alloc (.cells #[v0, v1, v2] t)).alloc o).cell? ⟨w.heap.size, i, none⟩ = (w.alloc (.cells #[v0, v1, v2] t)).cell? ⟨w.heap.size, i, none⟩ := fun i => World.cell?_of_block (a := ⟨w.heap.size, i, none⟩) (Below.heap_alloc _ _ _ (by simp))
  rw [e, e, e2, e2]
  exact h

theorem shelf_new {wx : World} {h g bm : Nat} {lim nx : Int} (hB : Box wx h ⟨lim, nx, 0, 0, .map (some bm)⟩ (.slice (some ⟨g, 0, none⟩) 1 1) (.slice none 0 0)) (hl : LinksAt wx 92 g 1 [zl])
    (hm : wx.ownsMap Tryz.prog 9 (plainElem Tryz.prog 3) bm 0 (.map [] : DataW Unit)) (h1 : h ≠ g) (h2 : bm ≠ h) (h3 : bm ≠ g) : Shelf wx h [h, g, bm] lim nx 0 [] :=
  ⟨g, none, bm, [zl], [], [], 1, .slice none 0 0, .map [], ⟨⟨hB, hl, World.ownsRow_nil _ _ _ _, rfl, h1, by simp, by simp⟩, good_new, rfl, by simp, hm, mapIs_new, h2, h3, by simp, rfl, by simp, by simp⟩⟩
/-- What a new shelf is, behind shelfOf's first statement. -/
def New (w wx : World) (B0 : Obj) (lim nx : Int) (h : Nat) : Prop := ∃ S, Shelf wx h S lim nx 0 [] ∧ (∀ y ∈ S, w.heap.size < y) ∧ Below (w.heap.size + 1) (w.alloc B0) wx
theorem new_a {w w1 : World} {B0 : Obj} {lim nx : Int} {g : Nat} (hg : (w.alloc B0).drew.heap.size ≤ g) (hli : LinksAt w1 92 g 1 [zl]) (hb : Below (w.alloc B0).drew.heap.size (w.alloc B0).drew w1) :
    New w ((w1.alloc (.map #[] 0)).alloc (.cells #[.int .i64 lim, .int .i64 nx, .int .i64 0, .int .i64 0, .slice (some ⟨g, 0, none⟩) 1 1, .slice none 0 0, .map (some w1.heap.size)] 61)) B0 lim nx (w1.heap.size + 1) := by
  have e : (w.alloc B0).drew.heap.size = w.heap.size + 1 := by show (w.alloc B0).heap.size = _; simp
  rw [e] at hg hb
  have hgl : g < w1.heap.size := Row.lt hli
  have hz := hb.size
  rw [e] at hz
  refine ⟨[w1.heap.size + 1, g, w1.heap.size], shelf_new ?_ ?_ ?_ (by omega) (by omega) (by omega), ?_, ?_⟩
  · have h1 := heap_alloc_new (w1.alloc (.map #[] 0)) (.cells #[.int .i64 lim, .int .i64 nx, .int .i64 0, .int .i64 0, .slice (some ⟨g, 0, none⟩) 1 1, .slice none 0 0, .map (some w1.heap.size)] 61)
    rw [World.size_alloc] at h1
    exact h1
  · exact (Row.alloc (Row.alloc hli _) _)
  · exact (World.ownsMap_made w1 _ _ _).alloc _
  · intro y hy
    simp at hy
    omega
  · exact (((Below.refl _ (w.alloc B0)).drew.trans hb).alloc (by omega) _).alloc (by simp; omega) _
theorem new_b {w w1 : World} {B0 : Obj} {lim nx : Int} {g : Nat} (hg : ((w.alloc B0).alloc (.map #[] 0)).drew.heap.size ≤ g) (hli : LinksAt w1 92 g 1 [zl]) (hb : Below ((w.alloc B0).alloc (.map #[] 0)).drew.heap.size ((w.alloc B0).alloc (.map #[] 0)).drew w1) :
    New w (w1.alloc (.cells #[.int .i64 lim, .int .i64 nx, .int .i64 0, .int .i64 0, .slice (some ⟨g, 0, none⟩) 1 1, .slice none 0 0, .map (some (w.heap.size + 1))] 61)) B0 lim nx w1.heap.size := by
  have e : ((w.alloc B0).alloc (.map #[] 0)).drew.heap.size = w.heap.size + 1 + 1 := by show ((w.alloc B0).alloc (.map #[] 0)).heap.size = _; simp
  rw [e] at hg hb
  have hgl : g < w1.heap.size := Row.lt hli
  have hz := hb.size
  rw [e] at hz
  have hm := World.ownsMap_made (w.alloc B0) Tryz.prog 9 (plainElem (H := Unit) Tryz.prog 3)
  rw [World.size_alloc] at hm
  refine ⟨[w1.heap.size, g, w.heap.size + 1], shelf_new ?_ ?_ ?_ (by omega) (by omega) (by omega), ?_, ?_⟩
  · exact heap_alloc_new w1 _
  · exact Row.alloc hli _
  · exact (map_below (show ((w.alloc B0).alloc (.map #[] 0)).drew.ownsMap _ _ _ _ _ _ from hm) hb (by omega)).alloc _
  · intro y hy
    simp at hy
    omega
  · exact ((((Below.refl _ (w.alloc B0)).alloc (by simp) _).drew.trans (hb.mono (by omega))).alloc (by omega) _)

end Shelf
end Go.Proofs.YtkdcofmpbmiloaaGreatDoor
/-
  The program's shelf: take, find.
-/
namespace Go.Proofs.YtkdcofmpbmiloaaGreatDoor
namespace Shelf
open Go.RowKit Base Items Keep Own Chain Store
set_option linter.unusedVariables false

theorem hasKey_iff (key : ByteArray) (x : Itm) : hasKey key x = true ↔ x.key = key := by
  unfold hasKey
  constructor
  · intro h
    by_cases e : x.key = key
    · exact e
    · rw [str_ne e] at h; cases h
  · exact fun h => str_eq h
/-- An item that is there, by its place. -/
theorem at_split {its : List Itm} {key : ByteArray} {k : Nat} (h : atN its key = some k) : k < its.length ∧ (its.getD k zero).key = key := by
  have hk := atN_lt h
  refine ⟨hk, ?_⟩
  unfold atN at h
  have := (List.findIdx?_eq_some_iff_getElem.1 h).2.1
  rw [List.getD_eq_getElem?_getD, List.getElem?_eq_getElem hk]
  exact (hasKey_iff _ _).1 this
theorem at_none {its : List Itm} {key : ByteArray} (h : atN its key = none) : ∀ x ∈ its, x.key ≠ key := by
  unfold atN at h
  rw [List.findIdx?_eq_none_iff] at h
  intro x hx e
  have h1 := h x hx
  rw [(hasKey_iff key x).2 e] at h1
  cases h1
theorem order_split {α : Type} {l : List α} {k : Nat} (hk : k < l.length) : l = l.take k ++ l[k] :: l.drop (k + 1) := by rw [← List.drop_eq_getElem_cons hk, List.take_append_drop]
theorem total_erase {its : List Itm} {k : Nat} (hk : k < its.length) : total its = total (its.eraseIdx k) + charge (its.getD k zero) := by
  rw [List.eraseIdx_eq_take_drop_succ, total_append]
  have e := congrArg total (order_split hk)
  rw [total_append] at e
  rw [List.getD_eq_getElem?_getD, List.getElem?_eq_getElem hk]
  simp only [total, Option.getD_some] at e ⊢
  omega

theorem zeroI (w : World) : (zeroValue 3).run Tryz.prog w = .ok (.int .i64 0) w := by kernel_rfl
theorem look_miss {w : World} {hb : Nat} {S : List Nat} {lim nx lost : Int} {its : List Itm} {gl : Nat} {gf : Option Nat} {bm : Nat} {ls : List Lnk} {free order : List Nat} {cl : Nat} {vf : Value} {D : DataW Unit} {key : ByteArray}
    (hp : Parts w hb S lim nx lost its gl gf bm ls free order cl vf D) (hkey : key.size ≤ maxLen) (hn : atN its key = none) :
    (Instr.lookup 59 (.map (some bm)) (.string key) true).run Tryz.prog w = .ok (.tuple #[.int .i64 0, .bool false]) w := by
  have hno : Maps.has D (kk key) = false := hp.map.miss key (fun p hpo => at_none hn _ (keys_of hp.items p hpo))
  obtain ⟨v, ps, hrun, hv⟩ := hp.own.look_ok keyLaw Tryz.underlying59 (zeroI w) (plainElem_int (H := Unit) (a := 0) Tryz.underlying3 (by decide)) (key := .string key) (kl := kk key) (Go.WideMaps.keyOf_string_mk Tryz.underlying9 hkey)
  rw [Maps.atKey_of_not_has hno] at hv
  obtain ⟨c, rfl, hc, _⟩ := plainElem_int_inv Tryz.underlying3 hv
  simp only [Prod.mk.injEq, DataW.lit.injEq, Lit.int.injEq, true_and] at hc
  rw [hno, ← hc.1] at hrun
  exact hrun
theorem look_hit {w : World} {hb : Nat} {S : List Nat} {lim nx lost : Int} {its : List Itm} {gl : Nat} {gf : Option Nat} {bm : Nat} {ls : List Lnk} {free order : List Nat} {cl : Nat} {vf : Value} {D : DataW Unit} {key : ByteArray} {k : Nat}
    (hp : Parts w hb S lim nx lost its gl gf bm ls free order cl vf D) (hkey : key.size ≤ maxLen) (hn : atN its key = some k) :
    ∃ p, (Instr.lookup 59 (.map (some bm)) (.string key) true).run Tryz.prog w = .ok (.tuple #[.int .i64 (p : Nat), .bool true]) w ∧ order = order.take k ++ p :: order.drop (k + 1) ∧ (lk ls p).val = its.getD k zero := by
  obtain ⟨hk, hkk⟩ := at_split hn
  have hko : k < order.length := by rw [← items_len ls order, hp.items]; exact hk
  have hval : (lk ls order[k]).val = its.getD k zero := by
    have := hp.items
    subst this
    simp [itemsOf, List.getD_eq_getElem?_getD, List.getElem?_eq_getElem hko]
  have hh := hp.map.hit order[k] (List.getElem_mem _)
  rw [hval, hkk] at hh
  obtain ⟨v, ps, hrun, hv⟩ := hp.own.look_ok keyLaw Tryz.underlying59 (zeroI w) (plainElem_int (H := Unit) (a := 0) Tryz.underlying3 (by decide)) (key := .string key) (kl := kk key) (Go.WideMaps.keyOf_string_mk Tryz.underlying9 hkey)
  rw [hh.2] at hv
  obtain ⟨c, rfl, hc, _⟩ := plainElem_int_inv Tryz.underlying3 hv
  simp only [Prod.mk.injEq, DataW.lit.injEq, Lit.int.injEq, true_and] at hc
  rw [hh.1, ← hc.1] at hrun
  exact ⟨order[k], hrun, order_split hko, hval⟩

set_option maxRecDepth 10000 in
set_option maxHeartbeats 1000000 in
/-- A key that is not there. -/
theorem take_none (w : World) (hb : Nat) (S : List Nat) (lim nx lost : Int) (its : List Itm) (key : ByteArray) (hs : Shelf w hb S lim nx lost its) (hkey : key.size ≤ maxLen) (hn : atN its key = none) :
    Calls Tryz.prog 45 #[.pointer (some ⟨hb, 0, none⟩), .string key] w fun e w' => e = .returned (.tuple #[.agg #[.string ByteArray.empty, .int .i64 0, .string ByteArray.empty, .int .i64 0, .int .i64 0], .bool false]) ∧ Below w.heap.size w w' := by
  obtain ⟨gl, gf, bm, ls, free, order, cl, vf, D, hp⟩ := hs
  obtain ⟨c0, c1, c2, c3, c4, c5, c6⟩ := hp.mem.box.cells
  have hlt := hp.mem.box.lt
  have hrun := look_miss (hp.keep ((Keeps.refl [] w).alloc (.cells #[.string ⟨#[]⟩, .int .i64 0, .string ⟨#[]⟩, .int .i64 0, .int .i64 0] 37)) (by simp)) hkey hn
  clear c0 c1 c2 c3 c4 c5 hp hn hkey
  go_enter Tryz.func45, Tryz.ntmps45
  go_wp2
  refine bodyPost_ret (v := .tuple #[.agg #[.string ⟨#[]⟩, .int .i64 0, .string ⟨#[]⟩, .int .i64 0, .int .i64 0], .bool false]) (by simp [results, Tryz.results45, go_sem]; done) rfl ⟨rfl, ?_⟩
  exact bel1 w _

theorem take_step {w w0 w1 w2 w3 : World} {hb : Nat} {S : List Nat} {lim nx lost : Int} {its : List Itm} {gl : Nat} {gf gf' : Option Nat} {bm : Nat} {ls : List Lnk} {free order : List Nat} {cl : Nat} {vf vf' : Value} {D : DataW Unit} {key : ByteArray} {k p : Nat}
    (hp : Parts w hb S lim nx lost its gl gf bm ls free order cl vf D) (hn : atN its key = some k) (ho : order = order.take k ++ p :: order.drop (k + 1)) (hv : (lk ls p).val = its.getD k zero)
    (k1 : Keeps ([hb, gl] ++ gf.toList) w w1) (hm1 : Mem w1 hb ⟨lim, nx, total its, lost, .map (some bm)⟩ gl gf' (takeL ls p) (free ++ [p]) cl vf') (hgf : gf' = gf ∨ ∃ g, gf' = some g ∧ w.heap.size ≤ g)
    (hown2 : w2.ownsMap Tryz.prog 9 (plainElem Tryz.prog 3) bm its.length (D.del (kk key))) (hturn : w1.mapTurned w2 bm) (k3 : Keeps [] w2 w3) :
    Step w (w3.setCell ⟨hb, 2, none⟩ (.int .i64 (total its - charge (its.getD k zero)))) hb S lim nx lost (its.eraseIdx k) := by
  obtain ⟨hk, hkk⟩ := at_split hn
  have hG : Chain.Good ls free (order.take k ++ p :: order.drop (k + 1)) := by rw [← ho]; exact hp.good
  have hbl : bm < w.heap.size := hp.own.lt
  have hg3 : gf' ≠ some bm := by
    rcases hgf with e | ⟨g, e, hge⟩
    · rw [e]; exact hp.m3
    · rw [e]; intro e2; simp at e2; omega
  have k2 := keeps_turned hturn
  have hm2 := hm1.keep k2 (by simp; exact Ne.symm hp.m1) (by simp; exact Ne.symm hp.m2) (fun g hg => by simp; intro e; exact hg3 (by rw [hg, e]))
  have hm3 := hm2.keep k3 (by simp) (by simp) (by simp)
  have hitems : itemsOf ls (order.take k ++ order.drop (k + 1)) = its.eraseIdx k := by
    rw [List.eraseIdx_eq_take_drop_succ, ← hp.items]
    simp [itemsOf]
  have hkn : ∀ q ∈ order.take k ++ order.drop (k + 1), (lk ls q).val.key ≠ (lk ls p).val.key := by
    intro q hq e
    have h1 := hp.keys
    rw [order_split hk, List.map_append, List.map_cons, List.nodup_append] at h1
    have hpk : (lk ls p).val.key = its[k].key := by rw [hv, List.getD_eq_getElem?_getD, List.getElem?_eq_getElem hk]; rfl
    rw [hpk] at e
    have e1 : itemsOf ls (order.take k) = its.take k := by rw [← hp.items]; simp [itemsOf]
    have e2 : itemsOf ls (order.drop (k + 1)) = its.drop (k + 1) := by rw [← hp.items]; simp [itemsOf]
    rcases List.mem_append.1 hq with h2 | h2
    · exact h1.2.2 _ (List.mem_map_of_mem (keys_of e1 q h2)) _ (by simp) e
    · exact (List.nodup_cons.1 h1.2.1).1 (e ▸ List.mem_map_of_mem (keys_of e2 q h2))
  have hmap : MapIs (D.del (kk key)) (takeL ls p) (order.take k ++ order.drop (k + 1)) := by
    have h0 : MapIs D ls (order.take k ++ p :: order.drop (k + 1)) := by rw [← ho]; exact hp.map
    have h1 := h0.del (hp.own.tidy keyLaw) hkn
    rw [hv, hkk] at h1
    obtain ⟨ha, hb', _, _⟩ := mid_lt hG
    exact h1.congr (fun q _ => (takeL_at ha hb' q).1)
  have hsz : (its.eraseIdx k).length = its.length - 1 := List.length_eraseIdx_of_lt hk
  have ht : total its - charge (its.getD k zero) = total (its.eraseIdx k) := by rw [total_erase hk]; omega
  rw [ht]
  refine ⟨[hb, gl, bm] ++ gf'.toList, ⟨gl, gf', bm, takeL ls p, free ++ [p], order.take k ++ order.drop (k + 1), cl, vf', D.del (kk key), ?_⟩, ?_, ?_⟩
  · refine ⟨mem_set hm3 (box_set2 hm3.box _), hG.take, ?_, ?_, ?_, hmap, hp.m1, hp.m2, hg3, rfl, ?_, ?_⟩
    · rw [items_take hG, hitems]
    · rw [takeL_len]; exact hp.len
    · have h1 := (k3.map hown2 (by simp)).setCell (a := ⟨hb, 2, none⟩) hp.m1 (.int .i64 (total (its.eraseIdx k)))
      refine map_tight h1 ?_
      rw [hmap.size, hsz]
      have : order.length = its.length := by rw [← hp.items, items_len]
      simp
      omega
    · exact hp.keys.sublist ((List.eraseIdx_sublist its k).map Itm.key)
    · exact fun x hx => hp.small x (List.eraseIdx_subset hx)
  · intro b hbm
    rw [hp.blocks]
    simp only [List.mem_append, List.mem_cons, List.not_mem_nil, or_false, Option.mem_toList] at hbm ⊢
    rcases hbm with (h1 | h1 | h1) | h1
    · exact .inl (.inl (.inl h1))
    · exact .inl (.inl (.inr (.inl h1)))
    · exact .inl (.inl (.inr (.inr h1)))
    · rcases hgf with e | ⟨g, e, hge⟩
      · exact .inl (.inr (e ▸ h1))
      · rw [e] at h1; simp at h1; exact .inr (by omega)
  · have k1' : Keeps S w w1 := k1.mono (fun y hy => by rw [hp.blocks]; simp only [List.mem_append, List.mem_cons, List.not_mem_nil, or_false] at hy ⊢; rcases hy with (e | e) | e <;> simp [e])
    exact ((k1'.trans k2 (fun y hy => .inl (by rw [hp.blocks]; simp at hy ⊢; simp [hy]))).trans k3 (by simp)).setCell (.inl (by rw [hp.blocks]; simp)) _

/-- The box of what is handed back, the call's first block, is written at the end. -/
theorem Step.result {w w4 w5 : World} {o : Obj} {hb : Nat} {S : List Nat} {lim nx lost : Int} {its : List Itm} (h : Step (w.alloc o) w4 hb S lim nx lost its) (ho : One w4 w5 w.heap.size) (hS : ∀ b ∈ S, b < w.heap.size) : Step w w5 hb S lim nx lost its := by
  obtain ⟨S', hs, hS', hk⟩ := h
  have hk5 : Keeps [w.heap.size] w4 w5 := ⟨ho.os, ho.tape, ho.output, ho.size, fun k _ hn => ho.block k (by simpa using hn)⟩
  refine ⟨S', hs.keep hk5 (fun b hb' => ?_), fun b hb' => ?_, ?_⟩
  · rcases hS' b hb' with h1 | h1
    · have := hS b h1; simp; omega
    · simp at h1; simp; omega
  · exact (hS' b hb').imp id (fun e => by simp at e; omega)
  · exact (((Keeps.refl S w).alloc o).trans hk (fun y hy => .inl hy)).trans hk5 (fun y hy => by simp at hy; right; omega)

set_option maxRecDepth 10000 in
set_option maxHeartbeats 2000000 in
/-- A key that is there: its item goes, and is handed back. -/
theorem take_some (w : World) (hb : Nat) (S : List Nat) (lim nx lost : Int) (its : List Itm) (key : ByteArray) (k : Nat) (hs : Shelf w hb S lim nx lost its) (hl : its.length ≤ 100) (hkey : key.size ≤ maxLen) (hn : atN its key = some k) :
    Calls Tryz.prog 45 #[.pointer (some ⟨hb, 0, none⟩), .string key] w fun e w' => e = .returned (.tuple #[itemV (its.getD k zero), .bool true]) ∧ Step w w' hb S lim nx lost (its.eraseIdx k) := by
  obtain ⟨gl, gf, bm, ls, free, order, cl, vf, D, hp⟩ := hs
  obtain ⟨c0, c1, c2, c3, c4, c5, c6⟩ := hp.mem.box.cells
  have hlt := hp.mem.box.lt
  have hp1 := hp.keep ((Keeps.refl [] w).alloc (.cells #[.string ⟨#[]⟩, .int .i64 0, .string ⟨#[]⟩, .int .i64 0, .int .i64 0] 37)) (by simp)
  obtain ⟨p, hrun, ho, hv⟩ := look_hit hp1 hkey hn
  have hkl : keyOf Tryz.prog 9 (.string key) = some (kk key) := Go.WideMaps.keyOf_string_mk Tryz.underlying9 hkey
  have hsm : Small (its.getD k zero) := small_getD hp.small k (at_split hn).1
  have htot := total_small hp.small (by omega)
  have hch : 0 ≤ charge (its.getD k zero) ∧ charge (its.getD k zero) ≤ 2097162 := by have := hsm; unfold Small at this; unfold charge; omega
  have HO := hide ho
  have HV := hide hv
  have HP := hide hp
  have HP1 := hide hp1
  have HKL := hide hkl
  have HN := hide hn
  have HSM := hide hsm
  have hws : w.heap.size ∉ [hb, gl] ++ gf.toList := by
    have h1 := hp.lt
    have h2 : ∀ y ∈ [hb, gl] ++ gf.toList, y < w.heap.size := fun y hy => h1 y (by
      rw [hp.blocks]
      simp only [List.mem_append, List.mem_cons, List.not_mem_nil, or_false] at hy ⊢
      rcases hy with (e | e) | e <;> simp [e])
    intro h3
    have := h2 _ h3
    omega
  clear c0 c1 c2 c3 c4 c5 hp hp1 ho hv hkl hn hkey hsm
  go_enter Tryz.func45, Tryz.ntmps45
  go_wp2_with fail
  refine (take_any _ hb _ gl gf ls free (order.take k) (order.drop (k + 1)) p cl vf (unhide HP1).mem (by have := (unhide HP1).good; rw [unhide HO] at this; exact this) (by have := (unhide HP1).len; omega)).mono ?_
  rintro e w1 ⟨gf1, vf1, rfl, hm1, hgf1, hk1⟩
  rw [unhide HV]
  simp only [World.size_alloc] at hgf1
  obtain ⟨d0, d1, d2, d3, d4, d5, d6⟩ := hm1.box.cells
  have hlt1 := hm1.box.lt
  have hr1 := fun o => hk1.cell (b := w.heap.size) (o := o) (by simp) hws
  have hrf1 := fun o => hk1.frozen (b := w.heap.size) (o := o) (by simp) hws
  have hzw : w.heap.size < w1.heap.size := by have := hk1.size; simp at this; omega
  have hbm1 : bm ∉ [hb, gl] ++ gf.toList := by
    have h1 := (unhide HP).m1
    have h2 := (unhide HP).m2
    have h3 := (unhide HP).m3
    simp only [List.mem_append, List.mem_cons, List.not_mem_nil, or_false, Option.mem_toList, not_or]
    exact ⟨⟨h1, h2⟩, h3⟩
  have hown1 := hide (hk1.map (unhide HP1).own hbm1)
  have HK1 := hide hk1
  have HM1 := hide hm1
  have HGF : Hid (gf1 = gf ∨ ∃ g, gf1 = some g ∧ (w.alloc (.cells #[.string ⟨#[]⟩, .int .i64 0, .string ⟨#[]⟩, .int .i64 0, .int .i64 0] 37)).heap.size ≤ g) := by
    show _ ∨ _
    rw [World.size_alloc]
    exact hgf1
  have hbmlt := (unhide HP).own.lt
  have hbmh := (unhide HP).m1
  clear d0 d1 d2 d3 d4 d5 hk1 hm1 hgf1
  generalize hx : its.getD k zero = x at HSM hch
  go_wp2_with (at_delete; go_loud (refine wpList_delete_own _ rfl _ _ 59 9 rfl 3 keyLaw Tryz.underlying59 _ bm its.length D rfl ((unhide hown1).alloc _) _ _ rfl (unhide HKL) ?_))
  intro w2 hown2 hturn2
  have hg2 := hturn2.grown
  have hm1' := (unhide HM1).keep ((Keeps.refl [] w1).alloc (.cells #[.string x.key, .int .i64 x.flags, .string x.data, .int .i64 x.upto, .int .i64 x.token] 37)) (by simp) (by simp) (by simp)
  have hb2 := hm1'.box.of_block (hg2.block hb hm1'.box.lt (by simp; exact Ne.symm hbmh))
  obtain ⟨e0, e1, e2, e3, e4, e5, e6⟩ := hb2.cells
  have f2 := hb2.frozen 2
  have hlt2 := hb2.lt
  have hz2 : w1.heap.size < w2.heap.size := by have := hg2.size; simp at this; omega
  have hix : ∀ o, w2.cell? ⟨w1.heap.size, o, none⟩ = (w1.alloc (.cells #[.string x.key, .int .i64 x.flags, .string x.data, .int .i64 x.upto, .int .i64 x.token] 37)).cell? ⟨w1.heap.size, o, none⟩ := fun o => World.cell?_of_block (a := ⟨w1.heap.size, o, none⟩) (hg2.block w1.heap.size (by simp) (by simp; omega))
  have hrb := (hg2.block w.heap.size (by simp; omega) (by simp; omega)).trans (Below.heap_alloc _ _ _ hzw)
  have hrx : ∀ o, w2.cell? ⟨w.heap.size, o, none⟩ = w1.cell? ⟨w.heap.size, o, none⟩ := fun o => World.cell?_of_block (a := ⟨w.heap.size, o, none⟩) hrb
  have hrfx : ∀ o, w2.frozen? ⟨w.heap.size, o, none⟩ = w1.frozen? ⟨w.heap.size, o, none⟩ := fun o => World.frozen?_of_block (a := ⟨w.heap.size, o, none⟩) hrb
  have HF := hide (fun w3 k3 => take_step (w0 := w) (w3 := w3) (unhide HP1) (unhide HN) (unhide HO) (unhide HV) ((unhide HK1).alloc _) hm1' (unhide HGF) hown2 hturn2 k3)
  rw [hx] at HF
  have hcc : IntKind.i64.wrap (total its - charge x) = total its - charge x := by rw [IntKind.wrap_i64]; omega
  have hcal := fun w => chargeOf_any x w (unhide HSM)
  clear e0 e1 e3 e4 e5 e6 hg2 hm1' hb2 hown2 hturn2 d6 hrun
  generalize charge x = c at HF hch hcc hcal
  generalize total its = t at HF e2 htot hcc
  have HC := hide hcal
  clear hcal
  go_wp2_with fail
  go_region_with (go_at_call 27; refine (unhide HC _).mono ?_; rintro e w3 ⟨rfl, hb3⟩; have g2 := hb3.cell (p := ⟨hb, 2, none⟩) (show hb < w2.drew.heap.size from hlt2); have gf2 := hb3.frozen (p := ⟨hb, 2, none⟩) (show hb < w2.drew.heap.size from hlt2); have gx := fun o => hb3.cell (p := ⟨w1.heap.size, o, none⟩) (show w1.heap.size < w2.drew.heap.size from hz2); have gr := fun o => hb3.cell (p := ⟨w.heap.size, o, none⟩) (show w.heap.size < w2.drew.heap.size by (show w.heap.size < w2.heap.size; omega)); have grf := fun o => hb3.frozen (p := ⟨w.heap.size, o, none⟩) (show w.heap.size < w2.drew.heap.size by (show w.heap.size < w2.heap.size; omega)); have HB3 := hide hb3; clear hb3)
  all_goals
    have k3 : Keeps [] w2 w3 := (Keeps.refl [] w2).drew.trans (Keeps.of_below (S := []) (unhide HB3) (fun _ h1 _ => h1)) (by simp)
    have HF4 := hide (unhide HF w3 k3)
    have O4 := (One.refl w3 hb).set 2 (.int .i64 (t - c))
    have j0 : ∀ o, (w3.setCell ⟨hb, 2, none⟩ (.int .i64 (t - c))).cell? ⟨w1.heap.size, o, none⟩ = (w1.alloc (.cells #[.string x.key, .int .i64 x.flags, .string x.data, .int .i64 x.upto, .int .i64 x.token] 37)).cell? ⟨w1.heap.size, o, none⟩ := fun o => (World.cell?_of_block (a := ⟨w1.heap.size, o, none⟩) (O4.block _ (by simp; omega))).trans ((gx o).trans (hix o))
    have j1 : ∀ o, (w3.setCell ⟨hb, 2, none⟩ (.int .i64 (t - c))).cell? ⟨w.heap.size, o, none⟩ = (w.alloc (.cells #[.string ⟨#[]⟩, .int .i64 0, .string ⟨#[]⟩, .int .i64 0, .int .i64 0] 37)).cell? ⟨w.heap.size, o, none⟩ := fun o => (World.cell?_of_block (a := ⟨w.heap.size, o, none⟩) (O4.block _ (by simp; omega))).trans ((gr o).trans ((hrx o).trans (hr1 o)))
    have j2 : ∀ o, (w3.setCell ⟨hb, 2, none⟩ (.int .i64 (t - c))).frozen? ⟨w.heap.size, o, none⟩ = (w.alloc (.cells #[.string ⟨#[]⟩, .int .i64 0, .string ⟨#[]⟩, .int .i64 0, .int .i64 0] 37)).frozen? ⟨w.heap.size, o, none⟩ := fun o => (World.frozen?_of_block (a := ⟨w.heap.size, o, none⟩) (O4.block _ (by simp; omega))).trans ((grf o).trans ((hrfx o).trans (hrf1 o)))
    clear O4 gx gr grf hix hrx hrfx hr1 hrf1 g2 gf2 e2 f2 hlt2 hz2 hrb HB3 k3
    generalize (w3.setCell ⟨hb, 2, none⟩ (.int .i64 (t - c))) = w4 at HF4 j0 j1 j2 ⊢
    go_wp2
    refine bodyPost_ret (v := .tuple #[itemV x, .bool true]) (by simp [results, Tryz.results45, go_sem, itemV, j1]; done) rfl ⟨by rw [hx], ?_⟩
    refine (unhide HF4).result ?_ ?_
    · repeat (refine One.set ?_ _ _)
      exact One.refl _ _
    · exact (unhide HP).lt
end Shelf
end Go.Proofs.YtkdcofmpbmiloaaGreatDoor
/-
  The program's shelf: isOld, dropOld.
-/
namespace Go.Proofs.YtkdcofmpbmiloaaGreatDoor
namespace Shelf
open Go.RowKit Base Items Keep Own Chain Store
set_option linter.unusedVariables false

set_option maxRecDepth 10000 in
set_option maxHeartbeats 400000 in
theorem isOld_any (x : Itm) (now : Int) (w : World) :
    Calls Tryz.prog 44 #[.agg #[.string x.key, .int .i64 x.flags, .string x.data, .int .i64 x.upto, .int .i64 x.token], .int .i64 now] w fun e w' => e = .returned (.bool (oldB x now)) ∧ Below w.heap.size w w' := by
  cases h : (x.upto != 0)
  · have H : Hid (oldB x now = false) := by show oldB x now = false; rw [oldB, h]; rfl
    go_enter Tryz.func44, Tryz.ntmps44
    go_wp2
    go_ret
    exact ⟨ret_bool (unhide H).symm, bel1 w _⟩
  · have H : Hid (oldB x now = decide (x.upto ≤ now)) := by show oldB x now = _; rw [oldB, h]; rfl
    go_enter Tryz.func44, Tryz.ntmps44
    go_wp2
    go_ret
    exact ⟨ret_bool (unhide H).symm, bel1 w _⟩

theorem step_refl {w : World} {hb : Nat} {S : List Nat} {lim nx lost : Int} {its : List Itm} (h : Shelf w hb S lim nx lost its) : Step w w hb S lim nx lost its := ⟨S, h, fun b hb' => .inl hb', Keeps.refl _ _⟩
/-- Steps one behind the other, with what lies between. -/
theorem step_go {w w1 w2 : World} {hb : Nat} {S S1 : List Nat} {lim nx lost : Int} {its : List Itm} (hk : Keeps S w w1) (hS : ∀ b ∈ S1, b ∈ S ∨ w.heap.size ≤ b) (h : Step w1 w2 hb S1 lim nx lost its) : Step w w2 hb S lim nx lost its := by
  obtain ⟨S2, hs, hS2, hk2⟩ := h
  exact ⟨S2, hs, fun b hb' => (hS2 b hb').elim (hS b) (fun e => .inr (Nat.le_trans hk.size e)), hk.trans hk2 hS⟩
theorem at_mid {l1 l2 : List Itm} {x : Itm} (h : ((l1 ++ x :: l2).map Itm.key).Nodup) : atN (l1 ++ x :: l2) x.key = some l1.length := by
  rw [List.map_append, List.map_cons, List.nodup_append] at h
  refine atN_hit (by simp) (fun j hj => ?_) ?_
  · rw [List.getD_eq_getElem?_getD, List.getElem?_append_left hj, List.getElem?_eq_getElem hj]
    cases e : hasKey x.key l1[j]
    · exact e
    · exact absurd ((hasKey_iff _ _).1 e) (h.2.2 _ (List.mem_map_of_mem (List.getElem_mem hj)) _ (by simp))
  · simp [List.getD_eq_getElem?_getD]
    exact (hasKey_iff _ _).2 rfl
theorem erase_mid {α : Type} (l1 l2 : List α) (x : α) : (l1 ++ x :: l2).eraseIdx l1.length = l1 ++ l2 := by
  rw [List.eraseIdx_append_of_length_le (Nat.le_refl _)]
  simp
theorem get_mid (l1 l2 : List Itm) (x : Itm) : (l1 ++ x :: l2).getD l1.length zero = x := by simp [List.getD_eq_getElem?_getD]

/-- The items behind k rounds of dropOld. -/
def mid (its : List Itm) (now : Int) (k : Nat) : List Itm := keepB (its.take k) now ++ its.drop k
theorem mid_0 (its : List Itm) (now : Int) : mid its now 0 = its := by simp [mid, keepB]
theorem mid_all (its : List Itm) (now : Int) : mid its now its.length = keepB its now := by simp [mid]
theorem mid_cons (its : List Itm) (now : Int) {k : Nat} (hk : k < its.length) : mid its now k = keepB (its.take k) now ++ its.getD k zero :: its.drop (k + 1) := by
  unfold mid
  rw [List.drop_eq_getElem_cons hk, List.getD_eq_getElem?_getD, List.getElem?_eq_getElem hk]
  rfl
theorem mid_old (its : List Itm) (now : Int) {k : Nat} (hk : k < its.length) (h : oldB (its.getD k zero) now = true) : mid its now (k + 1) = keepB (its.take k) now ++ its.drop (k + 1) := by
  unfold mid
  rw [keep_step its now k hk, if_pos h, List.append_nil]
theorem mid_new (its : List Itm) (now : Int) {k : Nat} (hk : k < its.length) (h : oldB (its.getD k zero) now = false) : mid its now (k + 1) = mid its now k := by
  rw [mid_cons its now hk]
  unfold mid
  rw [keep_step its now k hk, if_neg (by rw [h]; simp)]
  simp
theorem mid_len (its : List Itm) (now : Int) (k : Nat) : (mid its now k).length ≤ its.length := by
  have := keep_len its now k
  unfold mid
  have h2 : (keepB (its.take k) now).length ≤ (its.take k).length := List.length_filter_le _ _
  simp at h2 ⊢
  omega

theorem row_at {w : World} {t : TypeId} {g cap : Nat} {its : List Itm} (h : Row w t 5 g its.length cap (flat its)) {k : Nat} (hk : k < its.length) : At w g (k * 5) (its.getD k zero) := by
  have hc : ∀ i, i < 5 → w.cell? ⟨g, k * 5 + i, none⟩ = some (icell its (k * 5 + i)) := fun i hi => Row.cell h (flat_get its _ (by omega))
  refine ⟨?_, ?_, ?_, ?_, ?_⟩
  · have := hc 0 (by omega); rw [Nat.add_zero] at this; rw [this, icell, show (k * 5) % 5 = 0 by omega, show (k * 5) / 5 = k by omega]; simp
  · rw [hc 1 (by omega), icell, show (k * 5 + 1) % 5 = 1 by omega, show (k * 5 + 1) / 5 = k by omega]; simp
  · rw [hc 2 (by omega), icell, show (k * 5 + 2) % 5 = 2 by omega, show (k * 5 + 2) / 5 = k by omega]; simp
  · rw [hc 3 (by omega), icell, show (k * 5 + 3) % 5 = 3 by omega, show (k * 5 + 3) / 5 = k by omega]; simp
  · rw [hc 4 (by omega), icell, show (k * 5 + 4) % 5 = 4 by omega, show (k * 5 + 4) / 5 = k by omega]; simp
theorem shelf_keys {w : World} {hb : Nat} {S : List Nat} {lim nx lost : Int} {its : List Itm} (h : Shelf w hb S lim nx lost its) : (its.map Itm.key).Nodup ∧ ∀ x ∈ its, Small x := by
  obtain ⟨gl, gf, bm, ls, free, order, cl, vf, D, hp⟩ := h
  exact ⟨hp.keys, hp.small⟩

set_option maxRecDepth 10000 in
set_option maxHeartbeats 2000000 in
theorem dropOld_shelf (w : World) (hb : Nat) (S : List Nat) (lim nx lost : Int) (its : List Itm) (now : Int) (hs : Shelf w hb S lim nx lost its) (hl : its.length ≤ 100) :
    Calls Tryz.prog 17 #[.pointer (some ⟨hb, 0, none⟩), .int .i64 now] w fun e w' => e = .returned (.int .i64 (its.length - (keepB its now).length)) ∧ Step w w' hb S lim nx lost (keepB its now) := by
  have HS := hide hs
  obtain ⟨gl, gf, bm, ls, free, order, cl, vf, D, hp⟩ := hs
  have hol : order.length = its.length := by rw [← hp.items, items_len]
  have hval := fun w' (hk : Below w.heap.size w w') => values_any w' hb _ gl gf ls free order cl vf (hp.keep (Keeps.of_below (S := []) hk (fun _ h1 _ => h1)) (by simp)).mem hp.good (by have := hp.len; omega)
  rw [hp.items, hol] at hval
  have HV := hide hval
  have hSl := hide (hp.lt)
  clear hval hp
  go_enter Tryz.func17, Tryz.ntmps17
  go_wp2_with fail
  refine (unhide HV _ (Below.refl _ _)).mono ?_
  rintro e w1 ⟨va, vc, rfl, hown, hb1⟩
  have HO := hide hown
  have HB1 := hide hb1
  have HS1 := hide ((unhide HS).below hb1)
  clear hown hb1 HV
  have hz1 : w.heap.size ≤ w1.heap.size := (unhide HB1).size
  go_wp2_with fail
  go_loopw [5, 13] (fun t i wr => ∃ (k : Nat) (z : Int), k ≤ its.length ∧ i = .int .i64 k ∧ t = .int .i64 z ∧ Hid (z = k - (keepB (its.take k) now).length) ∧ Hid (Step w1 wr hb S lim nx lost (mid its now k))) (fun _ i _ => its.length - (intOf i).toNat)
  case atStart => exact ⟨0, 0, Nat.zero_le _, rfl, rfl, hide (by simp [keepB]), hide (by rw [mid_0]; exact step_refl (unhide HS1))⟩
  case round =>
    obtain ⟨k, z, hk, rfl, rfl, hz, hst⟩ := hrel
    obtain ⟨Sk, hsk, hSk, hkk⟩ := unhide hst
    by_cases hlt : k < its.length
    · obtain ⟨g, cap, hva, hg, hrow⟩ := Row.of_owns (unhide HO) (by omega)
      simp only [Value.slice.injEq, true_and] at hva
      obtain ⟨rfl, rfl⟩ := hva
      have hgS : g ∉ S := fun hm => by have := unhide hSl g hm; omega
      have hrow2 := hrow.keep hkk hgS
      obtain ⟨c0, c1, c2, c3, c4⟩ := row_at hrow2 hlt
      have hkz : (keepB (its.take k) now).length ≤ k := keep_len its now k
      have hzb : 0 ≤ z ∧ z ≤ 100 := by have := unhide hz; omega
      have hkl := hide (keep_step its now k hlt)
      have hm1 := hide (mid_cons its now hlt)
      have hm2 := hide (mid_old its now hlt)
      have hm3 := hide (mid_new its now hlt)
      have hks := hide (shelf_keys hsk)
      have hml := mid_len its now k
      have HSK := hide hsk
      have HSS := hide hSk
      have HKK := hide hkk
      clear hrow hrow2 hsk hSk hkk hst
      generalize its.getD k zero = x at c0 c1 c2 c3 c4 hkl hm1 hm2 hm3
      cases ho : oldB x now
      · rw [ho] at hkl
        have H3 := hide (unhide hm3 ho)
        have HO' := hide ho
        clear ho hm1 hm2 hm3
        go_wp2_with fail
        refine (isOld_any x now _).mono ?_
        rintro e w2 ⟨rfl, hb2⟩
        rw [unhide HO']
        have K2 := hide ((Keeps.refl [] wr).alloc (.cells #[.string x.key, .int .i64 x.flags, .string x.data, .int .i64 x.upto, .int .i64 x.token] 37) |>.trans (Keeps.of_below (S := []) hb2 (fun _ h1 _ => h1)) (by simp))
        clear hb2
        go_wp2
        go_roundw
        case rel =>
          refine ⟨k + 1, z, by omega, by go_num, rfl, hide ?_, hide ?_⟩
          · have := unhide hz; rw [unhide hkl]; simp; omega
          · rw [unhide H3]
            exact ⟨Sk, (unhide HSK).keep (unhide K2) (by simp), unhide HSS, (unhide HKK).trans (unhide K2) (by simp)⟩
        case measure => simp [intOf]; omega
      · rw [ho] at hkl
        have H2 := hide (unhide hm2 ho)
        have HO' := hide ho
        clear ho hm2 hm3
        go_wp2_with fail
        refine (isOld_any x now _).mono ?_
        rintro e w2 ⟨rfl, hb2⟩
        rw [unhide HO']
        simp only [World.size_alloc] at hb2
        have hx2 := boxcell hb2
        have hz2 : wr.heap.size < w2.heap.size := by have := hb2.size; simp at this; omega
        have K2 := hide ((Keeps.refl [] wr).alloc (.cells #[.string x.key, .int .i64 x.flags, .string x.data, .int .i64 x.upto, .int .i64 x.token] 37) |>.trans (Keeps.of_below (S := []) hb2 (fun k h1 _ => by simpa using h1)) (by simp))
        clear hb2
        have hxm : Hid (x.key.size ≤ maxLen) := by
          have h1 := (unhide hks).2 x (by rw [unhide hm1]; simp)
          have h2 := h1.1
          show x.key.size ≤ maxLen
          unfold maxLen
          omega
        have hat : Hid (atN (mid its now k) x.key = some (keepB (its.take k) now).length) := by
          show atN (mid its now k) x.key = _
          have h1 := (unhide hks).1
          rw [unhide hm1] at h1 ⊢
          exact at_mid h1
        go_wp2_with fail
        refine (take_some _ hb Sk lim nx lost (mid its now k) x.key _ ((unhide HSK).keep (unhide K2) (by simp)) (by omega) (unhide hxm) (unhide hat)).mono ?_
        rintro e w3 ⟨rfl, hst3⟩
        have HST : Hid (Step w1 w3 hb S lim nx lost (mid its now (k + 1))) := by
          have h1 := step_go ((unhide HKK).trans (unhide K2) (by simp)) (unhide HSS) hst3
          rw [unhide hm1, erase_mid, ← unhide H2] at h1
          exact h1
        clear hst3 hx2
        go_wp2
        go_roundw
        case rel =>
          refine ⟨k + 1, z + 1, by omega, by go_num, rfl, hide ?_, HST⟩
          have := unhide hz; rw [unhide hkl]; simp; omega
        case measure => simp [intOf]; omega
    · obtain rfl : k = its.length := by omega
      have hz' : Hid (z = its.length - (keepB its now).length) := by have := unhide hz; rw [List.take_length] at this; exact this
      have hst' : Hid (Step w w1 hb S lim nx lost its) := ⟨S, unhide HS1, fun b hb' => .inl hb', Keeps.of_below (unhide HB1) (fun k h1 _ => h1)⟩
      have hfin : Hid (Step w wr hb S lim nx lost (keepB its now)) := by
        have h1 := unhide hst
        rw [mid_all] at h1
        exact step_go (Keeps.of_below (unhide HB1) (fun k h1 _ => h1)) (fun b hb' => .inl hb') h1
      clear hz hst hst' hsk hSk hkk
      go_wp2
      go_ret
      exact ⟨ret_int (unhide hz'), unhide hfin⟩
end Shelf
end Go.Proofs.YtkdcofmpbmiloaaGreatDoor
/-
  strings.Clone hands back the text; the program's copyOfItem its item.
-/
namespace Go.Proofs.YtkdcofmpbmiloaaGreatDoor
namespace Shelf
open Go.RowKit Base Items Keep Own Chain Store
set_option linter.unusedVariables false

theorem clone_runs (s : ByteArray) (w : World) (h0 : s.size ≠ 0) (hs : s.size ≤ 1048576) : ∃ W2 W3 : World,
    (Builtin.copy_ #[22, 9] 3 #[.slice (some ⟨w.heap.size, 0, none⟩) s.size s.size, .string s]).run Tryz.prog (w.alloc (.cells (madeCells #[.int .u8 0] s.size) 5)) = .ok (.int .i64 s.size) W2 ∧
    (Builtin.unsafeString_ #[117, 3] 9 #[.pointer (some ⟨w.heap.size, 0, none⟩), .int .i64 s.size]).run Tryz.prog W2 = .ok (.string s) W3 ∧ W2.heap.size = w.heap.size + 1 ∧ Below w.heap.size w W3 := by
  have hA : (w.alloc (.cells (madeCells #[.int .u8 0] s.size) 5)).heap[w.heap.size]? = some (.cells (madeCells #[.int .u8 0] s.size) 5 (0, 0)) := heap_alloc_new w _
  have hcp := Lib.run_copy_row_string (P := Tryz.prog) (w.alloc (.cells (madeCells #[.int .u8 0] s.size) 5)) 22 9 3 5 w.heap.size 0 s.size s.size s (madeCells #[.int .u8 0] s.size) 5 Tryz.underlying22 (by kernel_rfl) hA (Nat.le_refl _) (by rw [size_madeCells]; omega)
  have el : s.data.toList.length = s.size := by simp
  have ec : ((madeCells #[Value.int .u8 0] s.size).toList.take 0 ++ Lib.byteCells s.data.toList ++ (madeCells #[Value.int .u8 0] s.size).toList.drop (0 + s.size)) = Lib.byteCells s.data.toList := by
    rw [List.take_zero, List.nil_append, List.drop_eq_nil_of_le (by rw [Array.length_toList, size_madeCells]; omega), List.append_nil]
  rw [ec] at hcp
  have hh := setRow_heap (w.alloc (.cells (madeCells #[.int .u8 0] s.size) 5)) w.heap.size _ (Lib.byteCells s.data.toList).toArray _ _ hA
  have hus := Lib.run_unsafeString_row (P := Tryz.prog) ((w.alloc (.cells (madeCells #[.int .u8 0] s.size) 5)).setRow w.heap.size (Lib.byteCells s.data.toList).toArray) 117 3 9 5 Tryz.underlying117 (by kernel_rfl) w.heap.size s.size
    (by unfold World.shape?; rw [hh]; simp [Lib.byteCells_length]) s.data.toList (by intro e; rw [e] at el; simp at el; omega) (by omega) (by omega)
    (fun j x hj => by
      rw [Go.WideShapes.add_plain, Nat.zero_add, cell_setRow_same _ _ _ _ _ _ _ hA]
      simp [Lib.byteCells, hj])
  rw [el] at hus
  refine ⟨_, _, hcp, hus, by simp, ?_⟩
  exact Lib.below_freeze (below_setRow (bel1 w _) (Nat.le_refl _) _) (Nat.le_refl _) _

set_option maxRecDepth 10000 in
set_option maxHeartbeats 1000000 in
theorem sclone_any (s : ByteArray) (w : World) (hs : s.size ≤ 1048576) : Calls Tryz.prog 74 #[.string s] w fun e w' => e = .returned (.string s) ∧ Below w.heap.size w w' := by
  by_cases h0 : s.size = 0
  · have e0 : s = ByteArray.empty := by
      apply Go.WideShapes.bytes_inj
      have : s.data.toList.length = 0 := by simpa using h0
      rw [List.length_eq_zero_iff.1 this]; rfl
    subst e0
    clear h0 hs
    go_enter Tryz.func74, Tryz.ntmps74
    go_wp2
    go_ret
    exact ⟨rfl, Below.refl _ _⟩
  have h0' : ¬ (s.size : Int) = 0 := by omega
  have hmk := fun w => run_make_rows (P := Tryz.prog) 22 5 (.int .u8 0) 1 1 Tryz.underlying22 (by kernel_rfl) .i64 .i64 s.size (by omega) (by omega) w
  rw [Nat.mul_one] at hmk
  have hmk' : (Instr.makeSlice 22 (.int .i64 s.size) (.int .i64 s.size)).run Tryz.prog w = .ok (.slice (some ⟨w.heap.size, 0, none⟩) s.size s.size) (w.alloc (.cells (madeCells #[.int .u8 0] s.size) 5)) := hmk w
  obtain ⟨W2, W3, hcp, hus, hz, hb⟩ := clone_runs s w h0 hs
  have HB := hide hb
  have hpos : (0 : Int) < s.size := by omega
  clear hmk hb
  go_enter Tryz.func74, Tryz.ntmps74
  go_wp2
  go_ret
  exact ⟨rfl, unhide HB⟩

set_option maxRecDepth 10000 in
set_option maxHeartbeats 1000000 in
theorem clone_any (s : ByteArray) (w : World) (hs : s.size ≤ 1048576) : Calls Tryz.prog 56 #[.string s] w fun e w' => e = .returned (.string s) ∧ Below w.heap.size w w' := by
  go_enter Tryz.func56, Tryz.ntmps56
  go_wp2_with fail
  refine (sclone_any s _ hs).mono ?_
  rintro e w1 ⟨rfl, hb1⟩
  have HB := hide hb1
  clear hb1
  go_wp2
  go_ret
  exact ⟨rfl, unhide HB⟩

set_option maxRecDepth 10000 in
set_option maxHeartbeats 1000000 in
theorem copyOf_any (x : Itm) (w : World) (hx : Small x) : Calls Tryz.prog 29 #[.agg #[.string x.key, .int .i64 x.flags, .string x.data, .int .i64 x.upto, .int .i64 x.token]] w fun e w' => e = .returned (itemV x) ∧ Below w.heap.size w w' := by
  obtain ⟨h1, h2⟩ := hx
  go_enter Tryz.func29, Tryz.ntmps29
  go_wp2_with fail
  refine (clone_any x.key _ h1).mono ?_
  rintro e w1 ⟨rfl, hb1⟩
  have B1 := hide ((bel2 w _ _).trans (hb1.mono (by simp; omega)))
  simp only [World.size_alloc] at hb1
  have q1 := fun o => hb1.cell (p := ⟨w.heap.size, o, none⟩) (by simp; omega)
  have q2 := fun o => hb1.cell (p := ⟨w.heap.size + 1, o, none⟩) (by simp)
  have p1 := fun o => hb1.frozen (p := ⟨w.heap.size, o, none⟩) (by simp; omega)
  have p2 := fun o => hb1.frozen (p := ⟨w.heap.size + 1, o, none⟩) (by simp)
  have hz1 : w.heap.size + 1 < w1.heap.size := by have := hb1.size; simp at this; omega
  clear hb1
  go_wp2_with fail
  refine (clone_any x.data _ h2).mono ?_
  rintro e w2 ⟨rfl, hb2⟩
  have hsz : (w1.setCell ⟨w.heap.size, 0, none⟩ (.string x.key)).heap.size = w1.heap.size := by simp [World.setCell]
  rw [hsz] at hb2
  have B2 := hide (((unhide B1).setCell (p := ⟨w.heap.size, 0, none⟩) (Nat.le_refl _) (.string x.key)).trans (hb2.mono (by omega)))
  have r1 := fun o => hb2.cell (p := ⟨w.heap.size, o, none⟩) (by simp; omega)
  have r2 := fun o => hb2.cell (p := ⟨w.heap.size + 1, o, none⟩) (by simp; omega)
  have s1 := fun o => hb2.frozen (p := ⟨w.heap.size, o, none⟩) (by simp; omega)
  have s2 := fun o => hb2.frozen (p := ⟨w.heap.size + 1, o, none⟩) (by simp; omega)
  clear hb2 hsz
  go_wp2
  refine bodyPost_ret (v := itemV x) (by simp [results, Tryz.results29, go_sem, itemV, r2, q2]; done) rfl ⟨rfl, ?_⟩
  repeat (refine Below.setCell ?_ (by first | (simp; done) | (simp; omega)) _)
  exact unhide B2
end Shelf
end Go.Proofs.YtkdcofmpbmiloaaGreatDoor
/-
  The program's shelf: store, find.
-/
namespace Go.Proofs.YtkdcofmpbmiloaaGreatDoor
namespace Shelf
open Go.RowKit Base Items Keep Own Chain Store
set_option linter.unusedVariables false

theorem set_self {α : Type} {xs : List α} {j : Nat} {v : α} (h : xs[j]? = some v) : xs.set j v = xs := by
  obtain ⟨hj, rfl⟩ := List.getElem?_eq_some_iff.1 h
  simp
/-- An item is written over itself. -/
theorem row_same {w : World} {t : TypeId} {g cap : Nat} {its : List Itm} (h : Row w t 5 g its.length cap (flat its)) {k : Nat} (hk : k < its.length) {x : Itm} (hx : x = its.getD k zero) :
    Row (((((w.setCell ⟨g, k * 5, none⟩ (.string x.key)).setCell ⟨g, k * 5 + 1, none⟩ (.int .i64 x.flags)).setCell ⟨g, k * 5 + 2, none⟩ (.string x.data)).setCell ⟨g, k * 5 + 3, none⟩ (.int .i64 x.upto)).setCell ⟨g, k * 5 + 4, none⟩ (.int .i64 x.token)) t 5 g its.length cap (flat its) := by
  subst hx
  have e0 : (flat its)[k * 5]? = some (.string (its.getD k zero).key) := by rw [flat_get its _ (by omega), icell, show (k * 5) % 5 = 0 by omega, show (k * 5) / 5 = k by omega]; simp
  have e1 : (flat its)[k * 5 + 1]? = some (.int .i64 (its.getD k zero).flags) := by rw [flat_get its _ (by omega), icell, show (k * 5 + 1) % 5 = 1 by omega, show (k * 5 + 1) / 5 = k by omega]; simp
  have e2 : (flat its)[k * 5 + 2]? = some (.string (its.getD k zero).data) := by rw [flat_get its _ (by omega), icell, show (k * 5 + 2) % 5 = 2 by omega, show (k * 5 + 2) / 5 = k by omega]; simp
  have e3 : (flat its)[k * 5 + 3]? = some (.int .i64 (its.getD k zero).upto) := by rw [flat_get its _ (by omega), icell, show (k * 5 + 3) % 5 = 3 by omega, show (k * 5 + 3) / 5 = k by omega]; simp
  have e4 : (flat its)[k * 5 + 4]? = some (.int .i64 (its.getD k zero).token) := by rw [flat_get its _ (by omega), icell, show (k * 5 + 4) % 5 = 4 by omega, show (k * 5 + 4) / 5 = k by omega]; simp
  have h0 := row_set h (j := k * 5) (by omega) (.string (its.getD k zero).key)
  rw [set_self e0] at h0
  have h1 := row_set h0 (j := k * 5 + 1) (by omega) (.int .i64 (its.getD k zero).flags)
  rw [set_self e1] at h1
  have h2 := row_set h1 (j := k * 5 + 2) (by omega) (.string (its.getD k zero).data)
  rw [set_self e2] at h2
  have h3 := row_set h2 (j := k * 5 + 3) (by omega) (.int .i64 (its.getD k zero).upto)
  rw [set_self e3] at h3
  have h4 := row_set h3 (j := k * 5 + 4) (by omega) (.int .i64 (its.getD k zero).token)
  rw [set_self e4] at h4
  exact h4

set_option maxRecDepth 10000 in
set_option maxHeartbeats 2000000 in
theorem store_shelf (w : World) (hb : Nat) (S : List Nat) (lim nx lost : Int) (its : List Itm) (hs : Shelf w hb S lim nx lost its) (hl : its.length ≤ 100) :
    Calls Tryz.prog 19 #[.pointer (some ⟨hb, 0, none⟩)] w fun e w' => ∃ a cap, e = .returned (.agg #[.int .i64 lim, .int .i64 nx, .slice a its.length cap]) ∧
      w'.ownsRow w.heap.size 37 5 (.slice a its.length cap) its.length (flat its) ∧ Below w.heap.size w w' := by
  have hks := hide (shelf_keys hs).2
  obtain ⟨gl, gf, bm, ls, free, order, cl, vf, D, hp⟩ := hs
  have hol : order.length = its.length := by rw [← hp.items, items_len]
  have hval := fun w' (hk : Below w.heap.size w w') => values_any w' hb _ gl gf ls free order cl vf (hp.keep (Keeps.of_below (S := []) hk (fun _ h1 _ => h1)) (by simp)).mem hp.good (by have := hp.len; omega)
  rw [hp.items, hol] at hval
  have HV := hide hval
  have HBX := hide (hp.mem.box)
  have hlt := hp.mem.box.lt
  clear hval hp
  go_enter Tryz.func19, Tryz.ntmps19
  go_wp2_with fail
  refine (unhide HV _ (bel1 w _)).mono ?_
  rintro e w1 ⟨va, vc, rfl, hown, hb1⟩
  simp only [World.size_alloc] at hown hb1
  have HO := hide hown
  have HB1 := hide hb1
  clear hown hb1 HV
  go_wp2_with fail
  go_loopw [12] (fun i wr => ∃ (k : Nat), k ≤ its.length ∧ i = .int .i64 k ∧ Hid (wr.ownsRow (w.heap.size + 1) 37 5 (.slice va its.length vc) its.length (flat its)) ∧ Hid (Below (w.heap.size + 1) (w.alloc (.cells #[.int .i64 0, .int .i64 0, .slice none 0 0] 25)) wr)) (fun i _ => its.length - (intOf i).toNat)
  case atStart => exact ⟨0, Nat.zero_le _, rfl, HO, HB1⟩
  case round =>
    obtain ⟨k, hk, rfl, hown, hbel⟩ := hrel
    have hB : Hid (Below w.heap.size w wr) := (bel1 w _).trans ((unhide hbel).mono (by omega))
    have hzw : w.heap.size + 1 ≤ wr.heap.size := by have := (unhide hbel).size; simp at this; omega
    by_cases hlt' : k < its.length
    · obtain ⟨g, cap, hva, hg, hrow⟩ := Row.of_owns (unhide hown) (by omega)
      simp only [Value.slice.injEq, true_and] at hva
      obtain ⟨rfl, rfl⟩ := hva
      obtain ⟨c0, c1, c2, c3, c4⟩ := row_at hrow hlt'
      have hsm := hide (small_getD (unhide hks) k hlt')
      have hsame := hide (fun (W : World) (h : Row W 37 5 g its.length vc (flat its)) => row_same h hlt' (x := its.getD k zero) rfl)
      have HR := hide hrow
      have hgl := hrow.lt
      have hki : (k : Int) < its.length := by omega
      clear hrow
      have hcc := hide (fun (W : World) (h : Row W 37 5 g its.length vc (flat its)) => row_at h hlt')
      generalize its.getD k zero = x at c0 c1 c2 c3 c4 hsm hsame hcc
      go_wp2_with fail
      refine (copyOf_any x _ (unhide hsm)).mono ?_
      rintro e w2 ⟨rfl, hb2⟩
      simp only [World.size_alloc] at hb2
      have HR2 := hide (((unhide HR).alloc (.cells #[.string x.key, .int .i64 x.flags, .string x.data, .int .i64 x.upto, .int .i64 x.token] 37)).of_block (hb2.block g (by omega)))
      have HB2 := hide (((unhide hbel).alloc (by omega) _).trans (hb2.mono (by omega)))
      obtain ⟨d0, d1, d2, d3, d4⟩ := unhide hcc _ (unhide HR2)
      have fz := fun j => Row.frozen (unhide HR2) j
      clear c0 c1 c2 c3 c4 hb2
      unfold itemV
      go_wp2
      have R5 := unhide hsame _ (unhide HR2)
      have B5 := (((((unhide HB2).setCell (p := ⟨g, k * 5, none⟩) hg (.string x.key)).setCell (p := ⟨g, k * 5 + 1, none⟩) hg (.int .i64 x.flags)).setCell (p := ⟨g, k * 5 + 2, none⟩) hg (.string x.data)).setCell (p := ⟨g, k * 5 + 3, none⟩) hg (.int .i64 x.upto)).setCell (p := ⟨g, k * 5 + 4, none⟩) hg (.int .i64 x.token)
      go_roundw
      case rel => exact ⟨k + 1, by omega, by go_num, hide (R5.owns hg), hide B5⟩
      case measure => simp [intOf]; omega
    · obtain ⟨c0, c1, c2, c3, c4, c5, c6⟩ := ((unhide HBX).of_block ((unhide hB).block hb hlt)).cells
      have hr := fun o => (unhide hbel).cell (p := ⟨w.heap.size, o, none⟩) (by simp)
      have hrf := fun o => (unhide hbel).frozen (p := ⟨w.heap.size, o, none⟩) (by simp)
      clear c2 c3 c4 c5 c6
      go_wp2
      go_region
      go_wp2
      refine bodyPost_ret (v := .agg #[.int .i64 lim, .int .i64 nx, .slice va its.length vc]) (by simp [results, Tryz.results19, go_sem, hr]; done) rfl ⟨va, vc, rfl, ?_, ?_⟩
      · refine own_le (base := w.heap.size + 1) ?_ (by omega)
        show ((((wr.setCell ⟨w.heap.size, 0, none⟩ (.int .i64 lim)).setCell ⟨w.heap.size, 1, none⟩ (.int .i64 nx)).setCell ⟨w.heap.size, 2, none⟩ (.slice va its.length vc))).ownsRow (w.heap.size + 1) _ _ _ _ _
        exact ownsRow_setCell_below (ownsRow_setCell_below (ownsRow_setCell_below (unhide hown) (show w.heap.size < w.heap.size + 1 by omega) _) (show w.heap.size < w.heap.size + 1 by omega) _) (show w.heap.size < w.heap.size + 1 by omega) _
      · exact ((((unhide hB).setCell (p := ⟨w.heap.size, 0, none⟩) (Nat.le_refl _) _).setCell (p := ⟨w.heap.size, 1, none⟩) (Nat.le_refl _) _).setCell (p := ⟨w.heap.size, 2, none⟩) (Nat.le_refl _) _).drew
end Shelf
end Go.Proofs.YtkdcofmpbmiloaaGreatDoor
/-
  The program's shelf: find; goodNow; what a good store gives.
-/
namespace Go.Proofs.YtkdcofmpbmiloaaGreatDoor
namespace Shelf
open Go.RowKit Base Items Keep Own Chain Store GoodKey
set_option linter.unusedVariables false

theorem kL_kk (x : Itm) : kL x = kk x.key := rfl
theorem good_keys {lim nx : Int} {its : List Itm} (h : gsB lim nx its = true) : its.length ≤ 60 ∧ (∀ x ∈ its, Small x) ∧ (its.map Itm.key).Nodup := by
  unfold gsB at h
  simp only [Bool.and_eq_true, decide_eq_true_eq] at h
  obtain ⟨⟨⟨_, h3⟩, h4⟩, _⟩ := h
  have hg := (goodTo_iff nx its its.length (Nat.le_refl _)).1 h4
  rw [List.take_length] at hg
  refine ⟨by omega, good_small h4, ?_⟩
  have h5 : (its.map kL) = (its.map Itm.key).map kk := by simp [kL_kk]
  have h6 := hg.2.1
  rw [h5] at h6
  exact (List.pairwise_map.1 h6).imp (fun hne e => hne (by rw [e]))

set_option maxRecDepth 10000 in
set_option maxHeartbeats 400000 in
theorem goodNow_any (n : Int) (w : World) : Calls Tryz.prog 14 #[.int .i64 n] w fun e w' => e = .returned (.bool (inB n 0 1000000000)) ∧ w' = w := by
  go_enter Tryz.func14, Tryz.ntmps14
  go_wp2
  all_goals
    go_ret
    refine ⟨ret_bool ?_, rfl⟩
    simp [inB]
    try omega

set_option maxRecDepth 10000 in
set_option maxHeartbeats 1000000 in
theorem find_none (w : World) (hb : Nat) (S : List Nat) (lim nx lost : Int) (its : List Itm) (key : ByteArray) (hs : Shelf w hb S lim nx lost its) (hkey : key.size ≤ maxLen) (hn : atN its key = none) :
    Calls Tryz.prog 28 #[.pointer (some ⟨hb, 0, none⟩), .string key] w fun e w' => e = .returned (findV none) ∧ Below w.heap.size w w' := by
  obtain ⟨gl, gf, bm, ls, free, order, cl, vf, D, hp⟩ := hs
  obtain ⟨c0, c1, c2, c3, c4, c5, c6⟩ := hp.mem.box.cells
  have hlt := hp.mem.box.lt
  have hrun := look_miss (hp.keep ((Keeps.refl [] w).alloc (.cells #[.string ⟨#[]⟩, .int .i64 0, .string ⟨#[]⟩, .int .i64 0, .int .i64 0] 37)) (by simp)) hkey hn
  clear c0 c1 c2 c3 c4 c5 hp hn hkey
  go_enter Tryz.func28, Tryz.ntmps28
  go_wp2
  refine bodyPost_ret (v := .tuple #[.agg #[.string ⟨#[]⟩, .int .i64 0, .string ⟨#[]⟩, .int .i64 0, .int .i64 0], .bool false]) (by simp [results, Tryz.results28, go_sem]; done) rfl ⟨rfl, ?_⟩
  exact bel1 w _

set_option maxRecDepth 10000 in
set_option maxHeartbeats 1000000 in
theorem find_hit (w : World) (hb : Nat) (S : List Nat) (lim nx lost : Int) (its : List Itm) (key : ByteArray) (k : Nat) (hs : Shelf w hb S lim nx lost its) (hkey : key.size ≤ maxLen) (hn : atN its key = some k) :
    Calls Tryz.prog 28 #[.pointer (some ⟨hb, 0, none⟩), .string key] w fun e w' => e = .returned (findV (some (its.getD k zero))) ∧ Below w.heap.size w w' := by
  obtain ⟨gl, gf, bm, ls, free, order, cl, vf, D, hp⟩ := hs
  have hp1 := hp.keep ((Keeps.refl [] w).alloc (.cells #[.string ⟨#[]⟩, .int .i64 0, .string ⟨#[]⟩, .int .i64 0, .int .i64 0] 37)) (by simp)
  obtain ⟨c0, c1, c2, c3, c4, c5, c6⟩ := hp.mem.box.cells
  have hlt := hp.mem.box.lt
  have hgt := Row.lt hp.mem.links
  obtain ⟨p, hrun, ho, hv⟩ := look_hit hp1 hkey hn
  have hpl : p < ls.length := (hp.good.inO p (by rw [ho]; simp)).2
  have hpi : (p : Int) < ls.length := by omega
  obtain ⟨i0, i1, i2, i3, i4⟩ := hp.mem.links.item hpl
  rw [hv] at i0 i1 i2 i3 i4
  generalize its.getD k zero = x at i0 i1 i2 i3 i4
  clear c0 c1 c2 c3 c5 hp hp1 hn hkey ho hv
  go_enter Tryz.func28, Tryz.ntmps28
  go_wp2
  refine bodyPost_ret (v := findV (some x)) (by simp [results, Tryz.results28, go_sem, findV, itemV]; done) rfl ⟨rfl, ?_⟩
  repeat (refine Below.setCell ?_ (by first | (simp; done) | (simp; omega)) _)
  exact bel1 w _

/-- What is found among the items that are not old. -/
theorem find_kept {lim nx : Int} {its : List Itm} {now : Int} {key : ByteArray} (h1 : gsB lim nx its = true) (h2 : inB now 0 1000000000 = true) :
    findB lim nx its now key = (atN (keepB its now) key).map (fun k => (keepB its now).getD k zero) := by
  have hk := (good_keys h1).2.2
  unfold findB
  rw [if_pos h1, if_pos h2]
  cases e : atN (keepB its now) key with
  | some k =>
    obtain ⟨hkl, hkk⟩ := at_split e
    have hmem : (keepB its now).getD k zero ∈ keepB its now := by
      rw [List.getD_eq_getElem?_getD, List.getElem?_eq_getElem hkl]; exact List.getElem_mem _
    simp only [Option.map_some]
    generalize (keepB its now).getD k zero = x at hkk hmem
    obtain ⟨hx, hxo⟩ := List.mem_filter.1 hmem
    obtain ⟨l1, l2, rfl⟩ := List.append_of_mem hx
    rw [← hkk, at_mid hk]
    simp only
    rw [get_mid, if_neg (by simpa using hxo)]
  | none =>
    have hno := at_none e
    cases e2 : atN its key with
    | none => rfl
    | some k =>
      obtain ⟨hkl, hkk⟩ := at_split e2
      have hmem : its.getD k zero ∈ its := by
        rw [List.getD_eq_getElem?_getD, List.getElem?_eq_getElem hkl]; exact List.getElem_mem _
      simp only [Option.map_none]
      cases ho : oldB (its.getD k zero) now
      · exact absurd hkk (hno _ (List.mem_filter.2 ⟨hmem, by rw [ho]; rfl⟩))
      · rfl
end Shelf
end Go.Proofs.YtkdcofmpbmiloaaGreatDoor
/-
  The program's shelf: makeRoom, keep.
-/
namespace Go.Proofs.YtkdcofmpbmiloaaGreatDoor
namespace Shelf
open Go.RowKit Base Items Keep Own Chain Store GoodKey
set_option linter.unusedVariables false

theorem box_set3 {w : World} {hb : Nat} {h : Hd} {vl vf : Value} (hB : Box w hb h vl vf) (c : Int) : Box (w.setCell ⟨hb, 3, none⟩ (.int .i64 c)) hb { h with lost := c } vl vf := by unfold Box at *; simp [World.setCell, Array.getElem?_modify, hB]
theorem box_set1 {w : World} {hb : Nat} {h : Hd} {vl vf : Value} (hB : Box w hb h vl vf) (c : Int) : Box (w.setCell ⟨hb, 1, none⟩ (.int .i64 c)) hb { h with nx := c } vl vf := by unfold Box at *; simp [World.setCell, Array.getElem?_modify, hB]
theorem setLost {w : World} {hb : Nat} {S : List Nat} {lim nx lost : Int} {its : List Itm} (h : Shelf w hb S lim nx lost its) (c : Int) : Shelf (w.setCell ⟨hb, 3, none⟩ (.int .i64 c)) hb S lim nx c its := by
  obtain ⟨gl, gf, bm, ls, free, order, cl, vf, D, hp⟩ := h
  exact ⟨gl, gf, bm, ls, free, order, cl, vf, D, mem_set hp.mem (box_set3 hp.mem.box c), hp.good, hp.items, hp.len, hp.own.setCell hp.m1 _, hp.map, hp.m1, hp.m2, hp.m3, hp.blocks, hp.keys, hp.small⟩
theorem setNext {w : World} {hb : Nat} {S : List Nat} {lim nx lost : Int} {its : List Itm} (h : Shelf w hb S lim nx lost its) (c : Int) : Shelf (w.setCell ⟨hb, 1, none⟩ (.int .i64 c)) hb S lim c lost its := by
  obtain ⟨gl, gf, bm, ls, free, order, cl, vf, D, hp⟩ := h
  exact ⟨gl, gf, bm, ls, free, order, cl, vf, D, mem_set hp.mem (box_set1 hp.mem.box c), hp.good, hp.items, hp.len, hp.own.setCell hp.m1 _, hp.map, hp.m1, hp.m2, hp.m3, hp.blocks, hp.keys, hp.small⟩
theorem shelf_in {w : World} {hb : Nat} {S : List Nat} {lim nx lost : Int} {its : List Itm} (h : Shelf w hb S lim nx lost its) : hb ∈ S ∧ hb < w.heap.size := by
  obtain ⟨gl, gf, bm, ls, free, order, cl, vf, D, hp⟩ := h
  exact ⟨by rw [hp.blocks]; simp, hp.mem.box.lt⟩
/-- What can be read of a shelf. -/
theorem shelf_reads {w : World} {hb : Nat} {S : List Nat} {lim nx lost : Int} {its : List Itm} (h : Shelf w hb S lim nx lost its) :
    w.cell? ⟨hb, 0, none⟩ = some (.int .i64 lim) ∧ w.cell? ⟨hb, 1, none⟩ = some (.int .i64 nx) ∧ w.cell? ⟨hb, 2, none⟩ = some (.int .i64 (total its)) ∧ w.cell? ⟨hb, 3, none⟩ = some (.int .i64 lost) ∧
    (∀ o, w.frozen? ⟨hb, o, none⟩ = false) ∧ ∃ bm, w.cell? ⟨hb, 6, none⟩ = some (.map (some bm)) ∧ ∀ w', Keeps [] w w' → ∀ ty, (Builtin.len_ #[59] ty #[.map (some bm)]).run Tryz.prog w' = .ok (.int .i64 (its.length : Nat)) w' := by
  obtain ⟨gl, gf, bm, ls, free, order, cl, vf, D, hp⟩ := h
  obtain ⟨c0, c1, c2, c3, c4, c5, c6⟩ := hp.mem.box.cells
  refine ⟨c0, c1, c2, c3, hp.mem.box.frozen, bm, c6, fun w' hk ty => ?_⟩
  have h1 := (hk.map hp.own (by simp)).len Tryz.underlying59 ty
  rw [hp.map.size, ← items_len ls order, hp.items] at h1
  exact h1
theorem drop_keys {its : List Itm} (h : (its.map Itm.key).Nodup) {k : Nat} (hk : k < its.length) : atN (its.drop k) (its.getD k zero).key = some 0 ∧ (its.drop k).eraseIdx 0 = its.drop (k + 1) := by
  have e : its.drop k = [] ++ its.getD k zero :: its.drop (k + 1) := by
    rw [List.drop_eq_getElem_cons hk, List.getD_eq_getElem?_getD, List.getElem?_eq_getElem hk]; rfl
  refine ⟨?_, ?_⟩
  · have hs : ((its.drop k).map Itm.key).Nodup := h.sublist ((List.drop_sublist k its).map _)
    rw [e] at hs ⊢
    exact at_mid hs
  · rw [e]; rfl

theorem step_more {w w1 w2 : World} {hb : Nat} {S : List Nat} {lim nx lost : Int} {its : List Itm} (h : Step w w1 hb S lim nx lost its) (hk : Keeps [] w1 w2) : Step w w2 hb S lim nx lost its := by
  obtain ⟨S', hs, hS, hk1⟩ := h
  exact ⟨S', hs.keep hk (by simp), hS, hk1.trans hk (by simp)⟩
theorem step_lost {w w1 : World} {hb : Nat} {S : List Nat} {lim nx lost : Int} {its : List Itm} (h : Step w w1 hb S lim nx lost its) (hin : hb ∈ S) (c : Int) : Step w (w1.setCell ⟨hb, 3, none⟩ (.int .i64 c)) hb S lim nx c its := by
  obtain ⟨S', hs, hS, hk1⟩ := h
  exact ⟨S', setLost hs c, hS, hk1.setCell (.inl hin) _⟩
theorem step_next {w w1 : World} {hb : Nat} {S : List Nat} {lim nx lost : Int} {its : List Itm} (h : Step w w1 hb S lim nx lost its) (hin : hb ∈ S) (c : Int) : Step w (w1.setCell ⟨hb, 1, none⟩ (.int .i64 c)) hb S lim c lost its := by
  obtain ⟨S', hs, hS, hk1⟩ := h
  exact ⟨S', setNext hs c, hS, hk1.setCell (.inl hin) _⟩

set_option maxRecDepth 10000 in
set_option maxHeartbeats 2000000 in
theorem makeRoom_shelf (w : World) (hb : Nat) (S : List Nat) (lim nx lost : Int) (its : List Itm) (hs : Shelf w hb S lim nx lost its) (hl : its.length ≤ 100) (hlo : 0 ≤ lost ∧ lost ≤ 1000) :
    Calls Tryz.prog 93 #[.pointer (some ⟨hb, 0, none⟩)] w fun e w' => e = .returned (.tuple #[]) ∧ Step w w' hb S lim nx (lost + trimN lim its) (its.drop (trimN lim its)) := by
  have HS := hide hs
  have hks := hide (shelf_keys hs)
  have hSl := hide hs.lt
  obtain ⟨gl, gf, bm, ls, free, order, cl, vf, D, hp⟩ := hs
  have hol : order.length = its.length := by rw [← hp.items, items_len]
  have hval := fun w' (hk : Below w.heap.size w w') => values_any w' hb _ gl gf ls free order cl vf (hp.keep (Keeps.of_below (S := []) hk (fun _ h1 _ => h1)) (by simp)).mem hp.good (by have := hp.len; omega)
  rw [hp.items, hol] at hval
  have HV := hide hval
  clear hval hp
  go_enter Tryz.func93, Tryz.ntmps93
  go_wp2_with fail
  refine (unhide HV _ (Below.refl _ _)).mono ?_
  rintro e w1 ⟨va, vc, rfl, hown, hb1⟩
  have HO := hide hown
  have HB1 := hide hb1
  have HS1 := hide ((unhide HS).below hb1)
  clear hown hb1 HV
  have hz1 : w.heap.size ≤ w1.heap.size := (unhide HB1).size
  go_wp2_with fail
  go_loopw [9] (fun i wr => ∃ (k : Nat), k ≤ its.length ∧ i = .int .i64 k ∧ Hid (trimN lim its = k + trimN lim (its.drop k)) ∧ Hid (Step w1 wr hb S lim nx (lost + k) (its.drop k))) (fun i _ => its.length - (intOf i).toNat)
  case atStart => exact ⟨0, Nat.zero_le _, rfl, hide (by simp), hide (by simpa using step_refl (unhide HS1))⟩
  case round =>
    obtain ⟨k, hk, rfl, htr, hst⟩ := hrel
    have hfin : Hid (∀ n, trimN lim its = n → n = k → Step w wr hb S lim nx (lost + trimN lim its) (its.drop (trimN lim its))) := by
      intro n hn hnk
      have h1 := unhide hst
      rw [hn, hnk]
      exact step_go (Keeps.of_below (unhide HB1) (fun k h1 _ => h1)) (fun b hb' => .inl hb') h1
    obtain ⟨Sk, hsk, hSk, hkk⟩ := unhide hst
    by_cases hlt : k < its.length
    · obtain ⟨g, cap, hva, hg, hrow⟩ := Row.of_owns (unhide HO) (by omega)
      simp only [Value.slice.injEq, true_and] at hva
      obtain ⟨rfl, rfl⟩ := hva
      have hgS : g ∉ S := fun hm => by have := unhide hSl g hm; omega
      have hrow2 := hrow.keep hkk hgS
      obtain ⟨c0, c1, c2, c3, c4⟩ := row_at hrow2 hlt
      obtain ⟨r0, r1, r2, r3, rf, bm', r6, hlen⟩ := shelf_reads hsk
      have hst' := hide (@trimN_step lim its k hlt)
      have hfit := hide (@trimN_fit lim (its.drop k))
      have hkd := hide (drop_keys (unhide hks).1 hlt)
      have hsm := hide (small_getD (unhide hks).2 k hlt)
      have htb := total_small (its := its.drop k) (fun x hx => (unhide hks).2 x (List.mem_of_mem_drop hx)) (by simp; omega)
      have hdl : (its.drop k).length = its.length - k := by simp
      have hwl := (shelf_in hsk).2
      have HSK := hide hsk
      have HSS := hide hSk
      have HKK := hide hkk
      clear hrow hrow2 hsk hSk hkk hst
      rw [hdl] at hlen
      obtain ⟨nn, hnn⟩ : ∃ nn, its.length - k = nn := ⟨_, rfl⟩
      rw [hnn] at hlen
      have hfb : fitsB lim (its.drop k) = (decide (total (its.drop k) ≤ lim) && decide ((nn : Int) ≤ 60)) := by unfold fitsB; rw [hdl, hnn]
      generalize its.getD k zero = x at c0 c1 c2 c3 c4 hkd hsm
      generalize htt : total (its.drop k) = t at r2 htb hfb
      have hlen2 := hlen _ ((Keeps.refl [] wr).alloc (.cells #[.string x.key, .int .i64 x.flags, .string x.data, .int .i64 x.upto, .int .i64 x.token] 37)).drew
      clear hlen
      by_cases q1 : t ≤ lim
      · by_cases q2 : (nn : Int) ≤ 60
        · have H : Hid (trimN lim its = k) := by
            show trimN lim its = k
            rw [unhide htr, unhide hfit (by rw [hfb, decide_eq_true q1, decide_eq_true q2]; rfl)]; rfl
          have HF := hide (unhide hfin k (unhide H) rfl)
          have d1 : decide (t ≤ lim) = true := decide_eq_true q1
          clear hfin htr hfb
          go_wp2_with fail
          go_region
          go_wp2
          exact bodyPost_ret (v := .tuple #[]) (by simp [results, Tryz.results93, go_sem]) rfl ⟨rfl, step_more (unhide HF) ((Keeps.refl [] wr).alloc _).drew⟩
        · have H := hide (unhide hst' (by rw [hfb, decide_eq_false q2]; simp))
          clear hfin hfb
          go_wp2_with fail
          go_region
          go_wp2_with fail
          refine (take_some _ hb Sk lim nx (lost + k) (its.drop k) x.key 0 ((unhide HSK).keep ((Keeps.refl [] wr).alloc _).drew (by simp)) (by simp; omega) (by have := (unhide hsm).1; unfold maxLen; omega) (unhide hkd).1).mono ?_
          rintro e w3 ⟨rfl, hst3⟩
          rw [(unhide hkd).2] at hst3
          have hst4 := step_go ((unhide HKK).trans (((Keeps.refl [] wr).alloc (.cells #[.string x.key, .int .i64 x.flags, .string x.data, .int .i64 x.upto, .int .i64 x.token] 37)).drew) (by simp)) (unhide HSS) hst3
          have hin := hide (shelf_in (unhide HS)).1
          have HL := hide (step_lost hst4 (unhide hin) (lost + k + 1))
          obtain ⟨S4, hs4, -, -⟩ := hst4
          obtain ⟨y0, y1, y2, y3, yf, bm4, y6, -⟩ := shelf_reads hs4
          clear hst3 hs4 r0 r1 r2 r3 rf r6 hlen2 y0 y1 y2 y6
          go_wp2
          go_roundw
          case rel =>
            refine ⟨k + 1, by omega, by go_num, hide ?_, hide ?_⟩
            · have := unhide htr; have := unhide H; omega
            · have e : lost + ((k + 1 : Nat) : Int) = lost + k + 1 := by omega
              rw [e]; exact unhide HL
          case measure => simp [intOf]; omega
      · have H := hide (unhide hst' (by rw [hfb, decide_eq_false q1]; simp))
        have d1 : decide (t ≤ lim) = false := decide_eq_false q1
        clear hfin hfb
        go_wp2_with fail
        go_region
        go_wp2_with fail
        refine (take_some _ hb Sk lim nx (lost + k) (its.drop k) x.key 0 ((unhide HSK).keep ((Keeps.refl [] wr).alloc _).drew (by simp)) (by simp; omega) (by have := (unhide hsm).1; unfold maxLen; omega) (unhide hkd).1).mono ?_
        rintro e w3 ⟨rfl, hst3⟩
        rw [(unhide hkd).2] at hst3
        have hst4 := step_go ((unhide HKK).trans (((Keeps.refl [] wr).alloc (.cells #[.string x.key, .int .i64 x.flags, .string x.data, .int .i64 x.upto, .int .i64 x.token] 37)).drew) (by simp)) (unhide HSS) hst3
        have hin := hide (shelf_in (unhide HS)).1
        have HL := hide (step_lost hst4 (unhide hin) (lost + k + 1))
        obtain ⟨S4, hs4, -, -⟩ := hst4
        obtain ⟨y0, y1, y2, y3, yf, bm4, y6, -⟩ := shelf_reads hs4
        clear hst3 hs4 r0 r1 r2 r3 rf r6 hlen2 y0 y1 y2 y6
        go_wp2
        go_roundw
        case rel =>
          refine ⟨k + 1, by omega, by go_num, hide ?_, hide ?_⟩
          · have := unhide htr; have := unhide H; omega
          · have e : lost + ((k + 1 : Nat) : Int) = lost + k + 1 := by omega
            rw [e]; exact unhide HL
        case measure => simp [intOf]; omega
    · obtain rfl : k = its.length := by omega
      have H : Hid (trimN lim its = its.length) := by
        have := unhide htr
        rw [List.drop_eq_nil_of_le (Nat.le_refl _)] at this
        exact this
      have HF := hide (unhide hfin _ (unhide H) rfl)
      clear hfin htr hst hsk hSk hkk
      go_wp2
      exact bodyPost_end (v := .tuple #[]) (by simp [results, Tryz.results93, go_sem]) rfl ⟨rfl, unhide HF⟩
end Shelf
end Go.Proofs.YtkdcofmpbmiloaaGreatDoor
/-
  The program's shelf: put and keep; each gives up where something is full.
-/
namespace Go.Proofs.YtkdcofmpbmiloaaGreatDoor
namespace Shelf
open Go.RowKit Base Items Keep Own Chain Store GoodKey
set_option linter.unusedVariables false

def fullT : ByteArray := ⟨#[83, 69, 82, 86, 69, 82, 95, 69, 82, 82, 79, 82, 32, 102, 117, 108, 108, 13, 10]⟩
/-- What put leaves. -/
def PutEnd (w : World) (hb : Nat) (S : List Nat) (lim nx lost : Int) (its : List Itm) (x : Itm) (p : Addr) (e : Ending) (w' : World) : Prop :=
  if lim < charge x then e = .panicked (fullP p) ∧ Step w w' hb S lim nx lost its
  else e = .returned (.tuple #[]) ∧ Step w w' hb S lim nx (lost + trimN lim (without its x.key ++ [x])) ((without its x.key ++ [x]).drop (trimN lim (without its x.key ++ [x])))
/-- What keep leaves. -/
def KeepEnd (w : World) (hb : Nat) (S : List Nat) (lim nx lost : Int) (its : List Itm) (x : Itm) (ans : ByteArray) (p : Addr) (e : Ending) (w' : World) : Prop :=
  match putR lim nx its x with
  | none => e = .panicked (fullP p) ∧ Step w w' hb S lim nx lost its
  | some (its', n) => e = .returned (.string ans) ∧ Step w w' hb S lim (nx + 1) (lost + n) its'
theorem without_keys {its : List Itm} {key : ByteArray} (h : (its.map Itm.key).Nodup) : ∀ y ∈ without its key, y.key ≠ key := by
  intro y hy
  unfold without at hy
  cases e : atN its key with
  | none => rw [e] at hy; exact at_none e y hy
  | some k =>
    rw [e] at hy
    obtain ⟨hk, hkk⟩ := at_split e
    simp only [List.eraseIdx_eq_take_drop_succ] at hy
    rw [order_split hk, List.map_append, List.map_cons, List.nodup_append] at h
    have hkey : its[k].key = key := by rw [← hkk, List.getD_eq_getElem?_getD, List.getElem?_eq_getElem hk]; rfl
    rcases List.mem_append.1 hy with h1 | h1
    · intro e2
      exact h.2.2 _ (List.mem_map_of_mem h1) _ (by simp) (e2.trans hkey.symm)
    · intro e2
      exact (List.nodup_cons.1 h.2.1).1 (by rw [hkey, ← e2]; exact List.mem_map_of_mem h1)
theorem without_len (its : List Itm) (key : ByteArray) : (without its key).length ≤ its.length := by
  unfold without
  cases e : atN its key with
  | none => exact Nat.le_refl _
  | some k => exact List.length_eraseIdx_le _ _
/-- take, as one contract. -/
theorem take_wo (w : World) (hb : Nat) (S : List Nat) (lim nx lost : Int) (its : List Itm) (key : ByteArray) (hs : Shelf w hb S lim nx lost its) (hl : its.length ≤ 100) (hkey : key.size ≤ maxLen) :
    Calls Tryz.prog 45 #[.pointer (some ⟨hb, 0, none⟩), .string key] w fun e w' => (∃ x c, e = .returned (.tuple #[itemV x, .bool c])) ∧ Step w w' hb S lim nx lost (without its key) := by
  unfold without
  cases e : atN its key with
  | none =>
    refine (take_none w hb S lim nx lost its key hs hkey e).mono ?_
    rintro e' w' ⟨rfl, hb'⟩
    exact ⟨⟨zero, false, rfl⟩, step_more (step_refl hs) (Keeps.of_below (S := []) hb' (fun _ h1 _ => h1))⟩
  | some k =>
    refine (take_some w hb S lim nx lost its key k hs hl hkey e).mono ?_
    rintro e' w' ⟨rfl, hst⟩
    exact ⟨⟨_, true, rfl⟩, hst⟩

theorem lcell4' {w w' : World} {g : Nat} {t : TypeId} {v0 v1 v2 v3 v4 : Value} (hb : w'.heap[g]? = w.heap[g]?) (h : w.heap[g]? = some (.cells #[v0, v1, v2, v3, v4] t (0, 0))) :
    w'.cell? ⟨g, 0, none⟩ = some v0 ∧ w'.cell? ⟨g, 1, none⟩ = some v1 ∧ w'.cell? ⟨g, 2, none⟩ = some v2 ∧ w'.cell? ⟨g, 3, none⟩ = some v3 ∧ w'.cell? ⟨g, 4, none⟩ = some v4 := lcell4 (hb.trans h)
theorem bx5 (w : World) (t : TypeId) (v0 v1 v2 v3 v4 : Value) : (w.alloc (.cells #[v0, v1, v2, v3, v4] t)).cell? ⟨w.heap.size, 0, none⟩ = some v0 ∧ (w.alloc (.cells #[v0, v1, v2, v3, v4] t)).cell? ⟨w.heap.size, 1, none⟩ = some v1 ∧
    (w.alloc (.cells #[v0, v1, v2, v3, v4] t)).cell? ⟨w.heap.size, 2, none⟩ = some v2 ∧ (w.alloc (.cells #[v0, v1, v2, v3, v4] t)).cell? ⟨w.heap.size, 3, none⟩ = some v3 ∧ (w.alloc (.cells #[v0, v1, v2, v3, v4] t)).cell? ⟨w.heap.size, 4, none⟩ = some v4 := by
  refine ⟨?_, ?_, ?_, ?_, ?_⟩ <;> (rw [World.cell?_alloc_new]; rfl)

set_option maxRecDepth 10000 in
set_option maxHeartbeats 2000000 in
theorem put_shelf (w : World) (hb : Nat) (S : List Nat) (lim nx lost : Int) (its : List Itm) (x : Itm) (p : Addr) (hs : Shelf w hb S lim nx lost its) (hF : FullIs w p) (hl : its.length ≤ 60) (hx : Small x) (hlim : 0 ≤ lim ∧ lim ≤ 10000) (hlo : 0 ≤ lost ∧ lost ≤ 500) :
    Calls Tryz.prog 90 #[.pointer (some ⟨hb, 0, none⟩), .agg #[.string x.key, .int .i64 x.flags, .string x.data, .int .i64 x.upto, .int .i64 x.token]] w (PutEnd w hb S lim nx lost its x p) := by
  obtain ⟨r0, r1, r2, r3, rf, bm', r6, -⟩ := shelf_reads hs
  have hwl := (shelf_in hs).2
  have HS := hide hs
  have HX := hide hx
  have HFU := hide hF
  clear hF
  have hch : 0 ≤ charge x ∧ charge x ≤ 2097162 := by have := hx; unfold Small at this; unfold charge; omega
  have hcal := fun w => chargeOf_any x w hx
  by_cases g1 : lim < charge x
  · have HF1 : Hid (∀ w', Keeps [] w w' → PutEnd w hb S lim nx lost its x p (.panicked (fullP p)) w') := by
      intro w' hk
      unfold PutEnd
      rw [if_pos g1]
      exact ⟨rfl, step_more (step_refl (unhide HS)) hk⟩
    generalize charge x = c at hch hcal g1
    have HC := hide hcal
    have d1 : decide (lim < c) = true := decide_eq_true g1
    clear hcal
    obtain ⟨KE, hKE⟩ : ∃ KE : Ending → World → Prop, KE = PutEnd w hb S lim nx lost its x p := ⟨_, rfl⟩
    rw [← hKE] at HF1 ⊢
    have HKE := hide hKE
    clear hKE
    show Calls _ _ _ w (fun e w' => KE e w')
    obtain ⟨k0, k1, k2, k3, k4⟩ := bx5 w 37 (.string x.key) (.int .i64 x.flags) (.string x.data) (.int .i64 x.upto) (.int .i64 x.token)
    have p0 := cell_regrown k0
    have p1 := cell_regrown k1
    have p2 := cell_regrown k2
    have p3 := cell_regrown k3
    have p4 := cell_regrown k4
    have p5 := cell_regrown ((World.cell?_of_block (a := ⟨hb, 0, none⟩) (Below.heap_alloc w (.cells #[.string x.key, .int .i64 x.flags, .string x.data, .int .i64 x.upto, .int .i64 x.token] 37) hb hwl)).trans r0)
    have cC := fun d os => Calls.regrown_of (unhide HC (Go.Sort.grow (redrawn (w.alloc (.cells #[.string x.key, .int .i64 x.flags, .string x.data, .int .i64 x.upto, .int .i64 x.token] 37)) d) os))
    have hmix : Tryz.prog.follows .mixedOrders = true := by kernel_rfl
    go_enter Tryz.func90, Tryz.ntmps90
    go_wp2_with fail
    refine wp_region_quiet_below hmix (by kernel_rfl) ?_
    repeat (quiet_step (exact cC _ _))
    refine wpQuiet_nil ?_
    intro _ hw'
    obtain ⟨⟨dq, osq⟩, hw''⟩ := hw'
    subst hw''
    have hkc := hide (Keeps.of_below (S := []) (below_regrown (w.alloc (.cells #[.string x.key, .int .i64 x.flags, .string x.data, .int .i64 x.upto, .int .i64 x.token] 37)) dq osq) (fun _ h1 _ => h1))
    generalize (Go.Sort.grow (redrawn (w.alloc (.cells #[.string x.key, .int .i64 x.flags, .string x.data, .int .i64 x.upto, .int .i64 x.token] 37)) dq) osq) = wc at hkc ⊢
    clear p0 p1 p2 p3 p4 p5 cC
    have hK0 := hide (((Keeps.refl [] w).alloc (.cells #[.string x.key, .int .i64 x.flags, .string x.data, .int .i64 x.upto, .int .i64 x.token] 37)).trans (unhide hkc) (by simp))
    have hfc := ((unhide HFU).keep (unhide hK0) (by simp)).cell
    unfold errV at hfc
    go_wp2
    exact gave (unhide HF1 _ (unhide hK0))
  have hwl2 := without_len its x.key
  have HW := hide (without_keys (key := x.key) (shelf_keys hs).1)
  have HP : Hid (∀ w', Step w w' hb S lim nx (lost + trimN lim (without its x.key ++ [x])) ((without its x.key ++ [x]).drop (trimN lim (without its x.key ++ [x]))) → PutEnd w hb S lim nx lost its x p (.returned (.tuple #[])) w') := by
    intro w' h
    unfold PutEnd
    rw [if_neg g1]
    exact ⟨rfl, h⟩
  obtain ⟨KE, hKE⟩ : ∃ KE : Ending → World → Prop, KE = PutEnd w hb S lim nx lost its x p := ⟨_, rfl⟩
  rw [← hKE] at HP ⊢
  have HKE := hide hKE
  clear hKE
  generalize charge x = c at hch hcal g1
  have HC := hide hcal
  have d1 : decide (lim < c) = false := decide_eq_false g1
  clear hcal
  show Calls _ _ _ w (fun e w' => KE e w')
  obtain ⟨k0, k1, k2, k3, k4⟩ := bx5 w 37 (.string x.key) (.int .i64 x.flags) (.string x.data) (.int .i64 x.upto) (.int .i64 x.token)
  have p0 := cell_regrown k0
  have p1 := cell_regrown k1
  have p2 := cell_regrown k2
  have p3 := cell_regrown k3
  have p4 := cell_regrown k4
  have p5 := cell_regrown ((World.cell?_of_block (a := ⟨hb, 0, none⟩) (Below.heap_alloc w (.cells #[.string x.key, .int .i64 x.flags, .string x.data, .int .i64 x.upto, .int .i64 x.token] 37) hb hwl)).trans r0)
  have cC := fun d os => Calls.regrown_of (unhide HC (Go.Sort.grow (redrawn (w.alloc (.cells #[.string x.key, .int .i64 x.flags, .string x.data, .int .i64 x.upto, .int .i64 x.token] 37)) d) os))
  have hmix : Tryz.prog.follows .mixedOrders = true := by kernel_rfl
  go_enter Tryz.func90, Tryz.ntmps90
  go_wp2_with fail
  refine wp_region_quiet_below hmix (by kernel_rfl) ?_
  repeat (quiet_step (exact cC _ _))
  refine wpQuiet_nil ?_
  intro _ hw'
  obtain ⟨⟨dq, osq⟩, hw''⟩ := hw'
  subst hw''
  have hkc := hide (Keeps.of_below (S := []) (below_regrown (w.alloc (.cells #[.string x.key, .int .i64 x.flags, .string x.data, .int .i64 x.upto, .int .i64 x.token] 37)) dq osq) (fun _ h1 _ => h1))
  generalize (Go.Sort.grow (redrawn (w.alloc (.cells #[.string x.key, .int .i64 x.flags, .string x.data, .int .i64 x.upto, .int .i64 x.token] 37)) dq) osq) = wc at hkc ⊢
  clear p0 p1 p2 p3 p4 p5 cC
  have hK0 := hide (((Keeps.refl [] w).alloc (.cells #[.string x.key, .int .i64 x.flags, .string x.data, .int .i64 x.upto, .int .i64 x.token] 37)).trans (unhide hkc) (by simp))
  have q5 := lcell4' ((unhide hkc).block w.heap.size (by simp) (by simp)) (heap_alloc_new w (.cells #[.string x.key, .int .i64 x.flags, .string x.data, .int .i64 x.upto, .int .i64 x.token] 37))
  obtain ⟨z0, z1, z2, z3, z4⟩ := q5
  go_wp2_with fail
  have hxk : x.key.size ≤ maxLen := by have := (unhide HX).1; unfold maxLen; omega
  refine (take_wo _ hb S lim nx lost its x.key ((unhide HS).keep (unhide hK0) (by simp)) (by omega) hxk).mono ?_
  rintro e w2 ⟨⟨y, cc, rfl⟩, hst2⟩
  have hwn : w.heap.size ∉ S := fun hm => by have := hs.lt _ hm; omega
  have hzc : w.heap.size < wc.heap.size := by have := (unhide hkc).size; simp at this; omega
  obtain ⟨S2, hs2, hS2, hk2⟩ := hst2
  have hb2 := hk2.block w.heap.size hzc hwn
  obtain ⟨y0, y1, y2, y3, y4⟩ := lcell4' (hb2.trans ((unhide hkc).block w.heap.size (by simp) (by simp))) (heap_alloc_new w (.cells #[.string x.key, .int .i64 x.flags, .string x.data, .int .i64 x.upto, .int .i64 x.token] 37))
  have HS2 := hide hs2
  have HSA : Hid (∀ b ∈ S2, b ∈ S ∨ w.heap.size ≤ b) := fun b hb' => (hS2 b hb').imp id (fun e => by omega)
  have HKA := hide (((unhide hK0).mono (S' := S) (by simp)).trans hk2 (fun y hy => .inl hy))
  clear z0 z1 z2 z3 z4 hs2 hS2 hk2 hs hx
  unfold itemV
  go_wp2_with fail
  refine (putLast_shelf _ hb S2 lim nx lost (without its x.key) x (unhide HS2) (by omega) (unhide HX) (unhide HW)).mono ?_
  rintro e w3 ⟨rfl, hst3⟩
  have hst3' := step_go (unhide HKA) (unhide HSA) hst3
  obtain ⟨S3, hs3, hS3, hk3⟩ := hst3'
  have HS3 := hide hs3
  have HSS3 := hide hS3
  have HK3 := hide hk3
  clear hst3 hs3 hS3 hk3 y0 y1 y2 y3 y4
  go_wp2_with fail
  refine (makeRoom_shelf _ hb S3 lim nx lost (without its x.key ++ [x]) (unhide HS3) (by simp; omega) (by omega)).mono ?_
  rintro e w4 ⟨rfl, hst4⟩
  have HF := hide (unhide HP w4 (step_go (unhide HK3) (unhide HSS3) hst4))
  clear hst4
  go_wp2
  first
  | exact bodyPost_end (v := .tuple #[]) (by simp [results, Tryz.results90, go_sem]) rfl (unhide HF)
  | exact unhide HF

set_option maxRecDepth 10000 in
set_option maxHeartbeats 2000000 in
theorem keep_shelf (w : World) (hb : Nat) (S : List Nat) (lim nx lost : Int) (its : List Itm) (x : Itm) (ans : ByteArray) (p : Addr) (hs : Shelf w hb S lim nx lost its) (hF : FullIs w p) (hl : its.length ≤ 60) (hx : Small x) (hlim : 0 ≤ lim ∧ lim ≤ 10000) (hnx : 1 ≤ nx ∧ nx ≤ 1000000000) (hlo : 0 ≤ lost ∧ lost ≤ 500) :
    Calls Tryz.prog 80 #[.pointer (some ⟨hb, 0, none⟩), .agg #[.string x.key, .int .i64 x.flags, .string x.data, .int .i64 x.upto, .int .i64 x.token], .string ans] w (KeepEnd w hb S lim nx lost its x ans p) := by
  obtain ⟨r0, r1, r2, r3, rf, bm', r6, -⟩ := shelf_reads hs
  have hwl := (shelf_in hs).2
  have HIN := hide (shelf_in hs).1
  have HS := hide hs
  have HFU := hide hF
  obtain ⟨KE, hKE⟩ : ∃ KE : Ending → World → Prop, KE = KeepEnd w hb S lim nx lost its x ans p := ⟨_, rfl⟩
  have HNO : Hid ((lim < charge x ∨ nx = 1000000000) → ∀ w', Step w w' hb S lim nx lost its → KE (.panicked (fullP p)) w') := by
    intro hor w' hk
    rw [hKE]
    unfold KeepEnd
    have H : putR lim nx its x = none := by unfold putR; rw [if_pos hor]
    rw [H]
    exact ⟨rfl, hk⟩
  have HYES : Hid (¬ (lim < charge x ∨ nx = 1000000000) → ∀ w', Step w w' hb S lim (nx + 1) (lost + trimN lim (without its x.key ++ [{ x with token := nx }])) ((without its x.key ++ [{ x with token := nx }]).drop (trimN lim (without its x.key ++ [{ x with token := nx }]))) → KE (.returned (.string ans)) w') := by
    intro hor w' h
    rw [hKE]
    unfold KeepEnd
    have e : putR lim nx its x = some ((without its x.key ++ [{ x with token := nx }]).drop (trimN lim (without its x.key ++ [{ x with token := nx }])), trimN lim (without its x.key ++ [{ x with token := nx }])) := by
      unfold putR
      rw [if_neg hor]
    rw [e]
    exact ⟨rfl, h⟩
  have HPUT := hide (fun w1 (h1 : Shelf w1 hb S lim nx lost its) (h2 : FullIs w1 p) => put_shelf w1 hb S lim nx lost its { x with token := nx } p h1 h2 hl hx hlim hlo)
  rw [← hKE]
  have HKE := hide hKE
  clear hKE
  show Calls _ _ _ w (fun e w' => KE e w')
  by_cases g2 : nx = 1000000000
  · have HF1 := hide (unhide HNO (.inr g2))
    clear HYES HNO HPUT
    have hfc := (hF.keep ((Keeps.refl [] w).alloc (.cells #[.string x.key, .int .i64 x.flags, .string x.data, .int .i64 x.upto, .int .i64 x.token] 37)) (by simp)).cell
    unfold errV at hfc
    clear hs hF
    subst g2
    go_enter Tryz.func80, Tryz.ntmps80
    go_wp2
    exact gave (unhide HF1 _ (step_more (step_refl (unhide HS)) ((Keeps.refl [] w).alloc _)))
  have hwn : w.heap.size ∉ S := fun hm => by have := hs.lt _ hm; omega
  have hk1 : Keeps [] w (w.alloc (.cells #[.string x.key, .int .i64 x.flags, .string x.data, .int .i64 x.upto, .int .i64 nx] 37)) := (Keeps.refl [] w).alloc _
  have HP1 := hide (unhide HPUT _ (hs.keep hk1 (by simp)) (hF.keep hk1 (by simp)))
  have HK1 := hide hk1
  have hnx2 : IntKind.i64.wrap (nx + 1) = nx + 1 := by rw [IntKind.wrap_i64]; omega
  have hne : ¬ hb = w.heap.size := by omega
  have d2 : decide (nx = 1000000000) = false := decide_eq_false g2
  clear hk1 HPUT hs hF
  by_cases g1 : lim < charge x
  · have HF1 := hide (unhide HNO (.inl g1))
    have HP2 : Hid (Calls Tryz.prog 90 #[.pointer (some ⟨hb, 0, none⟩), .agg #[.string x.key, .int .i64 x.flags, .string x.data, .int .i64 x.upto, .int .i64 nx]] (w.alloc (.cells #[.string x.key, .int .i64 x.flags, .string x.data, .int .i64 x.upto, .int .i64 nx] 37)) fun e w' => e = .panicked (fullP p) ∧ Step (w.alloc (.cells #[.string x.key, .int .i64 x.flags, .string x.data, .int .i64 x.upto, .int .i64 nx] 37)) w' hb S lim nx lost its) :=
      (unhide HP1).mono fun e w' h => by unfold PutEnd at h; rw [if_pos (show lim < charge { x with token := nx } from g1)] at h; exact h
    clear HYES HNO HP1 g1 hlim hlo hnx
    go_enter Tryz.func80, Tryz.ntmps80
    go_wp2_with fail
    refine (unhide HP2).mono ?_
    rintro e w1 ⟨rfl, hst⟩
    have HST := hide (unhide HF1 _ (step_go ((unhide HK1).mono (S' := S) (by simp)) (fun b hb' => .inl hb') hst))
    clear hst
    go_wp2
    exact gave (unhide HST)
  · have HF1 := hide (unhide HYES (fun h => h.elim g1 g2))
    have HP2 : Hid (Calls Tryz.prog 90 #[.pointer (some ⟨hb, 0, none⟩), .agg #[.string x.key, .int .i64 x.flags, .string x.data, .int .i64 x.upto, .int .i64 nx]] (w.alloc (.cells #[.string x.key, .int .i64 x.flags, .string x.data, .int .i64 x.upto, .int .i64 nx] 37)) fun e w' => e = .returned (.tuple #[]) ∧ Step (w.alloc (.cells #[.string x.key, .int .i64 x.flags, .string x.data, .int .i64 x.upto, .int .i64 nx] 37)) w' hb S lim nx (lost + trimN lim (without its x.key ++ [{ x with token := nx }])) ((without its x.key ++ [{ x with token := nx }]).drop (trimN lim (without its x.key ++ [{ x with token := nx }])))) :=
      (unhide HP1).mono fun e w' h => by unfold PutEnd at h; rw [if_neg (show ¬ lim < charge { x with token := nx } from g1)] at h; exact h
    clear HYES HNO HP1 g1 hlim hlo hnx
    generalize (without its x.key ++ [{ x with token := nx }]).drop (trimN lim (without its x.key ++ [{ x with token := nx }])) = r at HF1 HP2
    generalize (trimN lim (without its x.key ++ [{ x with token := nx }])) = n at HF1 HP2
    go_enter Tryz.func80, Tryz.ntmps80
    go_wp2_with fail
    refine (unhide HP2).mono ?_
    rintro e w1 ⟨rfl, hst⟩
    have hst1 := step_go ((unhide HK1).mono (S' := S) (by simp)) (fun b hb' => .inl hb') hst
    have HST := hide (step_next hst1 (unhide HIN) (nx + 1))
    obtain ⟨S1, hs1, -, -⟩ := hst1
    obtain ⟨t0, t1, t2, t3, tf, bm2, t6, -⟩ := shelf_reads hs1
    clear hst hs1 r0 r1 r2 r3 rf r6 t0 t2 t3 t6
    go_wp2
    exact unhide HF1 _ (unhide HST)
end Shelf
end Go.Proofs.YtkdcofmpbmiloaaGreatDoor
/-
  The program's shelf: remove, touch.
-/
namespace Go.Proofs.YtkdcofmpbmiloaaGreatDoor
namespace Shelf
open Go.RowKit Base Items Keep Own Chain Store GoodKey
set_option linter.unusedVariables false

def notFoundT : ByteArray := ⟨#[78, 79, 84, 95, 70, 79, 85, 78, 68, 13, 10]⟩
def deletedT : ByteArray := ⟨#[68, 69, 76, 69, 84, 69, 68, 13, 10]⟩
def touchedT : ByteArray := ⟨#[84, 79, 85, 67, 72, 69, 68, 13, 10]⟩

set_option maxRecDepth 10000 in
set_option maxHeartbeats 1000000 in
theorem remove_shelf (w : World) (hb : Nat) (S : List Nat) (lim nx lost : Int) (its : List Itm) (key : ByteArray) (hs : Shelf w hb S lim nx lost its) (hl : its.length ≤ 100) (hkey : key.size ≤ maxLen) :
    Calls Tryz.prog 66 #[.pointer (some ⟨hb, 0, none⟩), .string key] w fun e w' => e = .returned (.string (if (atN its key).isSome then deletedT else notFoundT)) ∧ Step w w' hb S lim nx lost (without its key) := by
  cases e : atN its key with
  | none =>
    have hw : without its key = its := by unfold without; rw [e]
    rw [hw]
    have HT := hide (fun w' (h : Shelf w' hb S lim nx lost its) => take_none w' hb S lim nx lost its key h hkey e)
    have HS := hide hs
    clear hs e hw
    go_enter Tryz.func66, Tryz.ntmps66
    go_wp2_with fail
    refine (unhide HT _ (unhide HS)).mono ?_
    rintro e w1 ⟨rfl, hb1⟩
    have HF := hide (step_more (step_refl (unhide HS)) (Keeps.of_below (S := []) hb1 (fun _ h1 _ => h1)))
    clear hb1
    go_wp2
    go_ret
    first
      | exact ⟨rfl, unhide HF⟩
      | exact ⟨rfl, step_more (unhide HF) ((Keeps.refl [] _).alloc _)⟩
  | some k =>
    have hw : without its key = its.eraseIdx k := by unfold without; rw [e]
    rw [hw]
    have HT := hide (fun w' (h : Shelf w' hb S lim nx lost its) => take_some w' hb S lim nx lost its key k h hl hkey e)
    have HS := hide hs
    clear hs e hw
    go_enter Tryz.func66, Tryz.ntmps66
    go_wp2_with fail
    refine (unhide HT _ (unhide HS)).mono ?_
    rintro e w1 ⟨rfl, hst⟩
    have HF := hide hst
    clear hst
    unfold itemV
    go_wp2
    go_ret
    first
      | exact ⟨rfl, unhide HF⟩
      | exact ⟨rfl, step_more (unhide HF) ((Keeps.refl [] _).alloc _)⟩

/-- What touch leaves. -/
def TouchEnd (w : World) (hb : Nat) (S : List Nat) (lim nx lost : Int) (its : List Itm) (key : ByteArray) (u : Int) (e : Ending) (w' : World) : Prop :=
  match atN its key with
  | none => e = .returned (.string notFoundT) ∧ Step w w' hb S lim nx lost its
  | some k => e = .returned (.string touchedT) ∧ Step w w' hb S lim nx lost (its.eraseIdx k ++ [{ its.getD k zero with upto := u }])

set_option maxRecDepth 10000 in
set_option maxHeartbeats 1000000 in
theorem touch_shelf (w : World) (hb : Nat) (S : List Nat) (lim nx lost : Int) (its : List Itm) (key : ByteArray) (u : Int) (hs : Shelf w hb S lim nx lost its) (hl : its.length ≤ 100) (hkey : key.size ≤ maxLen) :
    Calls Tryz.prog 64 #[.pointer (some ⟨hb, 0, none⟩), .string key, .int .i64 u] w (TouchEnd w hb S lim nx lost its key u) := by
  have HKW := hide (without_keys (key := key) (shelf_keys hs).1)
  have hks := hide (shelf_keys hs)
  cases e : atN its key with
  | none =>
    have HE : Hid (∀ w', Step w w' hb S lim nx lost its → TouchEnd w hb S lim nx lost its key u (.returned (.string notFoundT)) w') := fun w' h => by unfold TouchEnd; rw [e]; exact ⟨rfl, h⟩
    have HT := hide (fun w' (h : Shelf w' hb S lim nx lost its) => take_none w' hb S lim nx lost its key h hkey e)
    have HS := hide hs
    clear hs e HKW
    obtain ⟨KE, hKE⟩ : ∃ KE : Ending → World → Prop, KE = TouchEnd w hb S lim nx lost its key u := ⟨_, rfl⟩
    rw [← hKE] at HE ⊢
    clear hKE
    show Calls _ _ _ w (fun e w' => KE e w')
    go_enter Tryz.func64, Tryz.ntmps64
    go_wp2_with fail
    refine (unhide HT _ (unhide HS)).mono ?_
    rintro e w1 ⟨rfl, hb1⟩
    have HF := hide (step_more (step_refl (unhide HS)) (Keeps.of_below (S := []) hb1 (fun _ h1 _ => h1)))
    clear hb1
    go_wp2
    first
      | exact unhide HE _ (unhide HF)
      | exact unhide HE _ (step_more (unhide HF) ((Keeps.refl [] _).alloc _))
      | (go_ret; exact unhide HE _ (step_more (unhide HF) ((Keeps.refl [] _).alloc _)))
  | some k =>
    have HE : Hid (∀ w', Step w w' hb S lim nx lost (its.eraseIdx k ++ [{ its.getD k zero with upto := u }]) → TouchEnd w hb S lim nx lost its key u (.returned (.string touchedT)) w') := fun w' h => by unfold TouchEnd; rw [e]; exact ⟨rfl, h⟩
    have HT := hide (fun w' (h : Shelf w' hb S lim nx lost its) => take_some w' hb S lim nx lost its key k h hl hkey e)
    have hat := at_split e
    have hsm := hide (small_getD (unhide hks).2 k hat.1)
    have HW2 : Hid (∀ y ∈ its.eraseIdx k, y.key ≠ (its.getD k zero).key) := by
      have h1 := unhide HKW
      unfold without at h1
      rw [e] at h1
      rw [hat.2]
      exact h1
    have hel : (its.eraseIdx k).length ≤ 100 := Nat.le_trans (List.length_eraseIdx_le _ _) hl
    have HS := hide hs
    clear hs e HKW hat
    obtain ⟨KE, hKE⟩ : ∃ KE : Ending → World → Prop, KE = TouchEnd w hb S lim nx lost its key u := ⟨_, rfl⟩
    rw [← hKE] at HE ⊢
    clear hKE
    generalize its.getD k zero = x at HE HT hsm HW2
    generalize its.eraseIdx k = r at HE HT HW2 hel
    show Calls _ _ _ w (fun e w' => KE e w')
    go_enter Tryz.func64, Tryz.ntmps64
    go_wp2_with fail
    refine (unhide HT _ (unhide HS)).mono ?_
    rintro e w1 ⟨rfl, S1, hs1, hS1, hk1⟩
    have HS1 := hide hs1
    have HSS1 := hide hS1
    have HK1 := hide hk1
    clear hs1 hS1 hk1
    unfold itemV
    go_wp2_with fail
    refine (putLast_shelf _ hb S1 lim nx lost r { x with upto := u } ((unhide HS1).keep ((Keeps.refl [] w1).alloc _) (by simp)) hel (unhide hsm) (unhide HW2)).mono ?_
    rintro e w2 ⟨rfl, hst2⟩
    have HF := hide (step_go ((unhide HK1).alloc _) (unhide HSS1) hst2)
    clear hst2
    go_wp2
    first
      | exact unhide HE _ (unhide HF)
      | (go_ret; exact unhide HE _ (unhide HF))
end Shelf
end Go.Proofs.YtkdcofmpbmiloaaGreatDoor
/-
  The program's shelf: flush, plain.
-/
namespace Go.Proofs.YtkdcofmpbmiloaaGreatDoor
namespace Shelf
open Go.RowKit Base Items Keep Own Chain Store GoodKey
set_option linter.unusedVariables false

theorem box_any {w : World} {hb : Nat} {S : List Nat} {lim nx lost : Int} {its : List Itm} (h : Shelf w hb S lim nx lost its) : ∃ bm vl vf, Box w hb ⟨lim, nx, total its, lost, .map (some bm)⟩ vl vf := by
  obtain ⟨gl, gf, bm, ls, free, order, cl, vf, D, hp⟩ := h
  exact ⟨bm, _, _, hp.mem.box⟩
theorem box_set6 {w : World} {hb : Nat} {h : Hd} {vl vf : Value} (hB : Box w hb h vl vf) (v : Value) : Box (w.setCell ⟨hb, 6, none⟩ v) hb { h with vm := v } vl vf := by unfold Box at *; simp [World.setCell, Array.getElem?_modify, hB]
theorem shelf_new' {wx : World} {h g bm : Nat} {lim nx lost : Int} (hB : Box wx h ⟨lim, nx, 0, lost, .map (some bm)⟩ (.slice (some ⟨g, 0, none⟩) 1 1) (.slice none 0 0)) (hl : LinksAt wx 92 g 1 [zl])
    (hm : wx.ownsMap Tryz.prog 9 (plainElem Tryz.prog 3) bm 0 (.map [] : DataW Unit)) (h1 : h ≠ g) (h2 : bm ≠ h) (h3 : bm ≠ g) : Shelf wx h [h, g, bm] lim nx lost [] :=
  ⟨g, none, bm, [zl], [], [], 1, .slice none 0 0, .map [], ⟨⟨hB, hl, World.ownsRow_nil _ _ _ _, rfl, h1, by simp, by simp⟩, good_new, rfl, by simp, hm, mapIs_new, h2, h3, by simp, rfl, by simp, by simp⟩⟩

set_option maxRecDepth 10000 in
set_option maxHeartbeats 1000000 in
theorem flush_shelf (w : World) (hb : Nat) (S : List Nat) (lim nx lost : Int) (its : List Itm) (hs : Shelf w hb S lim nx lost its) :
    Calls Tryz.prog 82 #[.pointer (some ⟨hb, 0, none⟩)] w fun e w' => e = .returned (.tuple #[]) ∧ Step w w' hb S lim nx lost [] := by
  obtain ⟨hin, hwl⟩ := shelf_in hs
  obtain ⟨bm, vl, vf, hbx⟩ := box_any hs
  have HS := hide hs
  have HBX := hide hbx
  clear hs hbx
  have hmm := @run_makeMap Tryz.prog
  go_enter Tryz.func82, Tryz.ntmps82
  go_wp2_with fail
  refine (newChain_any _).mono ?_
  rintro e w1 ⟨g, rfl, hg, hli, hb1⟩
  have hbx1 := (unhide HBX).of_block (hb1.block hb hwl)
  obtain ⟨c0, c1, c2, c3, c4, c5, c6⟩ := hbx1.cells
  have hf := hbx1.frozen
  have hlt1 := hbx1.lt
  have HB1 := hide hb1
  have HLI := hide hli
  have HX1 := hide hbx1
  clear hb1 hli hbx1
  go_wp2
  refine bodyPost_end (v := .tuple #[]) (by simp [results, Tryz.results82, go_sem]) rfl ⟨rfl, ?_⟩
  have hz1 := (unhide HB1).size
  have hgl := Row.lt (unhide HLI)
  have hghb : g ≠ hb := by omega
  have hsz : ((((w1.setCell ⟨hb, 4, none⟩ (.slice (some ⟨g, 0, none⟩) 1 1)).setCell ⟨hb, 5, none⟩ (.slice none 0 0)).setCell ⟨hb, 6, none⟩ (.map (some w1.heap.size))).setCell ⟨hb, 2, none⟩ (.int .i64 0)).heap.size = w1.heap.size := by simp [World.setCell]
  have hbx := box_set2 (box_set6 (((unhide HX1).set4 (.slice (some ⟨g, 0, none⟩) 1 1)).set5 (.slice none 0 0)) (.map (some w1.heap.size))) 0
  have hli := Row.setOther (p := ⟨hb, 2, none⟩) (Row.setOther (p := ⟨hb, 6, none⟩) (Row.setOther (p := ⟨hb, 5, none⟩) (Row.setOther (p := ⟨hb, 4, none⟩) (unhide HLI) hghb (.slice (some ⟨g, 0, none⟩) 1 1)) hghb (.slice none 0 0)) hghb (.map (some w1.heap.size))) hghb (.int .i64 0)
  have hk : Keeps S w ((((w1.setCell ⟨hb, 4, none⟩ (.slice (some ⟨g, 0, none⟩) 1 1)).setCell ⟨hb, 5, none⟩ (.slice none 0 0)).setCell ⟨hb, 6, none⟩ (.map (some w1.heap.size))).setCell ⟨hb, 2, none⟩ (.int .i64 0)) :=
    ((((Keeps.of_below (S := S) (unhide HB1) (fun _ h1 _ => h1)).setCell (p := ⟨hb, 4, none⟩) (.inl hin) _).setCell (p := ⟨hb, 5, none⟩) (.inl hin) _).setCell (p := ⟨hb, 6, none⟩) (.inl hin) _).setCell (p := ⟨hb, 2, none⟩) (.inl hin) _
  generalize ((((w1.setCell ⟨hb, 4, none⟩ (.slice (some ⟨g, 0, none⟩) 1 1)).setCell ⟨hb, 5, none⟩ (.slice none 0 0)).setCell ⟨hb, 6, none⟩ (.map (some w1.heap.size))).setCell ⟨hb, 2, none⟩ (.int .i64 0)) = W at hsz hbx hli hk ⊢
  have hm := World.ownsMap_made W Tryz.prog 9 (plainElem (H := Unit) Tryz.prog 3)
  rw [hsz] at hm
  refine ⟨[hb, g, w1.heap.size], shelf_new' (hbx.of_block (Below.heap_alloc _ _ _ hbx.lt)) (Row.alloc hli _) hm (Ne.symm hghb) (by omega) (by omega), fun b hb' => ?_, hk.alloc _⟩
  simp at hb'
  rcases hb' with e | e | e
  · exact .inl (e ▸ hin)
  · exact .inr (by omega)
  · exact .inr (by omega)

def flushN : ByteArray := ⟨#[102, 108, 117, 115, 104, 95, 97, 108, 108]⟩
def versionN : ByteArray := ⟨#[118, 101, 114, 115, 105, 111, 110]⟩
def okT : ByteArray := ⟨#[79, 75, 13, 10]⟩
def versionT : ByteArray := ⟨#[86, 69, 82, 83, 73, 79, 78, 32, 49, 13, 10]⟩
/-- What plain leaves. -/
def PlainEnd (w : World) (hb : Nat) (S : List Nat) (lim nx lost : Int) (its : List Itm) (name : ByteArray) (e : Ending) (w' : World) : Prop :=
  (name = flushN → e = .returned (.string okT) ∧ Step w w' hb S lim nx lost []) ∧
  (name = versionN → e = .returned (.string versionT) ∧ Step w w' hb S lim nx lost its) ∧
  (name ≠ flushN → name ≠ versionN → e = .returned (.string ByteArray.empty) ∧ Step w w' hb S lim nx lost its)

theorem plainOther {w w' : World} {hb : Nat} {S : List Nat} {lim nx lost : Int} {its : List Itm} {name : ByteArray} (h1 : ¬ name = flushN) (h2 : ¬ name = versionN) (h : Step w w' hb S lim nx lost its) : PlainEnd w hb S lim nx lost its name (.returned (.string ⟨#[]⟩)) w' :=
  ⟨fun e => absurd e h1, fun e => absurd e h2, fun _ _ => ⟨rfl, h⟩⟩

set_option maxRecDepth 10000 in
set_option maxHeartbeats 1000000 in
theorem plain_shelf (w : World) (hb : Nat) (S : List Nat) (lim nx lost : Int) (its : List Itm) (name : ByteArray) (hs : Shelf w hb S lim nx lost its) :
    Calls Tryz.prog 67 #[.pointer (some ⟨hb, 0, none⟩), .string name] w fun e w' => PlainEnd w hb S lim nx lost its name e w' := by
  by_cases g1 : name = flushN
  · subst g1
    have HT := hide (flush_shelf w hb S lim nx lost its hs)
    have hne : flushN ≠ versionN := by decide
    have HN := hide hne
    clear hs hne
    unfold flushN at HT HN ⊢
    go_enter Tryz.func67, Tryz.ntmps67
    go_wp2_with fail
    refine (unhide HT).mono ?_
    rintro e w1 ⟨rfl, hst⟩
    have HF := hide hst
    clear hst
    go_wp2
    go_ret
    exact ⟨fun _ => ⟨rfl, unhide HF⟩, fun h => absurd h (unhide HN), fun h => absurd rfl h⟩
  by_cases g2 : name = versionN
  · subst g2
    have HN := hide g1
    have HF := hide (step_refl hs)
    clear hs g1
    unfold versionN at HN ⊢
    go_enter Tryz.func67, Tryz.ntmps67
    go_wp2
    go_ret
    exact ⟨fun h => absurd h (unhide HN), fun _ => ⟨rfl, unhide HF⟩, fun _ h => absurd rfl h⟩
  · have e1 : (name.toList == [102, 108, 117, 115, 104, 95, 97, 108, 108]) = false := by rw [beq_eq_false_iff_ne]; intro h; apply g1; apply Go.WideShapes.bytes_inj; rw [← Lib.toList_data, h]; rfl
    have e2 : (name.toList == [118, 101, 114, 115, 105, 111, 110]) = false := by rw [beq_eq_false_iff_ne]; intro h; apply g2; apply Go.WideShapes.bytes_inj; rw [← Lib.toList_data, h]; rfl
    have HN1 := hide g1
    have HN2 := hide g2
    have HF := hide (step_refl hs)
    clear hs g1 g2
    go_enter Tryz.func67, Tryz.ntmps67
    go_wp2
    go_ret
    exact plainOther (unhide HN1) (unhide HN2) (unhide HF)
end Shelf
end Go.Proofs.YtkdcofmpbmiloaaGreatDoor
/-
  The program's untilOf: when an item goes.
-/
namespace Go.Proofs.YtkdcofmpbmiloaaGreatDoor
namespace Shelf
open Go.RowKit Base Items Keep Own Chain Store GoodKey
set_option linter.unusedVariables false

def untilR (now expire : Int) : Int := if expire = 0 then 0 else now + expire

set_option maxRecDepth 10000 in
set_option maxHeartbeats 1000000 in
theorem untilOf_any (now expire : Int) (w : World) (h1 : 0 ≤ now ∧ now ≤ 1000000000) (h2 : 0 ≤ expire ∧ expire ≤ 1000000000) :
    Calls Tryz.prog 65 #[.int .i64 now, .int .i64 expire] w fun e w' => e = .returned (.int .i64 (untilR now expire)) ∧ Below w.heap.size w w' := by
  by_cases g : expire = 0
  · subst g
    have e : untilR now 0 = 0 := rfl
    rw [e]
    go_enter Tryz.func65, Tryz.ntmps65
    go_wp2
    first
      | exact ⟨rfl, Below.refl _ _⟩
      | exact bodyPost_ret (v := .int .i64 0) (by simp [results, Tryz.results65, go_sem]; done) rfl ⟨rfl, Below.refl _ _⟩
  · have e : untilR now expire = now + expire := if_neg g
    rw [e]
    have hw : IntKind.i64.wrap (now + expire) = now + expire := by rw [IntKind.wrap_i64]; omega
    have hd : decide (expire = 0) = false := decide_eq_false g
    go_enter Tryz.func65, Tryz.ntmps65
    go_wp2
    first
      | exact ⟨rfl, Below.refl _ _⟩
      | exact bodyPost_ret (v := .int .i64 (now + expire)) (by simp [results, Tryz.results65, go_sem]; done) rfl ⟨rfl, Below.refl _ _⟩
end Shelf
end Go.Proofs.YtkdcofmpbmiloaaGreatDoor
/-
  The program's refusalOf: why an item is not kept.
-/
namespace Go.Proofs.YtkdcofmpbmiloaaGreatDoor
namespace Shelf
open Go.RowKit Base Items Keep Own Chain Store GoodKey
set_option linter.unusedVariables false

def notStoredT : ByteArray := ⟨#[78, 79, 84, 95, 83, 84, 79, 82, 69, 68, 13, 10]⟩
def existsT : ByteArray := ⟨#[69, 88, 73, 83, 84, 83, 13, 10]⟩
def refusalR (l : List UInt8) (there : Bool) (tok num : Int) : ByteArray :=
  if l = [97, 100, 100] then (if there then notStoredT else ⟨#[]⟩) else
  if l = [114, 101, 112, 108, 97, 99, 101] then (if there then ⟨#[]⟩ else notStoredT) else
  if l = [97, 112, 112, 101, 110, 100] then (if there then ⟨#[]⟩ else notStoredT) else
  if l = [112, 114, 101, 112, 101, 110, 100] then (if there then ⟨#[]⟩ else notStoredT) else
  if l = [99, 97, 115] then (if there then if tok = num then ⟨#[]⟩ else existsT else notFoundT) else
  ⟨#[]⟩

set_option maxRecDepth 10000 in
set_option maxHeartbeats 4000000 in
theorem refusalOf_any (s : ByteArray) (a : Option Addr) (cap nk : Nat) (f x n : Int) (dt : ByteArray) (q : Bool) (it : Itm) (there : Bool) (w : World) :
    Calls Tryz.prog 77 #[.agg #[.string s, .slice a nk cap, .int .i64 f, .int .i64 x, .int .i64 n, .string dt, .bool q], .agg #[.string it.key, .int .i64 it.flags, .string it.data, .int .i64 it.upto, .int .i64 it.token], .bool there] w fun e w' => e = .returned (.string (refusalR s.toList there it.token n)) ∧ Below w.heap.size w w' := by
  by_cases h0 : s.toList = [97, 100, 100]
  · cases there
    · have H : Hid (refusalR s.toList false it.token n = ⟨#[]⟩) := by show refusalR s.toList false it.token n = ⟨#[]⟩; rw [h0]; unfold refusalR; simp
      go_enter Tryz.func77, Tryz.ntmps77
      go_wp2
      go_ret
      exact ⟨congrArg (fun b => Ending.returned (.string b)) (unhide H).symm, by first | exact Below.refl _ _ | exact bel1 w _ | exact bel2 w _ _⟩
    · have H : Hid (refusalR s.toList true it.token n = notStoredT) := by show refusalR s.toList true it.token n = notStoredT; rw [h0]; unfold refusalR; simp
      go_enter Tryz.func77, Tryz.ntmps77
      go_wp2
      go_ret
      exact ⟨congrArg (fun b => Ending.returned (.string b)) (unhide H).symm, by first | exact Below.refl _ _ | exact bel1 w _ | exact bel2 w _ _⟩
  by_cases h1 : s.toList = [114, 101, 112, 108, 97, 99, 101]
  · cases there
    · have H : Hid (refusalR s.toList false it.token n = notStoredT) := by show refusalR s.toList false it.token n = notStoredT; rw [h1]; unfold refusalR; simp
      go_enter Tryz.func77, Tryz.ntmps77
      go_wp2
      go_ret
      exact ⟨congrArg (fun b => Ending.returned (.string b)) (unhide H).symm, by first | exact Below.refl _ _ | exact bel1 w _ | exact bel2 w _ _⟩
    · have H : Hid (refusalR s.toList true it.token n = ⟨#[]⟩) := by show refusalR s.toList true it.token n = ⟨#[]⟩; rw [h1]; unfold refusalR; simp
      go_enter Tryz.func77, Tryz.ntmps77
      go_wp2
      go_ret
      exact ⟨congrArg (fun b => Ending.returned (.string b)) (unhide H).symm, by first | exact Below.refl _ _ | exact bel1 w _ | exact bel2 w _ _⟩
  by_cases h2 : s.toList = [97, 112, 112, 101, 110, 100]
  · cases there
    · have H : Hid (refusalR s.toList false it.token n = notStoredT) := by show refusalR s.toList false it.token n = notStoredT; rw [h2]; unfold refusalR; simp
      go_enter Tryz.func77, Tryz.ntmps77
      go_wp2
      go_ret
      exact ⟨congrArg (fun b => Ending.returned (.string b)) (unhide H).symm, by first | exact Below.refl _ _ | exact bel1 w _ | exact bel2 w _ _⟩
    · have H : Hid (refusalR s.toList true it.token n = ⟨#[]⟩) := by show refusalR s.toList true it.token n = ⟨#[]⟩; rw [h2]; unfold refusalR; simp
      go_enter Tryz.func77, Tryz.ntmps77
      go_wp2
      go_ret
      exact ⟨congrArg (fun b => Ending.returned (.string b)) (unhide H).symm, by first | exact Below.refl _ _ | exact bel1 w _ | exact bel2 w _ _⟩
  by_cases h3 : s.toList = [112, 114, 101, 112, 101, 110, 100]
  · cases there
    · have H : Hid (refusalR s.toList false it.token n = notStoredT) := by show refusalR s.toList false it.token n = notStoredT; rw [h3]; unfold refusalR; simp
      go_enter Tryz.func77, Tryz.ntmps77
      go_wp2
      go_ret
      exact ⟨congrArg (fun b => Ending.returned (.string b)) (unhide H).symm, by first | exact Below.refl _ _ | exact bel1 w _ | exact bel2 w _ _⟩
    · have H : Hid (refusalR s.toList true it.token n = ⟨#[]⟩) := by show refusalR s.toList true it.token n = ⟨#[]⟩; rw [h3]; unfold refusalR; simp
      go_enter Tryz.func77, Tryz.ntmps77
      go_wp2
      go_ret
      exact ⟨congrArg (fun b => Ending.returned (.string b)) (unhide H).symm, by first | exact Below.refl _ _ | exact bel1 w _ | exact bel2 w _ _⟩
  by_cases h4 : s.toList = [99, 97, 115]
  · by_cases g : it.token = n
    · have hd : decide (it.token = n) = true := decide_eq_true g
      cases there
      · have H : Hid (refusalR s.toList false it.token n = notFoundT) := by show refusalR s.toList false it.token n = notFoundT; rw [h4]; unfold refusalR; simp
        go_enter Tryz.func77, Tryz.ntmps77
        go_wp2
        go_ret
        exact ⟨congrArg (fun b => Ending.returned (.string b)) (unhide H).symm, by first | exact Below.refl _ _ | exact bel1 w _ | exact bel2 w _ _⟩
      · have H : Hid (refusalR s.toList true it.token n = ⟨#[]⟩) := by show refusalR s.toList true it.token n = ⟨#[]⟩; rw [h4]; unfold refusalR; simp [g]
        go_enter Tryz.func77, Tryz.ntmps77
        go_wp2
        go_ret
        exact ⟨congrArg (fun b => Ending.returned (.string b)) (unhide H).symm, by first | exact Below.refl _ _ | exact bel1 w _ | exact bel2 w _ _⟩
    · have hd : decide (it.token = n) = false := decide_eq_false g
      cases there
      · have H : Hid (refusalR s.toList false it.token n = notFoundT) := by show refusalR s.toList false it.token n = notFoundT; rw [h4]; unfold refusalR; simp
        go_enter Tryz.func77, Tryz.ntmps77
        go_wp2
        go_ret
        exact ⟨congrArg (fun b => Ending.returned (.string b)) (unhide H).symm, by first | exact Below.refl _ _ | exact bel1 w _ | exact bel2 w _ _⟩
      · have H : Hid (refusalR s.toList true it.token n = existsT) := by show refusalR s.toList true it.token n = existsT; rw [h4]; unfold refusalR; simp [g]
        go_enter Tryz.func77, Tryz.ntmps77
        go_wp2
        go_ret
        exact ⟨congrArg (fun b => Ending.returned (.string b)) (unhide H).symm, by first | exact Below.refl _ _ | exact bel1 w _ | exact bel2 w _ _⟩
  have H : Hid (refusalR s.toList there it.token n = ⟨#[]⟩) := by show refusalR s.toList there it.token n = ⟨#[]⟩; unfold refusalR; rw [if_neg h0, if_neg h1, if_neg h2, if_neg h3, if_neg h4]
  have e0 : (s.toList == [97, 100, 100]) = false := beq_eq_false_iff_ne.mpr h0
  have e1 : (s.toList == [114, 101, 112, 108, 97, 99, 101]) = false := beq_eq_false_iff_ne.mpr h1
  have e2 : (s.toList == [97, 112, 112, 101, 110, 100]) = false := beq_eq_false_iff_ne.mpr h2
  have e3 : (s.toList == [112, 114, 101, 112, 101, 110, 100]) = false := beq_eq_false_iff_ne.mpr h3
  have e4 : (s.toList == [99, 97, 115]) = false := beq_eq_false_iff_ne.mpr h4
  go_enter Tryz.func77, Tryz.ntmps77
  go_wp2
  go_ret
  exact ⟨congrArg (fun b => Ending.returned (.string b)) (unhide H).symm, by first | exact Below.refl _ _ | exact bel1 w _ | exact bel2 w _ _⟩
end Shelf
end Go.Proofs.YtkdcofmpbmiloaaGreatDoor
/-
  The program's itemOf: the item that a writing command keeps.
-/
namespace Go.Proofs.YtkdcofmpbmiloaaGreatDoor
namespace Shelf
open Go.RowKit Base Items Keep Own Chain Store GoodKey
set_option linter.unusedVariables false

def itemR (now : Int) (l : List UInt8) (key : ByteArray) (f x : Int) (dt : ByteArray) (old : Itm) : Itm :=
  if l = [97, 112, 112, 101, 110, 100] then { old with data := old.data ++ dt } else
  if l = [112, 114, 101, 112, 101, 110, 100] then { old with data := dt ++ old.data } else
  { key := key, flags := f, data := dt, upto := untilR now x, token := 0 }

set_option maxRecDepth 10000 in
set_option maxHeartbeats 4000000 in
theorem itemOf_grown (now : Int) (s : ByteArray) (a : Option Addr) (cap nk : Nat) (f x n : Int) (dt : ByteArray) (q : Bool) (it : Itm) (w : World) (h1 : dt.size ≤ 1048576) (h2 : it.data.size ≤ 1048576) (hn : s.toList = [97, 112, 112, 101, 110, 100]) :
    Calls Tryz.prog 78 #[.int .i64 now, .agg #[.string s, .slice a nk cap, .int .i64 f, .int .i64 x, .int .i64 n, .string dt, .bool q], .agg #[.string it.key, .int .i64 it.flags, .string it.data, .int .i64 it.upto, .int .i64 it.token]] w fun e w' => e = .returned (.agg #[.string it.key, .int .i64 it.flags, .string (it.data ++ dt), .int .i64 it.upto, .int .i64 it.token]) ∧ Below w.heap.size w w' := by
  have m1 : ¬ 9223372036854775807 < it.data.size + dt.size := by omega
  go_enter Tryz.func78, Tryz.ntmps78
  go_wp2
  exact bodyPost_ret (v := .agg #[.string it.key, .int .i64 it.flags, .string (it.data ++ dt), .int .i64 it.upto, .int .i64 it.token]) (by simp [results, Tryz.results78, go_sem]; done) rfl ⟨rfl, bel3 w _ _ _⟩

set_option maxRecDepth 10000 in
set_option maxHeartbeats 4000000 in
theorem itemOf_led (now : Int) (s : ByteArray) (a : Option Addr) (cap nk : Nat) (f x n : Int) (dt : ByteArray) (q : Bool) (it : Itm) (w : World) (h1 : dt.size ≤ 1048576) (h2 : it.data.size ≤ 1048576) (hn : s.toList = [112, 114, 101, 112, 101, 110, 100]) :
    Calls Tryz.prog 78 #[.int .i64 now, .agg #[.string s, .slice a nk cap, .int .i64 f, .int .i64 x, .int .i64 n, .string dt, .bool q], .agg #[.string it.key, .int .i64 it.flags, .string it.data, .int .i64 it.upto, .int .i64 it.token]] w fun e w' => e = .returned (.agg #[.string it.key, .int .i64 it.flags, .string (dt ++ it.data), .int .i64 it.upto, .int .i64 it.token]) ∧ Below w.heap.size w w' := by
  have m1 : ¬ 9223372036854775807 < dt.size + it.data.size := by omega
  go_enter Tryz.func78, Tryz.ntmps78
  go_wp2
  exact bodyPost_ret (v := .agg #[.string it.key, .int .i64 it.flags, .string (dt ++ it.data), .int .i64 it.upto, .int .i64 it.token]) (by simp [results, Tryz.results78, go_sem]; done) rfl ⟨rfl, bel3 w _ _ _⟩
end Shelf
end Go.Proofs.YtkdcofmpbmiloaaGreatDoor
/-
  The model's l2Put where nothing is stored: the charge is too great, or the tokens are used up.
-/
namespace Go.Proofs.YtkdcofmpbmiloaaGreatDoor
namespace Rw
open Go.RowKit Base GoodKey Items Store Own
set_option linter.unusedVariables false

set_option maxRecDepth 10000 in
set_option maxHeartbeats 2000000 in
theorem l2Put_full (lim nx : Int) (a : Option Addr) (n cap : Nat) (x : Itm) (w : World) (hx : Small x) (h : lim < charge x ∨ nx = 1000000000) :
    Calls Tryz.prog 88 #[.agg #[.int .i64 lim, .int .i64 nx, .slice a n cap], .agg #[.string x.key, .int .i64 x.flags, .string x.data, .int .i64 x.upto, .int .i64 x.token]] w fun e w' =>
      e = .returned (.tuple #[.agg #[.int .i64 lim, .int .i64 nx, .slice a n cap], .string Shelf.fullT, .int .i64 0]) ∧ Below w.heap.size w w' := by
  have hmix : Tryz.prog.follows .mixedOrders = true := by kernel_rfl
  have hcc := fun w' => l2Charge_any x w' hx
  generalize charge x = ch at hcc h
  obtain ⟨W, hW⟩ : ∃ W, W = (((w.alloc (.cells #[.int .i64 lim, .int .i64 nx, .slice a n cap] 25)).alloc (.cells #[.string x.key, .int .i64 x.flags, .string x.data, .int .i64 x.upto, .int .i64 x.token] 37)).alloc (.cells #[.int .i64 0, .int .i64 0, .slice none 0 0] 25)) := ⟨_, rfl⟩
  have cC := fun d os => Calls.regrown_of (hcc (Go.Sort.grow (redrawn W d) os))
  have hBW : Below w.heap.size w W := by rw [hW]; exact bel3 w _ _ _
  have hzW : W.heap.size = w.heap.size + 1 + 1 + 1 := by rw [hW]; simp
  have a0 : W.cell? ⟨w.heap.size, 0, none⟩ = some (.int .i64 lim) := by rw [hW]; go_simp
  have a1 : W.cell? ⟨w.heap.size, 1, none⟩ = some (.int .i64 nx) := by rw [hW]; go_simp
  have a2 : W.cell? ⟨w.heap.size, 2, none⟩ = some (.slice a n cap) := by rw [hW]; go_simp
  have b0 : W.cell? ⟨w.heap.size + 1, 0, none⟩ = some (.string x.key) := by rw [hW]; go_simp
  have b1 : W.cell? ⟨w.heap.size + 1, 1, none⟩ = some (.int .i64 x.flags) := by rw [hW]; go_simp
  have b2 : W.cell? ⟨w.heap.size + 1, 2, none⟩ = some (.string x.data) := by rw [hW]; go_simp
  have b3 : W.cell? ⟨w.heap.size + 1, 3, none⟩ = some (.int .i64 x.upto) := by rw [hW]; go_simp
  have b4 : W.cell? ⟨w.heap.size + 1, 4, none⟩ = some (.int .i64 x.token) := by rw [hW]; go_simp
  have r0 : W.cell? ⟨w.heap.size + 1 + 1, 0, none⟩ = some (.int .i64 0) := by rw [hW]; go_simp
  have r1 : W.cell? ⟨w.heap.size + 1 + 1, 1, none⟩ = some (.int .i64 0) := by rw [hW]; go_simp
  have r2 : W.cell? ⟨w.heap.size + 1 + 1, 2, none⟩ = some (.slice none 0 0) := by rw [hW]; go_simp
  have rf : ∀ o, W.frozen? ⟨w.heap.size + 1 + 1, o, none⟩ = false := fun o => by rw [hW]; go_simp
  have p0 := cell_regrown a0
  have p1 := cell_regrown a1
  have q0 := cell_regrown b0
  have q1 := cell_regrown b1
  have q2 := cell_regrown b2
  have q3 := cell_regrown b3
  have q4 := cell_regrown b4
  have HW := hide hW
  clear hcc hW
  by_cases hc : lim < ch
  · clear h
    go_enter Tryz.func88, Tryz.ntmps88
    go_wp2_with fail
    rw [← unhide HW]
    refine wp_region_quiet_below hmix (by kernel_rfl) ?_
    repeat (quiet_step (exact cC _ _))
    refine wpQuiet_nil ?_
    intro _ hw'
    obtain ⟨⟨dq, osq⟩, hw''⟩ := hw'
    subst hw''
    have hbq := below_regrown W dq osq
    generalize (Go.Sort.grow (redrawn W dq) osq) = wc at hbq ⊢
    have z0 := (hbq.cell (p := ⟨w.heap.size, 0, none⟩) (show w.heap.size < W.heap.size by omega)).trans a0
    have z1 := (hbq.cell (p := ⟨w.heap.size, 1, none⟩) (show w.heap.size < W.heap.size by omega)).trans a1
    have z2 := (hbq.cell (p := ⟨w.heap.size, 2, none⟩) (show w.heap.size < W.heap.size by omega)).trans a2
    have y0 := (hbq.cell (p := ⟨w.heap.size + 1 + 1, 0, none⟩) (show w.heap.size + 1 + 1 < W.heap.size by omega)).trans r0
    have y1 := (hbq.cell (p := ⟨w.heap.size + 1 + 1, 1, none⟩) (show w.heap.size + 1 + 1 < W.heap.size by omega)).trans r1
    have y2 := (hbq.cell (p := ⟨w.heap.size + 1 + 1, 2, none⟩) (show w.heap.size + 1 + 1 < W.heap.size by omega)).trans r2
    have yf := fun o => (hbq.frozen (p := ⟨w.heap.size + 1 + 1, o, none⟩) (show w.heap.size + 1 + 1 < W.heap.size by omega)).trans (rf o)
    have HB := hide (hBW.trans (hbq.mono (by omega)))
    have hzc : w.heap.size + 1 + 1 < wc.heap.size := by have := hbq.size; omega
    clear p0 p1 q0 q1 q2 q3 q4 cC a0 a1 a2 b0 b1 b2 b3 b4 r0 r1 r2 rf HW hBW hbq
    go_wp2
    refine bodyPost_ret (v := .tuple #[.agg #[.int .i64 lim, .int .i64 nx, .slice a n cap], .string Shelf.fullT, .int .i64 0]) (by simp [results, Tryz.results88, go_sem, Shelf.fullT, y0, y1, y2]; done) rfl ⟨rfl, ?_⟩
    repeat (refine Below.setCell ?_ (by first | (simp; done) | (simp; omega)) _)
    exact unhide HB
  · have hn : nx = 1000000000 := by omega
    subst hn
    clear h
    go_enter Tryz.func88, Tryz.ntmps88
    go_wp2_with fail
    rw [← unhide HW]
    refine wp_region_quiet_below hmix (by kernel_rfl) ?_
    repeat (quiet_step (exact cC _ _))
    refine wpQuiet_nil ?_
    intro _ hw'
    obtain ⟨⟨dq, osq⟩, hw''⟩ := hw'
    subst hw''
    have hbq := below_regrown W dq osq
    generalize (Go.Sort.grow (redrawn W dq) osq) = wc at hbq ⊢
    have z0 := (hbq.cell (p := ⟨w.heap.size, 0, none⟩) (show w.heap.size < W.heap.size by omega)).trans a0
    have z1 := (hbq.cell (p := ⟨w.heap.size, 1, none⟩) (show w.heap.size < W.heap.size by omega)).trans a1
    have z2 := (hbq.cell (p := ⟨w.heap.size, 2, none⟩) (show w.heap.size < W.heap.size by omega)).trans a2
    have y0 := (hbq.cell (p := ⟨w.heap.size + 1 + 1, 0, none⟩) (show w.heap.size + 1 + 1 < W.heap.size by omega)).trans r0
    have y1 := (hbq.cell (p := ⟨w.heap.size + 1 + 1, 1, none⟩) (show w.heap.size + 1 + 1 < W.heap.size by omega)).trans r1
    have y2 := (hbq.cell (p := ⟨w.heap.size + 1 + 1, 2, none⟩) (show w.heap.size + 1 + 1 < W.heap.size by omega)).trans r2
    have yf := fun o => (hbq.frozen (p := ⟨w.heap.size + 1 + 1, o, none⟩) (show w.heap.size + 1 + 1 < W.heap.size by omega)).trans (rf o)
    have HB := hide (hBW.trans (hbq.mono (by omega)))
    have hzc : w.heap.size + 1 + 1 < wc.heap.size := by have := hbq.size; omega
    clear p0 p1 q0 q1 q2 q3 q4 cC a0 a1 a2 b0 b1 b2 b3 b4 r0 r1 r2 rf HW hBW hbq
    go_wp2
    refine bodyPost_ret (v := .tuple #[.agg #[.int .i64 lim, .int .i64 1000000000, .slice a n cap], .string Shelf.fullT, .int .i64 0]) (by simp [results, Tryz.results88, go_sem, Shelf.fullT, y0, y1, y2]; done) rfl ⟨rfl, ?_⟩
    repeat (refine Below.setCell ?_ (by first | (simp; done) | (simp; omega)) _)
    exact unhide HB
end Rw
end Go.Proofs.YtkdcofmpbmiloaaGreatDoor
/-
  The model's l2Put where it stores: the three boxes of its call, and a law of append.
-/
namespace Go.Proofs.YtkdcofmpbmiloaaGreatDoor
namespace Rw
open Go.RowKit Base GoodKey Items Store Own
set_option linter.unusedVariables false

/-- The call's three boxes: the store, the item, the store to hand back. -/
def Bx (w : World) (H : Nat) (lim nx : Int) (v : Value) (x : Itm) : Prop :=
  (w.cell? ⟨H, 0, none⟩ = some (.int .i64 lim) ∧ w.cell? ⟨H, 1, none⟩ = some (.int .i64 nx) ∧ w.cell? ⟨H, 2, none⟩ = some v) ∧
  (w.cell? ⟨H + 1, 0, none⟩ = some (.string x.key) ∧ w.cell? ⟨H + 1, 1, none⟩ = some (.int .i64 x.flags) ∧ w.cell? ⟨H + 1, 2, none⟩ = some (.string x.data) ∧ w.cell? ⟨H + 1, 3, none⟩ = some (.int .i64 x.upto) ∧ w.cell? ⟨H + 1, 4, none⟩ = some (.int .i64 x.token)) ∧
  (w.cell? ⟨H + 1 + 1, 0, none⟩ = some (.int .i64 0) ∧ w.cell? ⟨H + 1 + 1, 1, none⟩ = some (.int .i64 0) ∧ w.cell? ⟨H + 1 + 1, 2, none⟩ = some (.slice none 0 0)) ∧
  (∀ b o, H ≤ b → b < H + 3 → w.frozen? ⟨b, o, none⟩ = false) ∧ H + 3 ≤ w.heap.size
theorem Bx.same {w w' : World} {H : Nat} {lim nx : Int} {v : Value} {x : Itm} (h : Bx w H lim nx v x) (hc : ∀ b o, H ≤ b → b < H + 3 → w'.cell? ⟨b, o, none⟩ = w.cell? ⟨b, o, none⟩ ∧ w'.frozen? ⟨b, o, none⟩ = w.frozen? ⟨b, o, none⟩) (hz : w.heap.size ≤ w'.heap.size) : Bx w' H lim nx v x := by
  obtain ⟨⟨s0, s1, s2⟩, ⟨i0, i1, i2, i3, i4⟩, ⟨y0, y1, y2⟩, fz, z⟩ := h
  have c := fun b o h1 h2 => (hc b o h1 h2).1
  refine ⟨⟨?_, ?_, ?_⟩, ⟨?_, ?_, ?_, ?_, ?_⟩, ⟨?_, ?_, ?_⟩, fun b o h1 h2 => (hc b o h1 h2).2.trans (fz b o h1 h2), by omega⟩
  · rw [c H 0 (by omega) (by omega)]; exact s0
  · rw [c H 1 (by omega) (by omega)]; exact s1
  · rw [c H 2 (by omega) (by omega)]; exact s2
  · rw [c (H + 1) 0 (by omega) (by omega)]; exact i0
  · rw [c (H + 1) 1 (by omega) (by omega)]; exact i1
  · rw [c (H + 1) 2 (by omega) (by omega)]; exact i2
  · rw [c (H + 1) 3 (by omega) (by omega)]; exact i3
  · rw [c (H + 1) 4 (by omega) (by omega)]; exact i4
  · rw [c (H + 1 + 1) 0 (by omega) (by omega)]; exact y0
  · rw [c (H + 1 + 1) 1 (by omega) (by omega)]; exact y1
  · rw [c (H + 1 + 1) 2 (by omega) (by omega)]; exact y2
theorem Bx.below {w w' : World} {H C : Nat} {lim nx : Int} {v : Value} {x : Itm} (h : Bx w H lim nx v x) (hb : Below C w w') (hC : H + 3 ≤ C) : Bx w' H lim nx v x :=
  h.same (fun b o h1 h2 => ⟨hb.cell (p := ⟨b, o, none⟩) (show b < C by omega), hb.frozen (p := ⟨b, o, none⟩) (show b < C by omega)⟩) hb.size
theorem Bx.gb {w w' : World} {H g : Nat} {lim nx : Int} {v : Value} {x : Itm} (h : Bx w H lim nx v x) (hg : w.grownBy w' (some g)) (hne : H + 3 ≤ g) : Bx w' H lim nx v x := by
  have hz := h.2.2.2.2
  exact h.same (fun b o h1 h2 => ⟨hg.cell_far ⟨b, o, none⟩ (show b < w.heap.size by omega) (by simp; omega), hg.frozen_far ⟨b, o, none⟩ (show b < w.heap.size by omega) (by simp; omega)⟩) hg.size
theorem frozen_set (w : World) (p q : Addr) (u : Value) : (w.setCell p u).frozen? q = w.frozen? q := by simp
theorem Bx.setS {w : World} {H : Nat} {lim nx : Int} {v : Value} {x : Itm} (h : Bx w H lim nx v x) (u : Value) : Bx (w.setCell ⟨H, 2, none⟩ u) H lim nx u x := by
  obtain ⟨⟨s0, s1, s2⟩, ⟨i0, i1, i2, i3, i4⟩, ⟨y0, y1, y2⟩, fz, z⟩ := h
  refine ⟨⟨?_, ?_, ?_⟩, ⟨?_, ?_, ?_, ?_, ?_⟩, ⟨?_, ?_, ?_⟩, fun b o h1 h2 => (frozen_set _ _ _ _).trans (fz b o h1 h2), by simpa [World.setCell] using z⟩
  all_goals go_simp
theorem Bx.setN {w : World} {H : Nat} {lim nx : Int} {v : Value} {x : Itm} (h : Bx w H lim nx v x) (u : Int) : Bx (w.setCell ⟨H, 1, none⟩ (.int .i64 u)) H lim u v x := by
  obtain ⟨⟨s0, s1, s2⟩, ⟨i0, i1, i2, i3, i4⟩, ⟨y0, y1, y2⟩, fz, z⟩ := h
  refine ⟨⟨?_, ?_, ?_⟩, ⟨?_, ?_, ?_, ?_, ?_⟩, ⟨?_, ?_, ?_⟩, fun b o h1 h2 => (frozen_set _ _ _ _).trans (fz b o h1 h2), by simpa [World.setCell] using z⟩
  all_goals go_simp
theorem Bx.setT {w : World} {H : Nat} {lim nx : Int} {v : Value} {x : Itm} (h : Bx w H lim nx v x) (u : Int) : Bx (w.setCell ⟨H + 1, 4, none⟩ (.int .i64 u)) H lim nx v { x with token := u } := by
  obtain ⟨⟨s0, s1, s2⟩, ⟨i0, i1, i2, i3, i4⟩, ⟨y0, y1, y2⟩, fz, z⟩ := h
  refine ⟨⟨?_, ?_, ?_⟩, ⟨?_, ?_, ?_, ?_, ?_⟩, ⟨?_, ?_, ?_⟩, fun b o h1 h2 => (frozen_set _ _ _ _).trans (fz b o h1 h2), by simpa [World.setCell] using z⟩
  all_goals go_simp
/-- A row apart from the boxes is kept where one of their cells is written. -/
def Apart (H : Nat) (a : Option Addr) : Prop := ∀ b, a = some ⟨b, 0, none⟩ → b < H ∨ H + 3 ≤ b
theorem Row.set {w : World} {B H b o : Nat} {a : Option Addr} {n cap : Nat} {its : List Itm} (h : Row w B (.slice a n cap) its) (ha : Apart H a) (hb : H ≤ b ∧ b < H + 3) (u : Value) : Row (w.setCell ⟨b, o, none⟩ u) B (.slice a n cap) its := by
  refine ⟨h.1, h.2.elim Or.inl ?_⟩
  rintro ⟨g, cap', cur, hv, hg, hh, r⟩
  simp only [Value.slice.injEq] at hv
  refine Or.inr ⟨g, cap', cur, by rw [hv.1, hv.2.1, hv.2.2], hg, ?_, r⟩
  rw [Below.heap_setCell _ _ _ _ (by have := ha g hv.1; show g ≠ b; omega)]
  exact hh
end Rw
end Go.Proofs.YtkdcofmpbmiloaaGreatDoor
/-
  What a command leaves of the items, and its answer: plain outcomes. No Go function is spoken of here.
-/
namespace Go.Proofs.YtkdcofmpbmiloaaGreatDoor
namespace Shelf
open Go.RowKit Base Items Store GoodKey NumText
set_option linter.unusedVariables false

/-- The items, the next token, how many were forgotten, the answer. -/
structure Out where
  its : List Itm
  nx : Int
  lost : Nat
  ans : ByteArray
/-- How a command's answer is told: by a return, or, where something is full, by giving up. -/
def AnsEnd (p : Addr) (ans : ByteArray) (e : Ending) : Prop := e = .returned (.string ans) ∨ (ans = fullT ∧ e = .panicked (fullP p))
def largeT : ByteArray := ⟨#[83, 69, 82, 86, 69, 82, 95, 69, 82, 82, 79, 82, 32, 108, 97, 114, 103, 101, 13, 10]⟩
def badT : ByteArray := ⟨#[67, 76, 73, 69, 78, 84, 95, 69, 82, 82, 79, 82, 32, 98, 97, 100, 13, 10]⟩
def storedT : ByteArray := ⟨#[83, 84, 79, 82, 69, 68, 13, 10]⟩
def oldO (its : List Itm) (key : ByteArray) : Itm := match atN its key with
  | some k => its.getD k zero
  | none => zero
def putO (lim nx : Int) (its : List Itm) (x : Itm) (ans : ByteArray) : Out := match putR lim nx its x with
  | none => ⟨its, nx, 0, fullT⟩
  | some (r, n) => ⟨r, nx + 1, n, ans⟩
def setO (lim nx : Int) (its : List Itm) (now : Int) (nm : List UInt8) (key : ByteArray) (f x n : Int) (dt : ByteArray) : Out :=
  if refusalR nm (atN its key).isSome (oldO its key).token n = ⟨#[]⟩ then
    (if (itemR now nm key f x dt (oldO its key)).data.size ≤ 100 then putO lim nx its (itemR now nm key f x dt (oldO its key)) storedT else ⟨its, nx, 0, largeT⟩)
  else ⟨its, nx, 0, refusalR nm (atN its key).isSome (oldO its key).token n⟩
end Shelf
end Go.Proofs.YtkdcofmpbmiloaaGreatDoor
