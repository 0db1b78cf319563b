/-
  The program's shelf: take, find.
-/
import Derived.Test.YthlcmnjaimffdaaGreatDoorShelfPN
import Derived.Test.YthlcmnjaimffdaaGreatDoorStores
import Derived.Lib.BufferWrite
import Derived.Lib.UnsafeStr
import Derived.Laws.CopyOwn
namespace Go.Proofs.YthlcmnjaimffdaaGreatDoor
namespace Shelf
open Go.RowKit Base Items Keep Own Chain Store
set_option linter.unusedVariables false

theorem hasKey_iff (key : ByteArray) (x : Itm) : hasKey key x = true ↔ x.key = key := by
  unfold hasKey
  constructor
  · intro h
    by_cases e : x.key = key
    · exact e
    · rw [str_ne e] at h; cases h
  · exact fun h => str_eq h
/-- An item that is there, by its place. -/
theorem at_split {its : List Itm} {key : ByteArray} {k : Nat} (h : atN its key = some k) : k < its.length ∧ (its.getD k zero).key = key := by
  have hk := atN_lt h
  refine ⟨hk, ?_⟩
  unfold atN at h
  have := (List.findIdx?_eq_some_iff_getElem.1 h).2.1
  rw [List.getD_eq_getElem?_getD, List.getElem?_eq_getElem hk]
  exact (hasKey_iff _ _).1 this
theorem at_none {its : List Itm} {key : ByteArray} (h : atN its key = none) : ∀ x ∈ its, x.key ≠ key := by
  unfold atN at h
  rw [List.findIdx?_eq_none_iff] at h
  intro x hx e
  have h1 := h x hx
  rw [(hasKey_iff key x).2 e] at h1
  cases h1
theorem order_split {α : Type} {l : List α} {k : Nat} (hk : k < l.length) : l = l.take k ++ l[k] :: l.drop (k + 1) := by rw [← List.drop_eq_getElem_cons hk, List.take_append_drop]
theorem total_erase {its : List Itm} {k : Nat} (hk : k < its.length) : total its = total (its.eraseIdx k) + charge (its.getD k zero) := by
  rw [List.eraseIdx_eq_take_drop_succ, total_append]
  have e := congrArg total (order_split hk)
  rw [total_append] at e
  rw [List.getD_eq_getElem?_getD, List.getElem?_eq_getElem hk]
  simp only [total, Option.getD_some] at e ⊢
  omega

theorem zeroI (w : World) : (zeroValue 3).run Tryz.prog w = .ok (.int .i64 0) w := by kernel_rfl
theorem look_miss {w : World} {hb : Nat} {S : List Nat} {lim nx lost : Int} {its : List Itm} {gl : Nat} {gf : Option Nat} {bm : Nat} {ls : List Lnk} {free order : List Nat} {cl : Nat} {vf : Value} {D : DataW Unit} {key : ByteArray}
    (hp : Parts w hb S lim nx lost its gl gf bm ls free order cl vf D) (hkey : key.size ≤ maxLen) (hn : atN its key = none) :
    (Instr.lookup 61 (.map (some bm)) (.string key) true).run Tryz.prog w = .ok (.tuple #[.int .i64 0, .bool false]) w := by
  have hno : Maps.has D (kk key) = false := hp.map.miss key (fun p hpo => at_none hn _ (keys_of hp.items p hpo))
  obtain ⟨v, ps, hrun, hv⟩ := hp.own.look_ok keyLaw Tryz.underlying61 (zeroI w) (plainElem_int (H := Unit) (a := 0) Tryz.underlying3 (by decide)) (key := .string key) (kl := kk key) (Go.WideMaps.keyOf_string_mk Tryz.underlying9 hkey)
  rw [Maps.atKey_of_not_has hno] at hv
  obtain ⟨c, rfl, hc, _⟩ := plainElem_int_inv Tryz.underlying3 hv
  simp only [Prod.mk.injEq, DataW.lit.injEq, Lit.int.injEq, true_and] at hc
  rw [hno, ← hc.1] at hrun
  exact hrun
theorem look_hit {w : World} {hb : Nat} {S : List Nat} {lim nx lost : Int} {its : List Itm} {gl : Nat} {gf : Option Nat} {bm : Nat} {ls : List Lnk} {free order : List Nat} {cl : Nat} {vf : Value} {D : DataW Unit} {key : ByteArray} {k : Nat}
    (hp : Parts w hb S lim nx lost its gl gf bm ls free order cl vf D) (hkey : key.size ≤ maxLen) (hn : atN its key = some k) :
    ∃ p, (Instr.lookup 61 (.map (some bm)) (.string key) true).run Tryz.prog w = .ok (.tuple #[.int .i64 (p : Nat), .bool true]) w ∧ order = order.take k ++ p :: order.drop (k + 1) ∧ (lk ls p).val = its.getD k zero := by
  obtain ⟨hk, hkk⟩ := at_split hn
  have hko : k < order.length := by rw [← items_len ls order, hp.items]; exact hk
  have hval : (lk ls order[k]).val = its.getD k zero := by
    have := hp.items
    subst this
    simp [itemsOf, List.getD_eq_getElem?_getD, List.getElem?_eq_getElem hko]
  have hh := hp.map.hit order[k] (List.getElem_mem _)
  rw [hval, hkk] at hh
  obtain ⟨v, ps, hrun, hv⟩ := hp.own.look_ok keyLaw Tryz.underlying61 (zeroI w) (plainElem_int (H := Unit) (a := 0) Tryz.underlying3 (by decide)) (key := .string key) (kl := kk key) (Go.WideMaps.keyOf_string_mk Tryz.underlying9 hkey)
  rw [hh.2] at hv
  obtain ⟨c, rfl, hc, _⟩ := plainElem_int_inv Tryz.underlying3 hv
  simp only [Prod.mk.injEq, DataW.lit.injEq, Lit.int.injEq, true_and] at hc
  rw [hh.1, ← hc.1] at hrun
  exact ⟨order[k], hrun, order_split hko, hval⟩

set_option maxRecDepth 10000 in
set_option maxHeartbeats 1000000 in
/-- A key that is not there. -/
theorem take_none (w : World) (hb : Nat) (S : List Nat) (lim nx lost : Int) (its : List Itm) (key : ByteArray) (hs : Shelf w hb S lim nx lost its) (hkey : key.size ≤ maxLen) (hn : atN its key = none) :
    Calls Tryz.prog 56 #[.pointer (some ⟨hb, 0, none⟩), .string key] w fun e w' => e = .returned (.tuple #[.agg #[.string ByteArray.empty, .int .i64 0, .string ByteArray.empty, .int .i64 0, .int .i64 0], .bool false]) ∧ Below w.heap.size w w' := by
  obtain ⟨gl, gf, bm, ls, free, order, cl, vf, D, hp⟩ := hs
  obtain ⟨c0, c1, c2, c3, c4, c5, c6⟩ := hp.mem.box.cells
  have hlt := hp.mem.box.lt
  have hrun := look_miss (hp.keep ((Keeps.refl [] w).alloc (.cells #[.string ⟨#[]⟩, .int .i64 0, .string ⟨#[]⟩, .int .i64 0, .int .i64 0] 71)) (by simp)) hkey hn
  clear c0 c1 c2 c3 c4 c5 hp hn hkey
  go_enter Tryz.func56, Tryz.ntmps56
  go_wp2
  refine bodyPost_ret (v := .tuple #[.agg #[.string ⟨#[]⟩, .int .i64 0, .string ⟨#[]⟩, .int .i64 0, .int .i64 0], .bool false]) (by simp [results, Tryz.results56, go_sem]; done) rfl ⟨rfl, ?_⟩
  exact bel1 w _

theorem take_step {w w0 w1 w2 w3 : World} {hb : Nat} {S : List Nat} {lim nx lost : Int} {its : List Itm} {gl : Nat} {gf gf' : Option Nat} {bm : Nat} {ls : List Lnk} {free order : List Nat} {cl : Nat} {vf vf' : Value} {D : DataW Unit} {key : ByteArray} {k p : Nat}
    (hp : Parts w hb S lim nx lost its gl gf bm ls free order cl vf D) (hn : atN its key = some k) (ho : order = order.take k ++ p :: order.drop (k + 1)) (hv : (lk ls p).val = its.getD k zero)
    (k1 : Keeps ([hb, gl] ++ gf.toList) w w1) (hm1 : Mem w1 hb ⟨lim, nx, total its, lost, .map (some bm)⟩ gl gf' (takeL ls p) (free ++ [p]) cl vf') (hgf : gf' = gf ∨ ∃ g, gf' = some g ∧ w.heap.size ≤ g)
    (hown2 : w2.ownsMap Tryz.prog 9 (plainElem Tryz.prog 3) bm its.length (D.del (kk key))) (hturn : w1.mapTurned w2 bm) (k3 : Keeps [] w2 w3) :
    Step w (w3.setCell ⟨hb, 2, none⟩ (.int .i64 (total its - charge (its.getD k zero)))) hb S lim nx lost (its.eraseIdx k) := by
  obtain ⟨hk, hkk⟩ := at_split hn
  have hG : Chain.Good ls free (order.take k ++ p :: order.drop (k + 1)) := by rw [← ho]; exact hp.good
  have hbl : bm < w.heap.size := hp.own.lt
  have hg3 : gf' ≠ some bm := by
    rcases hgf with e | ⟨g, e, hge⟩
    · rw [e]; exact hp.m3
    · rw [e]; intro e2; simp at e2; omega
  have k2 := keeps_turned hturn
  have hm2 := hm1.keep k2 (by simp; exact Ne.symm hp.m1) (by simp; exact Ne.symm hp.m2) (fun g hg => by simp; intro e; exact hg3 (by rw [hg, e]))
  have hm3 := hm2.keep k3 (by simp) (by simp) (by simp)
  have hitems : itemsOf ls (order.take k ++ order.drop (k + 1)) = its.eraseIdx k := by
    rw [List.eraseIdx_eq_take_drop_succ, ← hp.items]
    simp [itemsOf]
  have hkn : ∀ q ∈ order.take k ++ order.drop (k + 1), (lk ls q).val.key ≠ (lk ls p).val.key := by
    intro q hq e
    have h1 := hp.keys
    rw [order_split hk, List.map_append, List.map_cons, List.nodup_append] at h1
    have hpk : (lk ls p).val.key = its[k].key := by rw [hv, List.getD_eq_getElem?_getD, List.getElem?_eq_getElem hk]; rfl
    rw [hpk] at e
    have e1 : itemsOf ls (order.take k) = its.take k := by rw [← hp.items]; simp [itemsOf]
    have e2 : itemsOf ls (order.drop (k + 1)) = its.drop (k + 1) := by rw [← hp.items]; simp [itemsOf]
    rcases List.mem_append.1 hq with h2 | h2
    · exact h1.2.2 _ (List.mem_map_of_mem (keys_of e1 q h2)) _ (by simp) e
    · exact (List.nodup_cons.1 h1.2.1).1 (e ▸ List.mem_map_of_mem (keys_of e2 q h2))
  have hmap : MapIs (D.del (kk key)) (takeL ls p) (order.take k ++ order.drop (k + 1)) := by
    have h0 : MapIs D ls (order.take k ++ p :: order.drop (k + 1)) := by rw [← ho]; exact hp.map
    have h1 := h0.del (hp.own.tidy keyLaw) hkn
    rw [hv, hkk] at h1
    obtain ⟨ha, hb', _, _⟩ := mid_lt hG
    exact h1.congr (fun q _ => (takeL_at ha hb' q).1)
  have hsz : (its.eraseIdx k).length = its.length - 1 := List.length_eraseIdx_of_lt hk
  have ht : total its - charge (its.getD k zero) = total (its.eraseIdx k) := by rw [total_erase hk]; omega
  rw [ht]
  refine ⟨[hb, gl, bm] ++ gf'.toList, ⟨gl, gf', bm, takeL ls p, free ++ [p], order.take k ++ order.drop (k + 1), cl, vf', D.del (kk key), ?_⟩, ?_, ?_⟩
  · refine ⟨mem_set hm3 (box_set2 hm3.box _), hG.take, ?_, ?_, ?_, hmap, hp.m1, hp.m2, hg3, rfl, ?_, ?_⟩
    · rw [items_take hG, hitems]
    · rw [takeL_len]; exact hp.len
    · have h1 := (k3.map hown2 (by simp)).setCell (a := ⟨hb, 2, none⟩) hp.m1 (.int .i64 (total (its.eraseIdx k)))
      refine map_tight h1 ?_
      rw [hmap.size, hsz]
      have : order.length = its.length := by rw [← hp.items, items_len]
      simp
      omega
    · exact hp.keys.sublist ((List.eraseIdx_sublist its k).map Itm.key)
    · exact fun x hx => hp.small x (List.eraseIdx_subset hx)
  · intro b hbm
    rw [hp.blocks]
    simp only [List.mem_append, List.mem_cons, List.not_mem_nil, or_false, Option.mem_toList] at hbm ⊢
    rcases hbm with (h1 | h1 | h1) | h1
    · exact .inl (.inl (.inl h1))
    · exact .inl (.inl (.inr (.inl h1)))
    · exact .inl (.inl (.inr (.inr h1)))
    · rcases hgf with e | ⟨g, e, hge⟩
      · exact .inl (.inr (e ▸ h1))
      · rw [e] at h1; simp at h1; exact .inr (by omega)
  · have k1' : Keeps S w w1 := k1.mono (fun y hy => by rw [hp.blocks]; simp only [List.mem_append, List.mem_cons, List.not_mem_nil, or_false] at hy ⊢; rcases hy with (e | e) | e <;> simp [e])
    exact ((k1'.trans k2 (fun y hy => .inl (by rw [hp.blocks]; simp at hy ⊢; simp [hy]))).trans k3 (by simp)).setCell (.inl (by rw [hp.blocks]; simp)) _

/-- The box of what is handed back, the call's first block, is written at the end. -/
theorem Step.result {w w4 w5 : World} {o : Obj} {hb : Nat} {S : List Nat} {lim nx lost : Int} {its : List Itm} (h : Step (w.alloc o) w4 hb S lim nx lost its) (ho : One w4 w5 w.heap.size) (hS : ∀ b ∈ S, b < w.heap.size) : Step w w5 hb S lim nx lost its := by
  obtain ⟨S', hs, hS', hk⟩ := h
  have hk5 : Keeps [w.heap.size] w4 w5 := ⟨ho.os, ho.tape, ho.output, ho.size, fun k _ hn => ho.block k (by simpa using hn)⟩
  refine ⟨S', hs.keep hk5 (fun b hb' => ?_), fun b hb' => ?_, ?_⟩
  · rcases hS' b hb' with h1 | h1
    · have := hS b h1; simp; omega
    · simp at h1; simp; omega
  · exact (hS' b hb').imp id (fun e => by simp at e; omega)
  · exact (((Keeps.refl S w).alloc o).trans hk (fun y hy => .inl hy)).trans hk5 (fun y hy => by simp at hy; right; omega)

set_option maxRecDepth 10000 in
set_option maxHeartbeats 2000000 in
/-- A key that is there: its item goes, and is handed back. -/
theorem take_some (w : World) (hb : Nat) (S : List Nat) (lim nx lost : Int) (its : List Itm) (key : ByteArray) (k : Nat) (hs : Shelf w hb S lim nx lost its) (hl : its.length ≤ 100) (hkey : key.size ≤ maxLen) (hn : atN its key = some k) :
    Calls Tryz.prog 56 #[.pointer (some ⟨hb, 0, none⟩), .string key] w fun e w' => e = .returned (.tuple #[itemV (its.getD k zero), .bool true]) ∧ Step w w' hb S lim nx lost (its.eraseIdx k) := by
  obtain ⟨gl, gf, bm, ls, free, order, cl, vf, D, hp⟩ := hs
  obtain ⟨c0, c1, c2, c3, c4, c5, c6⟩ := hp.mem.box.cells
  have hlt := hp.mem.box.lt
  have hp1 := hp.keep ((Keeps.refl [] w).alloc (.cells #[.string ⟨#[]⟩, .int .i64 0, .string ⟨#[]⟩, .int .i64 0, .int .i64 0] 71)) (by simp)
  obtain ⟨p, hrun, ho, hv⟩ := look_hit hp1 hkey hn
  have hkl : keyOf Tryz.prog 9 (.string key) = some (kk key) := Go.WideMaps.keyOf_string_mk Tryz.underlying9 hkey
  have hsm : Small (its.getD k zero) := small_getD hp.small k (at_split hn).1
  have htot := total_small hp.small (by omega)
  have hch : 0 ≤ charge (its.getD k zero) ∧ charge (its.getD k zero) ≤ 2097162 := by have := hsm; unfold Small at this; unfold charge; omega
  have HO := hide ho
  have HV := hide hv
  have HP := hide hp
  have HP1 := hide hp1
  have HKL := hide hkl
  have HN := hide hn
  have HSM := hide hsm
  have hws : w.heap.size ∉ [hb, gl] ++ gf.toList := by
    have h1 := hp.lt
    have h2 : ∀ y ∈ [hb, gl] ++ gf.toList, y < w.heap.size := fun y hy => h1 y (by
      rw [hp.blocks]
      simp only [List.mem_append, List.mem_cons, List.not_mem_nil, or_false] at hy ⊢
      rcases hy with (e | e) | e <;> simp [e])
    intro h3
    have := h2 _ h3
    omega
  clear c0 c1 c2 c3 c4 c5 hp hp1 ho hv hkl hn hkey hsm
  go_enter Tryz.func56, Tryz.ntmps56
  go_wp2_with fail
  refine (take_any _ hb _ gl gf ls free (order.take k) (order.drop (k + 1)) p cl vf (unhide HP1).mem (by have := (unhide HP1).good; rw [unhide HO] at this; exact this) (by have := (unhide HP1).len; omega)).mono ?_
  rintro e w1 ⟨gf1, vf1, rfl, hm1, hgf1, hk1⟩
  rw [unhide HV]
  simp only [World.size_alloc] at hgf1
  obtain ⟨d0, d1, d2, d3, d4, d5, d6⟩ := hm1.box.cells
  have hlt1 := hm1.box.lt
  have hr1 := fun o => hk1.cell (b := w.heap.size) (o := o) (by simp) hws
  have hrf1 := fun o => hk1.frozen (b := w.heap.size) (o := o) (by simp) hws
  have hzw : w.heap.size < w1.heap.size := by have := hk1.size; simp at this; omega
  have hbm1 : bm ∉ [hb, gl] ++ gf.toList := by
    have h1 := (unhide HP).m1
    have h2 := (unhide HP).m2
    have h3 := (unhide HP).m3
    simp only [List.mem_append, List.mem_cons, List.not_mem_nil, or_false, Option.mem_toList, not_or]
    exact ⟨⟨h1, h2⟩, h3⟩
  have hown1 := hide (hk1.map (unhide HP1).own hbm1)
  have HK1 := hide hk1
  have HM1 := hide hm1
  have HGF : Hid (gf1 = gf ∨ ∃ g, gf1 = some g ∧ (w.alloc (.cells #[.string ⟨#[]⟩, .int .i64 0, .string ⟨#[]⟩, .int .i64 0, .int .i64 0] 71)).heap.size ≤ g) := by
    show _ ∨ _
    rw [World.size_alloc]
    exact hgf1
  have hbmlt := (unhide HP).own.lt
  have hbmh := (unhide HP).m1
  clear d0 d1 d2 d3 d4 d5 hk1 hm1 hgf1
  generalize hx : its.getD k zero = x at HSM hch
  go_wp2_with (at_delete; go_loud (refine wpList_delete_own _ rfl _ _ 61 9 rfl 3 keyLaw Tryz.underlying61 _ bm its.length D rfl ((unhide hown1).alloc _) _ _ rfl (unhide HKL) ?_))
  intro w2 hown2 hturn2
  have hg2 := hturn2.grown
  have hm1' := (unhide HM1).keep ((Keeps.refl [] w1).alloc (.cells #[.string x.key, .int .i64 x.flags, .string x.data, .int .i64 x.upto, .int .i64 x.token] 71)) (by simp) (by simp) (by simp)
  have hb2 := hm1'.box.of_block (hg2.block hb hm1'.box.lt (by simp; exact Ne.symm hbmh))
  obtain ⟨e0, e1, e2, e3, e4, e5, e6⟩ := hb2.cells
  have f2 := hb2.frozen 2
  have hlt2 := hb2.lt
  have hz2 : w1.heap.size < w2.heap.size := by have := hg2.size; simp at this; omega
  have hix : ∀ o, w2.cell? ⟨w1.heap.size, o, none⟩ = (w1.alloc (.cells #[.string x.key, .int .i64 x.flags, .string x.data, .int .i64 x.upto, .int .i64 x.token] 71)).cell? ⟨w1.heap.size, o, none⟩ := fun o => World.cell?_of_block (a := ⟨w1.heap.size, o, none⟩) (hg2.block w1.heap.size (by simp) (by simp; omega))
  have hrb := (hg2.block w.heap.size (by simp; omega) (by simp; omega)).trans (Below.heap_alloc _ _ _ hzw)
  have hrx : ∀ o, w2.cell? ⟨w.heap.size, o, none⟩ = w1.cell? ⟨w.heap.size, o, none⟩ := fun o => World.cell?_of_block (a := ⟨w.heap.size, o, none⟩) hrb
  have hrfx : ∀ o, w2.frozen? ⟨w.heap.size, o, none⟩ = w1.frozen? ⟨w.heap.size, o, none⟩ := fun o => World.frozen?_of_block (a := ⟨w.heap.size, o, none⟩) hrb
  have HF := hide (fun w3 k3 => take_step (w0 := w) (w3 := w3) (unhide HP1) (unhide HN) (unhide HO) (unhide HV) ((unhide HK1).alloc _) hm1' (unhide HGF) hown2 hturn2 k3)
  rw [hx] at HF
  have hcc : IntKind.i64.wrap (total its - charge x) = total its - charge x := by rw [IntKind.wrap_i64]; omega
  have hcal := fun w => chargeOf_any x w (unhide HSM)
  clear e0 e1 e3 e4 e5 e6 hg2 hm1' hb2 hown2 hturn2 d6 hrun
  generalize charge x = c at HF hch hcc hcal
  generalize total its = t at HF e2 htot hcc
  have HC := hide hcal
  clear hcal
  go_wp2_with fail
  go_region_with (go_at_call 47; refine (unhide HC _).mono ?_; rintro e w3 ⟨rfl, hb3⟩; have g2 := hb3.cell (p := ⟨hb, 2, none⟩) (show hb < w2.drew.heap.size from hlt2); have gf2 := hb3.frozen (p := ⟨hb, 2, none⟩) (show hb < w2.drew.heap.size from hlt2); have gx := fun o => hb3.cell (p := ⟨w1.heap.size, o, none⟩) (show w1.heap.size < w2.drew.heap.size from hz2); have gr := fun o => hb3.cell (p := ⟨w.heap.size, o, none⟩) (show w.heap.size < w2.drew.heap.size by (show w.heap.size < w2.heap.size; omega)); have grf := fun o => hb3.frozen (p := ⟨w.heap.size, o, none⟩) (show w.heap.size < w2.drew.heap.size by (show w.heap.size < w2.heap.size; omega)); have HB3 := hide hb3; clear hb3)
  all_goals
    have k3 : Keeps [] w2 w3 := (Keeps.refl [] w2).drew.trans (Keeps.of_below (S := []) (unhide HB3) (fun _ h1 _ => h1)) (by simp)
    have HF4 := hide (unhide HF w3 k3)
    have O4 := (One.refl w3 hb).set 2 (.int .i64 (t - c))
    have j0 : ∀ o, (w3.setCell ⟨hb, 2, none⟩ (.int .i64 (t - c))).cell? ⟨w1.heap.size, o, none⟩ = (w1.alloc (.cells #[.string x.key, .int .i64 x.flags, .string x.data, .int .i64 x.upto, .int .i64 x.token] 71)).cell? ⟨w1.heap.size, o, none⟩ := fun o => (World.cell?_of_block (a := ⟨w1.heap.size, o, none⟩) (O4.block _ (by simp; omega))).trans ((gx o).trans (hix o))
    have j1 : ∀ o, (w3.setCell ⟨hb, 2, none⟩ (.int .i64 (t - c))).cell? ⟨w.heap.size, o, none⟩ = (w.alloc (.cells #[.string ⟨#[]⟩, .int .i64 0, .string ⟨#[]⟩, .int .i64 0, .int .i64 0] 71)).cell? ⟨w.heap.size, o, none⟩ := fun o => (World.cell?_of_block (a := ⟨w.heap.size, o, none⟩) (O4.block _ (by simp; omega))).trans ((gr o).trans ((hrx o).trans (hr1 o)))
    have j2 : ∀ o, (w3.setCell ⟨hb, 2, none⟩ (.int .i64 (t - c))).frozen? ⟨w.heap.size, o, none⟩ = (w.alloc (.cells #[.string ⟨#[]⟩, .int .i64 0, .string ⟨#[]⟩, .int .i64 0, .int .i64 0] 71)).frozen? ⟨w.heap.size, o, none⟩ := fun o => (World.frozen?_of_block (a := ⟨w.heap.size, o, none⟩) (O4.block _ (by simp; omega))).trans ((grf o).trans ((hrfx o).trans (hrf1 o)))
    clear O4 gx gr grf hix hrx hrfx hr1 hrf1 g2 gf2 e2 f2 hlt2 hz2 hrb HB3 k3
    generalize (w3.setCell ⟨hb, 2, none⟩ (.int .i64 (t - c))) = w4 at HF4 j0 j1 j2 ⊢
    go_wp2
    refine bodyPost_ret (v := .tuple #[itemV x, .bool true]) (by simp [results, Tryz.results56, go_sem, itemV, j1]; done) rfl ⟨by rw [hx], ?_⟩
    refine (unhide HF4).result ?_ ?_
    · repeat (refine One.set ?_ _ _)
      exact One.refl _ _
    · exact (unhide HP).lt
end Shelf
end Go.Proofs.YthlcmnjaimffdaaGreatDoor
/-
  The program's shelf: isOld, dropOld.
-/
namespace Go.Proofs.YthlcmnjaimffdaaGreatDoor
namespace Shelf
open Go.RowKit Base Items Keep Own Chain Store
set_option linter.unusedVariables false

set_option maxRecDepth 10000 in
set_option maxHeartbeats 400000 in
theorem isOld_any (x : Itm) (now : Int) (w : World) :
    Calls Tryz.prog 55 #[.agg #[.string x.key, .int .i64 x.flags, .string x.data, .int .i64 x.upto, .int .i64 x.token], .int .i64 now] w fun e w' => e = .returned (.bool (oldB x now)) ∧ Below w.heap.size w w' := by
  cases h : (x.upto != 0)
  · have H : Hid (oldB x now = false) := by show oldB x now = false; rw [oldB, h]; rfl
    go_enter Tryz.func55, Tryz.ntmps55
    go_wp2
    go_ret
    exact ⟨ret_bool (unhide H).symm, bel1 w _⟩
  · have H : Hid (oldB x now = decide (x.upto ≤ now)) := by show oldB x now = _; rw [oldB, h]; rfl
    go_enter Tryz.func55, Tryz.ntmps55
    go_wp2
    go_ret
    exact ⟨ret_bool (unhide H).symm, bel1 w _⟩

theorem step_refl {w : World} {hb : Nat} {S : List Nat} {lim nx lost : Int} {its : List Itm} (h : Shelf w hb S lim nx lost its) : Step w w hb S lim nx lost its := ⟨S, h, fun b hb' => .inl hb', Keeps.refl _ _⟩
/-- Steps one behind the other, with what lies between. -/
theorem step_go {w w1 w2 : World} {hb : Nat} {S S1 : List Nat} {lim nx lost : Int} {its : List Itm} (hk : Keeps S w w1) (hS : ∀ b ∈ S1, b ∈ S ∨ w.heap.size ≤ b) (h : Step w1 w2 hb S1 lim nx lost its) : Step w w2 hb S lim nx lost its := by
  obtain ⟨S2, hs, hS2, hk2⟩ := h
  exact ⟨S2, hs, fun b hb' => (hS2 b hb').elim (hS b) (fun e => .inr (Nat.le_trans hk.size e)), hk.trans hk2 hS⟩
theorem at_mid {l1 l2 : List Itm} {x : Itm} (h : ((l1 ++ x :: l2).map Itm.key).Nodup) : atN (l1 ++ x :: l2) x.key = some l1.length := by
  rw [List.map_append, List.map_cons, List.nodup_append] at h
  refine atN_hit (by simp) (fun j hj => ?_) ?_
  · rw [List.getD_eq_getElem?_getD, List.getElem?_append_left hj, List.getElem?_eq_getElem hj]
    cases e : hasKey x.key l1[j]
    · exact e
    · exact absurd ((hasKey_iff _ _).1 e) (h.2.2 _ (List.mem_map_of_mem (List.getElem_mem hj)) _ (by simp))
  · simp [List.getD_eq_getElem?_getD]
    exact (hasKey_iff _ _).2 rfl
theorem erase_mid {α : Type} (l1 l2 : List α) (x : α) : (l1 ++ x :: l2).eraseIdx l1.length = l1 ++ l2 := by
  rw [List.eraseIdx_append_of_length_le (Nat.le_refl _)]
  simp
theorem get_mid (l1 l2 : List Itm) (x : Itm) : (l1 ++ x :: l2).getD l1.length zero = x := by simp [List.getD_eq_getElem?_getD]

/-- The items behind k rounds of dropOld. -/
def mid (its : List Itm) (now : Int) (k : Nat) : List Itm := keepB (its.take k) now ++ its.drop k
theorem mid_0 (its : List Itm) (now : Int) : mid its now 0 = its := by simp [mid, keepB]
theorem mid_all (its : List Itm) (now : Int) : mid its now its.length = keepB its now := by simp [mid]
theorem mid_cons (its : List Itm) (now : Int) {k : Nat} (hk : k < its.length) : mid its now k = keepB (its.take k) now ++ its.getD k zero :: its.drop (k + 1) := by
  unfold mid
  rw [List.drop_eq_getElem_cons hk, List.getD_eq_getElem?_getD, List.getElem?_eq_getElem hk]
  rfl
theorem mid_old (its : List Itm) (now : Int) {k : Nat} (hk : k < its.length) (h : oldB (its.getD k zero) now = true) : mid its now (k + 1) = keepB (its.take k) now ++ its.drop (k + 1) := by
  unfold mid
  rw [keep_step its now k hk, if_pos h, List.append_nil]
theorem mid_new (its : List Itm) (now : Int) {k : Nat} (hk : k < its.length) (h : oldB (its.getD k zero) now = false) : mid its now (k + 1) = mid its now k := by
  rw [mid_cons its now hk]
  unfold mid
  rw [keep_step its now k hk, if_neg (by rw [h]; simp)]
  simp
theorem mid_len (its : List Itm) (now : Int) (k : Nat) : (mid its now k).length ≤ its.length := by
  have := keep_len its now k
  unfold mid
  have h2 : (keepB (its.take k) now).length ≤ (its.take k).length := List.length_filter_le _ _
  simp at h2 ⊢
  omega

theorem row_at {w : World} {t : TypeId} {g cap : Nat} {its : List Itm} (h : Row w t 5 g its.length cap (flat its)) {k : Nat} (hk : k < its.length) : At w g (k * 5) (its.getD k zero) := by
  have hc : ∀ i, i < 5 → w.cell? ⟨g, k * 5 + i, none⟩ = some (icell its (k * 5 + i)) := fun i hi => Row.cell h (flat_get its _ (by omega))
  refine ⟨?_, ?_, ?_, ?_, ?_⟩
  · have := hc 0 (by omega); rw [Nat.add_zero] at this; rw [this, icell, show (k * 5) % 5 = 0 by omega, show (k * 5) / 5 = k by omega]; simp
  · rw [hc 1 (by omega), icell, show (k * 5 + 1) % 5 = 1 by omega, show (k * 5 + 1) / 5 = k by omega]; simp
  · rw [hc 2 (by omega), icell, show (k * 5 + 2) % 5 = 2 by omega, show (k * 5 + 2) / 5 = k by omega]; simp
  · rw [hc 3 (by omega), icell, show (k * 5 + 3) % 5 = 3 by omega, show (k * 5 + 3) / 5 = k by omega]; simp
  · rw [hc 4 (by omega), icell, show (k * 5 + 4) % 5 = 4 by omega, show (k * 5 + 4) / 5 = k by omega]; simp
theorem shelf_keys {w : World} {hb : Nat} {S : List Nat} {lim nx lost : Int} {its : List Itm} (h : Shelf w hb S lim nx lost its) : (its.map Itm.key).Nodup ∧ ∀ x ∈ its, Small x := by
  obtain ⟨gl, gf, bm, ls, free, order, cl, vf, D, hp⟩ := h
  exact ⟨hp.keys, hp.small⟩

set_option maxRecDepth 10000 in
set_option maxHeartbeats 2000000 in
theorem dropOld_shelf (w : World) (hb : Nat) (S : List Nat) (lim nx lost : Int) (its : List Itm) (now : Int) (hs : Shelf w hb S lim nx lost its) (hl : its.length ≤ 100) :
    Calls Tryz.prog 27 #[.pointer (some ⟨hb, 0, none⟩), .int .i64 now] w fun e w' => e = .returned (.int .i64 (its.length - (keepB its now).length)) ∧ Step w w' hb S lim nx lost (keepB its now) := by
  have HS := hide hs
  obtain ⟨gl, gf, bm, ls, free, order, cl, vf, D, hp⟩ := hs
  have hol : order.length = its.length := by rw [← hp.items, items_len]
  have hval := fun w' (hk : Below w.heap.size w w') => values_any w' hb _ gl gf ls free order cl vf (hp.keep (Keeps.of_below (S := []) hk (fun _ h1 _ => h1)) (by simp)).mem hp.good (by have := hp.len; omega)
  rw [hp.items, hol] at hval
  have HV := hide hval
  have hSl := hide (hp.lt)
  clear hval hp
  go_enter Tryz.func27, Tryz.ntmps27
  go_wp2_with fail
  refine (unhide HV _ (Below.refl _ _)).mono ?_
  rintro e w1 ⟨va, vc, rfl, hown, hb1⟩
  have HO := hide hown
  have HB1 := hide hb1
  have HS1 := hide ((unhide HS).below hb1)
  clear hown hb1 HV
  have hz1 : w.heap.size ≤ w1.heap.size := (unhide HB1).size
  go_wp2_with fail
  go_loopw [5, 13] (fun t i wr => ∃ (k : Nat) (z : Int), k ≤ its.length ∧ i = .int .i64 k ∧ t = .int .i64 z ∧ Hid (z = k - (keepB (its.take k) now).length) ∧ Hid (Step w1 wr hb S lim nx lost (mid its now k))) (fun _ i _ => its.length - (intOf i).toNat)
  case atStart => exact ⟨0, 0, Nat.zero_le _, rfl, rfl, hide (by simp [keepB]), hide (by rw [mid_0]; exact step_refl (unhide HS1))⟩
  case round =>
    obtain ⟨k, z, hk, rfl, rfl, hz, hst⟩ := hrel
    obtain ⟨Sk, hsk, hSk, hkk⟩ := unhide hst
    by_cases hlt : k < its.length
    · obtain ⟨g, cap, hva, hg, hrow⟩ := Row.of_owns (unhide HO) (by omega)
      simp only [Value.slice.injEq, true_and] at hva
      obtain ⟨rfl, rfl⟩ := hva
      have hgS : g ∉ S := fun hm => by have := unhide hSl g hm; omega
      have hrow2 := hrow.keep hkk hgS
      obtain ⟨c0, c1, c2, c3, c4⟩ := row_at hrow2 hlt
      have hkz : (keepB (its.take k) now).length ≤ k := keep_len its now k
      have hzb : 0 ≤ z ∧ z ≤ 100 := by have := unhide hz; omega
      have hkl := hide (keep_step its now k hlt)
      have hm1 := hide (mid_cons its now hlt)
      have hm2 := hide (mid_old its now hlt)
      have hm3 := hide (mid_new its now hlt)
      have hks := hide (shelf_keys hsk)
      have hml := mid_len its now k
      have HSK := hide hsk
      have HSS := hide hSk
      have HKK := hide hkk
      clear hrow hrow2 hsk hSk hkk hst
      generalize its.getD k zero = x at c0 c1 c2 c3 c4 hkl hm1 hm2 hm3
      cases ho : oldB x now
      · rw [ho] at hkl
        have H3 := hide (unhide hm3 ho)
        have HO' := hide ho
        clear ho hm1 hm2 hm3
        go_wp2_with fail
        refine (isOld_any x now _).mono ?_
        rintro e w2 ⟨rfl, hb2⟩
        rw [unhide HO']
        have K2 := hide ((Keeps.refl [] wr).alloc (.cells #[.string x.key, .int .i64 x.flags, .string x.data, .int .i64 x.upto, .int .i64 x.token] 71) |>.trans (Keeps.of_below (S := []) hb2 (fun _ h1 _ => h1)) (by simp))
        clear hb2
        go_wp2
        go_roundw
        case rel =>
          refine ⟨k + 1, z, by omega, by go_num, rfl, hide ?_, hide ?_⟩
          · have := unhide hz; rw [unhide hkl]; simp; omega
          · rw [unhide H3]
            exact ⟨Sk, (unhide HSK).keep (unhide K2) (by simp), unhide HSS, (unhide HKK).trans (unhide K2) (by simp)⟩
        case measure => simp [intOf]; omega
      · rw [ho] at hkl
        have H2 := hide (unhide hm2 ho)
        have HO' := hide ho
        clear ho hm2 hm3
        go_wp2_with fail
        refine (isOld_any x now _).mono ?_
        rintro e w2 ⟨rfl, hb2⟩
        rw [unhide HO']
        simp only [World.size_alloc] at hb2
        have hx2 := boxcell hb2
        have hz2 : wr.heap.size < w2.heap.size := by have := hb2.size; simp at this; omega
        have K2 := hide ((Keeps.refl [] wr).alloc (.cells #[.string x.key, .int .i64 x.flags, .string x.data, .int .i64 x.upto, .int .i64 x.token] 71) |>.trans (Keeps.of_below (S := []) hb2 (fun k h1 _ => by simpa using h1)) (by simp))
        clear hb2
        have hxm : Hid (x.key.size ≤ maxLen) := by
          have h1 := (unhide hks).2 x (by rw [unhide hm1]; simp)
          have h2 := h1.1
          show x.key.size ≤ maxLen
          unfold maxLen
          omega
        have hat : Hid (atN (mid its now k) x.key = some (keepB (its.take k) now).length) := by
          show atN (mid its now k) x.key = _
          have h1 := (unhide hks).1
          rw [unhide hm1] at h1 ⊢
          exact at_mid h1
        go_wp2_with fail
        refine (take_some _ hb Sk lim nx lost (mid its now k) x.key _ ((unhide HSK).keep (unhide K2) (by simp)) (by omega) (unhide hxm) (unhide hat)).mono ?_
        rintro e w3 ⟨rfl, hst3⟩
        have HST : Hid (Step w1 w3 hb S lim nx lost (mid its now (k + 1))) := by
          have h1 := step_go ((unhide HKK).trans (unhide K2) (by simp)) (unhide HSS) hst3
          rw [unhide hm1, erase_mid, ← unhide H2] at h1
          exact h1
        clear hst3 hx2
        go_wp2
        go_roundw
        case rel =>
          refine ⟨k + 1, z + 1, by omega, by go_num, rfl, hide ?_, HST⟩
          have := unhide hz; rw [unhide hkl]; simp; omega
        case measure => simp [intOf]; omega
    · obtain rfl : k = its.length := by omega
      have hz' : Hid (z = its.length - (keepB its now).length) := by have := unhide hz; rw [List.take_length] at this; exact this
      have hst' : Hid (Step w w1 hb S lim nx lost its) := ⟨S, unhide HS1, fun b hb' => .inl hb', Keeps.of_below (unhide HB1) (fun k h1 _ => h1)⟩
      have hfin : Hid (Step w wr hb S lim nx lost (keepB its now)) := by
        have h1 := unhide hst
        rw [mid_all] at h1
        exact step_go (Keeps.of_below (unhide HB1) (fun k h1 _ => h1)) (fun b hb' => .inl hb') h1
      clear hz hst hst' hsk hSk hkk
      go_wp2
      go_ret
      exact ⟨ret_int (unhide hz'), unhide hfin⟩
end Shelf
end Go.Proofs.YthlcmnjaimffdaaGreatDoor
/-
  strings.Clone hands back the text; the program's copyOfItem its item.
-/
namespace Go.Proofs.YthlcmnjaimffdaaGreatDoor
namespace Shelf
open Go.RowKit Base Items Keep Own Chain Store
set_option linter.unusedVariables false

theorem clone_runs (s : ByteArray) (w : World) (h0 : s.size ≠ 0) (hs : s.size ≤ 1048576) : ∃ W2 W3 : World,
    (Builtin.copy_ #[115, 9] 3 #[.slice (some ⟨w.heap.size, 0, none⟩) s.size s.size, .string s]).run Tryz.prog (w.alloc (.cells (madeCells #[.int .u8 0] s.size) 5)) = .ok (.int .i64 s.size) W2 ∧
    (Builtin.unsafeString_ #[126, 3] 9 #[.pointer (some ⟨w.heap.size, 0, none⟩), .int .i64 s.size]).run Tryz.prog W2 = .ok (.string s) W3 ∧ W2.heap.size = w.heap.size + 1 ∧ Below w.heap.size w W3 := by
  have hA : (w.alloc (.cells (madeCells #[.int .u8 0] s.size) 5)).heap[w.heap.size]? = some (.cells (madeCells #[.int .u8 0] s.size) 5 (0, 0)) := heap_alloc_new w _
  have hcp := Lib.run_copy_row_string (P := Tryz.prog) (w.alloc (.cells (madeCells #[.int .u8 0] s.size) 5)) 115 9 3 5 w.heap.size 0 s.size s.size s (madeCells #[.int .u8 0] s.size) 5 Tryz.underlying115 (by kernel_rfl) hA (Nat.le_refl _) (by rw [size_madeCells]; omega)
  have el : s.data.toList.length = s.size := by simp
  have ec : ((madeCells #[Value.int .u8 0] s.size).toList.take 0 ++ Lib.byteCells s.data.toList ++ (madeCells #[Value.int .u8 0] s.size).toList.drop (0 + s.size)) = Lib.byteCells s.data.toList := by
    rw [List.take_zero, List.nil_append, List.drop_eq_nil_of_le (by rw [Array.length_toList, size_madeCells]; omega), List.append_nil]
  rw [ec] at hcp
  have hh := setRow_heap (w.alloc (.cells (madeCells #[.int .u8 0] s.size) 5)) w.heap.size _ (Lib.byteCells s.data.toList).toArray _ _ hA
  have hus := Lib.run_unsafeString_row (P := Tryz.prog) ((w.alloc (.cells (madeCells #[.int .u8 0] s.size) 5)).setRow w.heap.size (Lib.byteCells s.data.toList).toArray) 126 3 9 5 Tryz.underlying126 (by kernel_rfl) w.heap.size s.size
    (by unfold World.shape?; rw [hh]; simp [Lib.byteCells_length]) s.data.toList (by intro e; rw [e] at el; simp at el; omega) (by omega) (by omega)
    (fun j x hj => by
      rw [Go.WideShapes.add_plain, Nat.zero_add, cell_setRow_same _ _ _ _ _ _ _ hA]
      simp [Lib.byteCells, hj])
  rw [el] at hus
  refine ⟨_, _, hcp, hus, by simp, ?_⟩
  exact Lib.below_freeze (below_setRow (bel1 w _) (Nat.le_refl _) _) (Nat.le_refl _) _

set_option maxRecDepth 10000 in
set_option maxHeartbeats 1000000 in
theorem sclone_any (s : ByteArray) (w : World) (hs : s.size ≤ 1048576) : Calls Tryz.prog 96 #[.string s] w fun e w' => e = .returned (.string s) ∧ Below w.heap.size w w' := by
  by_cases h0 : s.size = 0
  · have e0 : s = ByteArray.empty := by
      apply Go.WideShapes.bytes_inj
      have : s.data.toList.length = 0 := by simpa using h0
      rw [List.length_eq_zero_iff.1 this]; rfl
    subst e0
    clear h0 hs
    go_enter Tryz.func96, Tryz.ntmps96
    go_wp2
    go_ret
    exact ⟨rfl, Below.refl _ _⟩
  have h0' : ¬ (s.size : Int) = 0 := by omega
  have hmk := fun w => run_make_rows (P := Tryz.prog) 115 5 (.int .u8 0) 1 1 Tryz.underlying115 (by kernel_rfl) .i64 .i64 s.size (by omega) (by omega) w
  rw [Nat.mul_one] at hmk
  have hmk' : (Instr.makeSlice 115 (.int .i64 s.size) (.int .i64 s.size)).run Tryz.prog w = .ok (.slice (some ⟨w.heap.size, 0, none⟩) s.size s.size) (w.alloc (.cells (madeCells #[.int .u8 0] s.size) 5)) := hmk w
  obtain ⟨W2, W3, hcp, hus, hz, hb⟩ := clone_runs s w h0 hs
  have HB := hide hb
  have hpos : (0 : Int) < s.size := by omega
  clear hmk hb
  go_enter Tryz.func96, Tryz.ntmps96
  go_wp2
  go_ret
  exact ⟨rfl, unhide HB⟩

set_option maxRecDepth 10000 in
set_option maxHeartbeats 1000000 in
theorem clone_any (s : ByteArray) (w : World) (hs : s.size ≤ 1048576) : Calls Tryz.prog 80 #[.string s] w fun e w' => e = .returned (.string s) ∧ Below w.heap.size w w' := by
  go_enter Tryz.func80, Tryz.ntmps80
  go_wp2_with fail
  refine (sclone_any s _ hs).mono ?_
  rintro e w1 ⟨rfl, hb1⟩
  have HB := hide hb1
  clear hb1
  go_wp2
  go_ret
  exact ⟨rfl, unhide HB⟩

set_option maxRecDepth 10000 in
set_option maxHeartbeats 1000000 in
theorem copyOf_any (x : Itm) (w : World) (hx : Small x) : Calls Tryz.prog 60 #[.agg #[.string x.key, .int .i64 x.flags, .string x.data, .int .i64 x.upto, .int .i64 x.token]] w fun e w' => e = .returned (itemV x) ∧ Below w.heap.size w w' := by
  obtain ⟨h1, h2⟩ := hx
  go_enter Tryz.func60, Tryz.ntmps60
  go_wp2_with fail
  refine (clone_any x.key _ h1).mono ?_
  rintro e w1 ⟨rfl, hb1⟩
  have B1 := hide ((bel2 w _ _).trans (hb1.mono (by simp; omega)))
  simp only [World.size_alloc] at hb1
  have q1 := fun o => hb1.cell (p := ⟨w.heap.size, o, none⟩) (by simp; omega)
  have q2 := fun o => hb1.cell (p := ⟨w.heap.size + 1, o, none⟩) (by simp)
  have p1 := fun o => hb1.frozen (p := ⟨w.heap.size, o, none⟩) (by simp; omega)
  have p2 := fun o => hb1.frozen (p := ⟨w.heap.size + 1, o, none⟩) (by simp)
  have hz1 : w.heap.size + 1 < w1.heap.size := by have := hb1.size; simp at this; omega
  clear hb1
  go_wp2_with fail
  refine (clone_any x.data _ h2).mono ?_
  rintro e w2 ⟨rfl, hb2⟩
  have hsz : (w1.setCell ⟨w.heap.size, 0, none⟩ (.string x.key)).heap.size = w1.heap.size := by simp [World.setCell]
  rw [hsz] at hb2
  have B2 := hide (((unhide B1).setCell (p := ⟨w.heap.size, 0, none⟩) (Nat.le_refl _) (.string x.key)).trans (hb2.mono (by omega)))
  have r1 := fun o => hb2.cell (p := ⟨w.heap.size, o, none⟩) (by simp; omega)
  have r2 := fun o => hb2.cell (p := ⟨w.heap.size + 1, o, none⟩) (by simp; omega)
  have s1 := fun o => hb2.frozen (p := ⟨w.heap.size, o, none⟩) (by simp; omega)
  have s2 := fun o => hb2.frozen (p := ⟨w.heap.size + 1, o, none⟩) (by simp; omega)
  clear hb2 hsz
  go_wp2
  refine bodyPost_ret (v := itemV x) (by simp [results, Tryz.results60, go_sem, itemV, r2, q2]; done) rfl ⟨rfl, ?_⟩
  repeat (refine Below.setCell ?_ (by first | (simp; done) | (simp; omega)) _)
  exact unhide B2
end Shelf
end Go.Proofs.YthlcmnjaimffdaaGreatDoor
/-
  The program's shelf: store, find.
-/
namespace Go.Proofs.YthlcmnjaimffdaaGreatDoor
namespace Shelf
open Go.RowKit Base Items Keep Own Chain Store
set_option linter.unusedVariables false

theorem set_self {α : Type} {xs : List α} {j : Nat} {v : α} (h : xs[j]? = some v) : xs.set j v = xs := by
  obtain ⟨hj, rfl⟩ := List.getElem?_eq_some_iff.1 h
  simp
/-- An item is written over itself. -/
theorem row_same {w : World} {t : TypeId} {g cap : Nat} {its : List Itm} (h : Row w t 5 g its.length cap (flat its)) {k : Nat} (hk : k < its.length) {x : Itm} (hx : x = its.getD k zero) :
    Row (((((w.setCell ⟨g, k * 5, none⟩ (.string x.key)).setCell ⟨g, k * 5 + 1, none⟩ (.int .i64 x.flags)).setCell ⟨g, k * 5 + 2, none⟩ (.string x.data)).setCell ⟨g, k * 5 + 3, none⟩ (.int .i64 x.upto)).setCell ⟨g, k * 5 + 4, none⟩ (.int .i64 x.token)) t 5 g its.length cap (flat its) := by
  subst hx
  have e0 : (flat its)[k * 5]? = some (.string (its.getD k zero).key) := by rw [flat_get its _ (by omega), icell, show (k * 5) % 5 = 0 by omega, show (k * 5) / 5 = k by omega]; simp
  have e1 : (flat its)[k * 5 + 1]? = some (.int .i64 (its.getD k zero).flags) := by rw [flat_get its _ (by omega), icell, show (k * 5 + 1) % 5 = 1 by omega, show (k * 5 + 1) / 5 = k by omega]; simp
  have e2 : (flat its)[k * 5 + 2]? = some (.string (its.getD k zero).data) := by rw [flat_get its _ (by omega), icell, show (k * 5 + 2) % 5 = 2 by omega, show (k * 5 + 2) / 5 = k by omega]; simp
  have e3 : (flat its)[k * 5 + 3]? = some (.int .i64 (its.getD k zero).upto) := by rw [flat_get its _ (by omega), icell, show (k * 5 + 3) % 5 = 3 by omega, show (k * 5 + 3) / 5 = k by omega]; simp
  have e4 : (flat its)[k * 5 + 4]? = some (.int .i64 (its.getD k zero).token) := by rw [flat_get its _ (by omega), icell, show (k * 5 + 4) % 5 = 4 by omega, show (k * 5 + 4) / 5 = k by omega]; simp
  have h0 := row_set h (j := k * 5) (by omega) (.string (its.getD k zero).key)
  rw [set_self e0] at h0
  have h1 := row_set h0 (j := k * 5 + 1) (by omega) (.int .i64 (its.getD k zero).flags)
  rw [set_self e1] at h1
  have h2 := row_set h1 (j := k * 5 + 2) (by omega) (.string (its.getD k zero).data)
  rw [set_self e2] at h2
  have h3 := row_set h2 (j := k * 5 + 3) (by omega) (.int .i64 (its.getD k zero).upto)
  rw [set_self e3] at h3
  have h4 := row_set h3 (j := k * 5 + 4) (by omega) (.int .i64 (its.getD k zero).token)
  rw [set_self e4] at h4
  exact h4

set_option maxRecDepth 10000 in
set_option maxHeartbeats 2000000 in
theorem store_shelf (w : World) (hb : Nat) (S : List Nat) (lim nx lost : Int) (its : List Itm) (hs : Shelf w hb S lim nx lost its) (hl : its.length ≤ 100) :
    Calls Tryz.prog 29 #[.pointer (some ⟨hb, 0, none⟩)] w fun e w' => ∃ a cap, e = .returned (.agg #[.int .i64 lim, .int .i64 nx, .slice a its.length cap]) ∧
      w'.ownsRow w.heap.size 71 5 (.slice a its.length cap) its.length (flat its) ∧ Below w.heap.size w w' := by
  have hks := hide (shelf_keys hs).2
  obtain ⟨gl, gf, bm, ls, free, order, cl, vf, D, hp⟩ := hs
  have hol : order.length = its.length := by rw [← hp.items, items_len]
  have hval := fun w' (hk : Below w.heap.size w w') => values_any w' hb _ gl gf ls free order cl vf (hp.keep (Keeps.of_below (S := []) hk (fun _ h1 _ => h1)) (by simp)).mem hp.good (by have := hp.len; omega)
  rw [hp.items, hol] at hval
  have HV := hide hval
  have HBX := hide (hp.mem.box)
  have hlt := hp.mem.box.lt
  clear hval hp
  go_enter Tryz.func29, Tryz.ntmps29
  go_wp2_with fail
  refine (unhide HV _ (bel1 w _)).mono ?_
  rintro e w1 ⟨va, vc, rfl, hown, hb1⟩
  simp only [World.size_alloc] at hown hb1
  have HO := hide hown
  have HB1 := hide hb1
  clear hown hb1 HV
  go_wp2_with fail
  go_loopw [12] (fun i wr => ∃ (k : Nat), k ≤ its.length ∧ i = .int .i64 k ∧ Hid (wr.ownsRow (w.heap.size + 1) 71 5 (.slice va its.length vc) its.length (flat its)) ∧ Hid (Below (w.heap.size + 1) (w.alloc (.cells #[.int .i64 0, .int .i64 0, .slice none 0 0] 32)) wr)) (fun i _ => its.length - (intOf i).toNat)
  case atStart => exact ⟨0, Nat.zero_le _, rfl, HO, HB1⟩
  case round =>
    obtain ⟨k, hk, rfl, hown, hbel⟩ := hrel
    have hB : Hid (Below w.heap.size w wr) := (bel1 w _).trans ((unhide hbel).mono (by omega))
    have hzw : w.heap.size + 1 ≤ wr.heap.size := by have := (unhide hbel).size; simp at this; omega
    by_cases hlt' : k < its.length
    · obtain ⟨g, cap, hva, hg, hrow⟩ := Row.of_owns (unhide hown) (by omega)
      simp only [Value.slice.injEq, true_and] at hva
      obtain ⟨rfl, rfl⟩ := hva
      obtain ⟨c0, c1, c2, c3, c4⟩ := row_at hrow hlt'
      have hsm := hide (small_getD (unhide hks) k hlt')
      have hsame := hide (fun (W : World) (h : Row W 71 5 g its.length vc (flat its)) => row_same h hlt' (x := its.getD k zero) rfl)
      have HR := hide hrow
      have hgl := hrow.lt
      have hki : (k : Int) < its.length := by omega
      clear hrow
      have hcc := hide (fun (W : World) (h : Row W 71 5 g its.length vc (flat its)) => row_at h hlt')
      generalize its.getD k zero = x at c0 c1 c2 c3 c4 hsm hsame hcc
      go_wp2_with fail
      refine (copyOf_any x _ (unhide hsm)).mono ?_
      rintro e w2 ⟨rfl, hb2⟩
      simp only [World.size_alloc] at hb2
      have HR2 := hide (((unhide HR).alloc (.cells #[.string x.key, .int .i64 x.flags, .string x.data, .int .i64 x.upto, .int .i64 x.token] 71)).of_block (hb2.block g (by omega)))
      have HB2 := hide (((unhide hbel).alloc (by omega) _).trans (hb2.mono (by omega)))
      obtain ⟨d0, d1, d2, d3, d4⟩ := unhide hcc _ (unhide HR2)
      have fz := fun j => Row.frozen (unhide HR2) j
      clear c0 c1 c2 c3 c4 hb2
      unfold itemV
      go_wp2
      have R5 := unhide hsame _ (unhide HR2)
      have B5 := (((((unhide HB2).setCell (p := ⟨g, k * 5, none⟩) hg (.string x.key)).setCell (p := ⟨g, k * 5 + 1, none⟩) hg (.int .i64 x.flags)).setCell (p := ⟨g, k * 5 + 2, none⟩) hg (.string x.data)).setCell (p := ⟨g, k * 5 + 3, none⟩) hg (.int .i64 x.upto)).setCell (p := ⟨g, k * 5 + 4, none⟩) hg (.int .i64 x.token)
      go_roundw
      case rel => exact ⟨k + 1, by omega, by go_num, hide (R5.owns hg), hide B5⟩
      case measure => simp [intOf]; omega
    · obtain ⟨c0, c1, c2, c3, c4, c5, c6⟩ := ((unhide HBX).of_block ((unhide hB).block hb hlt)).cells
      have hr := fun o => (unhide hbel).cell (p := ⟨w.heap.size, o, none⟩) (by simp)
      have hrf := fun o => (unhide hbel).frozen (p := ⟨w.heap.size, o, none⟩) (by simp)
      clear c2 c3 c4 c5 c6
      go_wp2
      go_region
      go_wp2
      refine bodyPost_ret (v := .agg #[.int .i64 lim, .int .i64 nx, .slice va its.length vc]) (by simp [results, Tryz.results29, go_sem, hr]; done) rfl ⟨va, vc, rfl, ?_, ?_⟩
      · refine own_le (base := w.heap.size + 1) ?_ (by omega)
        show ((((wr.setCell ⟨w.heap.size, 0, none⟩ (.int .i64 lim)).setCell ⟨w.heap.size, 1, none⟩ (.int .i64 nx)).setCell ⟨w.heap.size, 2, none⟩ (.slice va its.length vc))).ownsRow (w.heap.size + 1) _ _ _ _ _
        exact ownsRow_setCell_below (ownsRow_setCell_below (ownsRow_setCell_below (unhide hown) (show w.heap.size < w.heap.size + 1 by omega) _) (show w.heap.size < w.heap.size + 1 by omega) _) (show w.heap.size < w.heap.size + 1 by omega) _
      · exact ((((unhide hB).setCell (p := ⟨w.heap.size, 0, none⟩) (Nat.le_refl _) _).setCell (p := ⟨w.heap.size, 1, none⟩) (Nat.le_refl _) _).setCell (p := ⟨w.heap.size, 2, none⟩) (Nat.le_refl _) _).drew
end Shelf
end Go.Proofs.YthlcmnjaimffdaaGreatDoor
/-
  The program's shelf: find; goodNow; what a good store gives.
-/
namespace Go.Proofs.YthlcmnjaimffdaaGreatDoor
namespace Shelf
open Go.RowKit Base Items Keep Own Chain Store GoodKey
set_option linter.unusedVariables false

theorem kL_kk (x : Itm) : kL x = kk x.key := rfl
theorem good_keys {lim nx : Int} {its : List Itm} (h : gsB lim nx its = true) : its.length ≤ 60 ∧ (∀ x ∈ its, Small x) ∧ (its.map Itm.key).Nodup := by
  unfold gsB at h
  simp only [Bool.and_eq_true, decide_eq_true_eq] at h
  obtain ⟨⟨⟨_, h3⟩, h4⟩, _⟩ := h
  have hg := (goodTo_iff nx its its.length (Nat.le_refl _)).1 h4
  rw [List.take_length] at hg
  refine ⟨by omega, good_small h4, ?_⟩
  have h5 : (its.map kL) = (its.map Itm.key).map kk := by simp [kL_kk]
  have h6 := hg.2.1
  rw [h5] at h6
  exact (List.pairwise_map.1 h6).imp (fun hne e => hne (by rw [e]))

set_option maxRecDepth 10000 in
set_option maxHeartbeats 400000 in
theorem goodNow_any (n : Int) (w : World) : Calls Tryz.prog 24 #[.int .i64 n] w fun e w' => e = .returned (.bool (inB n 0 1000000000)) ∧ w' = w := by
  go_enter Tryz.func24, Tryz.ntmps24
  go_wp2
  all_goals
    go_ret
    refine ⟨ret_bool ?_, rfl⟩
    simp [inB]
    try omega

set_option maxRecDepth 10000 in
set_option maxHeartbeats 1000000 in
theorem find_none (w : World) (hb : Nat) (S : List Nat) (lim nx lost : Int) (its : List Itm) (key : ByteArray) (hs : Shelf w hb S lim nx lost its) (hkey : key.size ≤ maxLen) (hn : atN its key = none) :
    Calls Tryz.prog 89 #[.pointer (some ⟨hb, 0, none⟩), .string key] w fun e w' => e = .returned (findV none) ∧ Below w.heap.size w w' := by
  obtain ⟨gl, gf, bm, ls, free, order, cl, vf, D, hp⟩ := hs
  obtain ⟨c0, c1, c2, c3, c4, c5, c6⟩ := hp.mem.box.cells
  have hlt := hp.mem.box.lt
  have hrun := look_miss (hp.keep ((Keeps.refl [] w).alloc (.cells #[.string ⟨#[]⟩, .int .i64 0, .string ⟨#[]⟩, .int .i64 0, .int .i64 0] 71)) (by simp)) hkey hn
  clear c0 c1 c2 c3 c4 c5 hp hn hkey
  go_enter Tryz.func89, Tryz.ntmps89
  go_wp2
  refine bodyPost_ret (v := .tuple #[.agg #[.string ⟨#[]⟩, .int .i64 0, .string ⟨#[]⟩, .int .i64 0, .int .i64 0], .bool false]) (by simp [results, Tryz.results89, go_sem]; done) rfl ⟨rfl, ?_⟩
  exact bel1 w _

set_option maxRecDepth 10000 in
set_option maxHeartbeats 1000000 in
theorem find_hit (w : World) (hb : Nat) (S : List Nat) (lim nx lost : Int) (its : List Itm) (key : ByteArray) (k : Nat) (hs : Shelf w hb S lim nx lost its) (hkey : key.size ≤ maxLen) (hn : atN its key = some k) :
    Calls Tryz.prog 89 #[.pointer (some ⟨hb, 0, none⟩), .string key] w fun e w' => e = .returned (findV (some (its.getD k zero))) ∧ Below w.heap.size w w' := by
  obtain ⟨gl, gf, bm, ls, free, order, cl, vf, D, hp⟩ := hs
  have hp1 := hp.keep ((Keeps.refl [] w).alloc (.cells #[.string ⟨#[]⟩, .int .i64 0, .string ⟨#[]⟩, .int .i64 0, .int .i64 0] 71)) (by simp)
  obtain ⟨c0, c1, c2, c3, c4, c5, c6⟩ := hp.mem.box.cells
  have hlt := hp.mem.box.lt
  have hgt := Row.lt hp.mem.links
  obtain ⟨p, hrun, ho, hv⟩ := look_hit hp1 hkey hn
  have hpl : p < ls.length := (hp.good.inO p (by rw [ho]; simp)).2
  have hpi : (p : Int) < ls.length := by omega
  obtain ⟨i0, i1, i2, i3, i4⟩ := hp.mem.links.item hpl
  rw [hv] at i0 i1 i2 i3 i4
  generalize its.getD k zero = x at i0 i1 i2 i3 i4
  clear c0 c1 c2 c3 c5 hp hp1 hn hkey ho hv
  go_enter Tryz.func89, Tryz.ntmps89
  go_wp2
  refine bodyPost_ret (v := findV (some x)) (by simp [results, Tryz.results89, go_sem, findV, itemV]; done) rfl ⟨rfl, ?_⟩
  repeat (refine Below.setCell ?_ (by first | (simp; done) | (simp; omega)) _)
  exact bel1 w _

/-- What is found among the items that are not old. -/
theorem find_kept {lim nx : Int} {its : List Itm} {now : Int} {key : ByteArray} (h1 : gsB lim nx its = true) (h2 : inB now 0 1000000000 = true) :
    findB lim nx its now key = (atN (keepB its now) key).map (fun k => (keepB its now).getD k zero) := by
  have hk := (good_keys h1).2.2
  unfold findB
  rw [if_pos h1, if_pos h2]
  cases e : atN (keepB its now) key with
  | some k =>
    obtain ⟨hkl, hkk⟩ := at_split e
    have hmem : (keepB its now).getD k zero ∈ keepB its now := by
      rw [List.getD_eq_getElem?_getD, List.getElem?_eq_getElem hkl]; exact List.getElem_mem _
    simp only [Option.map_some]
    generalize (keepB its now).getD k zero = x at hkk hmem
    obtain ⟨hx, hxo⟩ := List.mem_filter.1 hmem
    obtain ⟨l1, l2, rfl⟩ := List.append_of_mem hx
    rw [← hkk, at_mid hk]
    simp only
    rw [get_mid, if_neg (by simpa using hxo)]
  | none =>
    have hno := at_none e
    cases e2 : atN its key with
    | none => rfl
    | some k =>
      obtain ⟨hkl, hkk⟩ := at_split e2
      have hmem : its.getD k zero ∈ its := by
        rw [List.getD_eq_getElem?_getD, List.getElem?_eq_getElem hkl]; exact List.getElem_mem _
      simp only [Option.map_none]
      cases ho : oldB (its.getD k zero) now
      · exact absurd hkk (hno _ (List.mem_filter.2 ⟨hmem, by rw [ho]; rfl⟩))
      · rfl
end Shelf
end Go.Proofs.YthlcmnjaimffdaaGreatDoor
