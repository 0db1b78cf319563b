/-
  The program's shelf: take, find.
-/
import Derived.Test.YthlcmnjaimffdaaShelfN
import Derived.Test.YthlcmnjaimffdaaStoreE
namespace Go.Proofs.Ythlcmnjaimffdaa
namespace Shelf
open Go.RowKit Base Items Keep Own Chain Store
set_option linter.unusedVariables false

theorem hasKey_iff (key : ByteArray) (x : Itm) : hasKey key x = true ↔ x.key = key := by
  unfold hasKey
  constructor
  · intro h
    by_cases e : x.key = key
    · exact e
    · rw [str_ne e] at h; cases h
  · exact fun h => str_eq h
/-- An item that is there, by its place. -/
theorem at_split {its : List Itm} {key : ByteArray} {k : Nat} (h : atN its key = some k) : k < its.length ∧ (its.getD k zero).key = key := by
  have hk := atN_lt h
  refine ⟨hk, ?_⟩
  unfold atN at h
  have := (List.findIdx?_eq_some_iff_getElem.1 h).2.1
  rw [List.getD_eq_getElem?_getD, List.getElem?_eq_getElem hk]
  exact (hasKey_iff _ _).1 this
theorem at_none {its : List Itm} {key : ByteArray} (h : atN its key = none) : ∀ x ∈ its, x.key ≠ key := by
  unfold atN at h
  rw [List.findIdx?_eq_none_iff] at h
  intro x hx e
  have h1 := h x hx
  rw [(hasKey_iff key x).2 e] at h1
  cases h1
theorem order_split {α : Type} {l : List α} {k : Nat} (hk : k < l.length) : l = l.take k ++ l[k] :: l.drop (k + 1) := by rw [← List.drop_eq_getElem_cons hk, List.take_append_drop]
theorem total_erase {its : List Itm} {k : Nat} (hk : k < its.length) : total its = total (its.eraseIdx k) + charge (its.getD k zero) := by
  rw [List.eraseIdx_eq_take_drop_succ, total_append]
  have e := congrArg total (order_split hk)
  rw [total_append] at e
  rw [List.getD_eq_getElem?_getD, List.getElem?_eq_getElem hk]
  simp only [total, Option.getD_some] at e ⊢
  omega

theorem zeroI (w : World) : (zeroValue 3).run Try.prog w = .ok (.int .i64 0) w := by kernel_rfl
theorem look_miss {w : World} {hb : Nat} {S : List Nat} {lim nx lost : Int} {its : List Itm} {gl : Nat} {gf : Option Nat} {bm : Nat} {ls : List Lnk} {free order : List Nat} {cl : Nat} {vf : Value} {D : DataW Unit} {key : ByteArray}
    (hp : Parts w hb S lim nx lost its gl gf bm ls free order cl vf D) (hkey : key.size ≤ maxLen) (hn : atN its key = none) :
    (Instr.lookup 60 (.map (some bm)) (.string key) true).run Try.prog w = .ok (.tuple #[.int .i64 0, .bool false]) w := by
  have hno : Maps.has D (kk key) = false := hp.map.miss key (fun p hpo => at_none hn _ (keys_of hp.items p hpo))
  obtain ⟨v, ps, hrun, hv⟩ := hp.own.look_ok keyLaw Try.underlying60 (zeroI w) (plainElem_int (H := Unit) (a := 0) Try.underlying3 (by decide)) (key := .string key) (kl := kk key) (Go.WideMaps.keyOf_string_mk Try.underlying9 hkey)
  rw [Maps.atKey_of_not_has hno] at hv
  obtain ⟨c, rfl, hc, _⟩ := plainElem_int_inv Try.underlying3 hv
  simp only [Prod.mk.injEq, DataW.lit.injEq, Lit.int.injEq, true_and] at hc
  rw [hno, ← hc.1] at hrun
  exact hrun
theorem look_hit {w : World} {hb : Nat} {S : List Nat} {lim nx lost : Int} {its : List Itm} {gl : Nat} {gf : Option Nat} {bm : Nat} {ls : List Lnk} {free order : List Nat} {cl : Nat} {vf : Value} {D : DataW Unit} {key : ByteArray} {k : Nat}
    (hp : Parts w hb S lim nx lost its gl gf bm ls free order cl vf D) (hkey : key.size ≤ maxLen) (hn : atN its key = some k) :
    ∃ p, (Instr.lookup 60 (.map (some bm)) (.string key) true).run Try.prog w = .ok (.tuple #[.int .i64 (p : Nat), .bool true]) w ∧ order = order.take k ++ p :: order.drop (k + 1) ∧ (lk ls p).val = its.getD k zero := by
  obtain ⟨hk, hkk⟩ := at_split hn
  have hko : k < order.length := by rw [← items_len ls order, hp.items]; exact hk
  have hval : (lk ls order[k]).val = its.getD k zero := by
    have := hp.items
    subst this
    simp [itemsOf, List.getD_eq_getElem?_getD, List.getElem?_eq_getElem hko]
  have hh := hp.map.hit order[k] (List.getElem_mem _)
  rw [hval, hkk] at hh
  obtain ⟨v, ps, hrun, hv⟩ := hp.own.look_ok keyLaw Try.underlying60 (zeroI w) (plainElem_int (H := Unit) (a := 0) Try.underlying3 (by decide)) (key := .string key) (kl := kk key) (Go.WideMaps.keyOf_string_mk Try.underlying9 hkey)
  rw [hh.2] at hv
  obtain ⟨c, rfl, hc, _⟩ := plainElem_int_inv Try.underlying3 hv
  simp only [Prod.mk.injEq, DataW.lit.injEq, Lit.int.injEq, true_and] at hc
  rw [hh.1, ← hc.1] at hrun
  exact ⟨order[k], hrun, order_split hko, hval⟩

set_option maxRecDepth 10000 in
set_option maxHeartbeats 1000000 in
/-- A key that is not there. -/
theorem take_none (w : World) (hb : Nat) (S : List Nat) (lim nx lost : Int) (its : List Itm) (key : ByteArray) (hs : Shelf w hb S lim nx lost its) (hkey : key.size ≤ maxLen) (hn : atN its key = none) :
    Calls Try.prog 53 #[.pointer (some ⟨hb, 0, none⟩), .string key] w fun e w' => e = .returned (.tuple #[.agg #[.string ByteArray.empty, .int .i64 0, .string ByteArray.empty, .int .i64 0, .int .i64 0], .bool false]) ∧ Below w.heap.size w w' := by
  obtain ⟨gl, gf, bm, ls, free, order, cl, vf, D, hp⟩ := hs
  obtain ⟨c0, c1, c2, c3, c4, c5, c6⟩ := hp.mem.box.cells
  have hlt := hp.mem.box.lt
  have hrun := look_miss (hp.keep ((Keeps.refl [] w).alloc (.cells #[.string ⟨#[]⟩, .int .i64 0, .string ⟨#[]⟩, .int .i64 0, .int .i64 0] 40)) (by simp)) hkey hn
  clear c0 c1 c2 c3 c4 c5 hp hn hkey
  go_enter Try.func53, Try.ntmps53
  go_wp2
  refine bodyPost_ret (v := .tuple #[.agg #[.string ⟨#[]⟩, .int .i64 0, .string ⟨#[]⟩, .int .i64 0, .int .i64 0], .bool false]) (by simp [results, Try.results53, go_sem]; done) rfl ⟨rfl, ?_⟩
  exact bel1 w _

theorem take_step {w w0 w1 w2 w3 : World} {hb : Nat} {S : List Nat} {lim nx lost : Int} {its : List Itm} {gl : Nat} {gf gf' : Option Nat} {bm : Nat} {ls : List Lnk} {free order : List Nat} {cl : Nat} {vf vf' : Value} {D : DataW Unit} {key : ByteArray} {k p : Nat}
    (hp : Parts w hb S lim nx lost its gl gf bm ls free order cl vf D) (hn : atN its key = some k) (ho : order = order.take k ++ p :: order.drop (k + 1)) (hv : (lk ls p).val = its.getD k zero)
    (k1 : Keeps ([hb, gl] ++ gf.toList) w w1) (hm1 : Mem w1 hb ⟨lim, nx, total its, lost, .map (some bm)⟩ gl gf' (takeL ls p) (free ++ [p]) cl vf') (hgf : gf' = gf ∨ ∃ g, gf' = some g ∧ w.heap.size ≤ g)
    (hown2 : w2.ownsMap Try.prog 9 (plainElem Try.prog 3) bm its.length (D.del (kk key))) (hturn : w1.mapTurned w2 bm) (k3 : Keeps [] w2 w3) :
    Step w (w3.setCell ⟨hb, 2, none⟩ (.int .i64 (total its - charge (its.getD k zero)))) hb S lim nx lost (its.eraseIdx k) := by
  obtain ⟨hk, hkk⟩ := at_split hn
  have hG : Chain.Good ls free (order.take k ++ p :: order.drop (k + 1)) := by rw [← ho]; exact hp.good
  have hbl : bm < w.heap.size := hp.own.lt
  have hg3 : gf' ≠ some bm := by
    rcases hgf with e | ⟨g, e, hge⟩
    · rw [e]; exact hp.m3
    · rw [e]; intro e2; simp at e2; omega
  have k2 := keeps_turned hturn
  have hm2 := hm1.keep k2 (by simp; exact Ne.symm hp.m1) (by simp; exact Ne.symm hp.m2) (fun g hg => by simp; intro e; exact hg3 (by rw [hg, e]))
  have hm3 := hm2.keep k3 (by simp) (by simp) (by simp)
  have hitems : itemsOf ls (order.take k ++ order.drop (k + 1)) = its.eraseIdx k := by
    rw [List.eraseIdx_eq_take_drop_succ, ← hp.items]
    simp [itemsOf]
  have hkn : ∀ q ∈ order.take k ++ order.drop (k + 1), (lk ls q).val.key ≠ (lk ls p).val.key := by
    intro q hq e
    have h1 := hp.keys
    rw [order_split hk, List.map_append, List.map_cons, List.nodup_append] at h1
    have hpk : (lk ls p).val.key = its[k].key := by rw [hv, List.getD_eq_getElem?_getD, List.getElem?_eq_getElem hk]; rfl
    rw [hpk] at e
    have e1 : itemsOf ls (order.take k) = its.take k := by rw [← hp.items]; simp [itemsOf]
    have e2 : itemsOf ls (order.drop (k + 1)) = its.drop (k + 1) := by rw [← hp.items]; simp [itemsOf]
    rcases List.mem_append.1 hq with h2 | h2
    · exact h1.2.2 _ (List.mem_map_of_mem (keys_of e1 q h2)) _ (by simp) e
    · exact (List.nodup_cons.1 h1.2.1).1 (e ▸ List.mem_map_of_mem (keys_of e2 q h2))
  have hmap : MapIs (D.del (kk key)) (takeL ls p) (order.take k ++ order.drop (k + 1)) := by
    have h0 : MapIs D ls (order.take k ++ p :: order.drop (k + 1)) := by rw [← ho]; exact hp.map
    have h1 := h0.del (hp.own.tidy keyLaw) hkn
    rw [hv, hkk] at h1
    obtain ⟨ha, hb', _, _⟩ := mid_lt hG
    exact h1.congr (fun q _ => (takeL_at ha hb' q).1)
  have hsz : (its.eraseIdx k).length = its.length - 1 := List.length_eraseIdx_of_lt hk
  have ht : total its - charge (its.getD k zero) = total (its.eraseIdx k) := by rw [total_erase hk]; omega
  rw [ht]
  refine ⟨[hb, gl, bm] ++ gf'.toList, ⟨gl, gf', bm, takeL ls p, free ++ [p], order.take k ++ order.drop (k + 1), cl, vf', D.del (kk key), ?_⟩, ?_, ?_⟩
  · refine ⟨mem_set hm3 (box_set2 hm3.box _), hG.take, ?_, ?_, ?_, hmap, hp.m1, hp.m2, hg3, rfl, ?_, ?_⟩
    · rw [items_take hG, hitems]
    · rw [takeL_len]; exact hp.len
    · have h1 := (k3.map hown2 (by simp)).setCell (a := ⟨hb, 2, none⟩) hp.m1 (.int .i64 (total (its.eraseIdx k)))
      refine map_tight h1 ?_
      rw [hmap.size, hsz]
      have : order.length = its.length := by rw [← hp.items, items_len]
      simp
      omega
    · exact hp.keys.sublist ((List.eraseIdx_sublist its k).map Itm.key)
    · exact fun x hx => hp.small x (List.eraseIdx_subset hx)
  · intro b hbm
    rw [hp.blocks]
    simp only [List.mem_append, List.mem_cons, List.not_mem_nil, or_false, Option.mem_toList] at hbm ⊢
    rcases hbm with (h1 | h1 | h1) | h1
    · exact .inl (.inl (.inl h1))
    · exact .inl (.inl (.inr (.inl h1)))
    · exact .inl (.inl (.inr (.inr h1)))
    · rcases hgf with e | ⟨g, e, hge⟩
      · exact .inl (.inr (e ▸ h1))
      · rw [e] at h1; simp at h1; exact .inr (by omega)
  · have k1' : Keeps S w w1 := k1.mono (fun y hy => by rw [hp.blocks]; simp only [List.mem_append, List.mem_cons, List.not_mem_nil, or_false] at hy ⊢; rcases hy with (e | e) | e <;> simp [e])
    exact ((k1'.trans k2 (fun y hy => .inl (by rw [hp.blocks]; simp at hy ⊢; simp [hy]))).trans k3 (by simp)).setCell (.inl (by rw [hp.blocks]; simp)) _

/-- The box of what is handed back, the call's first block, is written at the end. -/
theorem Step.result {w w4 w5 : World} {o : Obj} {hb : Nat} {S : List Nat} {lim nx lost : Int} {its : List Itm} (h : Step (w.alloc o) w4 hb S lim nx lost its) (ho : One w4 w5 w.heap.size) (hS : ∀ b ∈ S, b < w.heap.size) : Step w w5 hb S lim nx lost its := by
  obtain ⟨S', hs, hS', hk⟩ := h
  have hk5 : Keeps [w.heap.size] w4 w5 := ⟨ho.os, ho.tape, ho.output, ho.size, fun k _ hn => ho.block k (by simpa using hn)⟩
  refine ⟨S', hs.keep hk5 (fun b hb' => ?_), fun b hb' => ?_, ?_⟩
  · rcases hS' b hb' with h1 | h1
    · have := hS b h1; simp; omega
    · simp at h1; simp; omega
  · exact (hS' b hb').imp id (fun e => by simp at e; omega)
  · exact (((Keeps.refl S w).alloc o).trans hk (fun y hy => .inl hy)).trans hk5 (fun y hy => by simp at hy; right; omega)

set_option maxRecDepth 10000 in
set_option maxHeartbeats 2000000 in
/-- A key that is there: its item goes, and is handed back. -/
theorem take_some (w : World) (hb : Nat) (S : List Nat) (lim nx lost : Int) (its : List Itm) (key : ByteArray) (k : Nat) (hs : Shelf w hb S lim nx lost its) (hl : its.length ≤ 100) (hkey : key.size ≤ maxLen) (hn : atN its key = some k) :
    Calls Try.prog 53 #[.pointer (some ⟨hb, 0, none⟩), .string key] w fun e w' => e = .returned (.tuple #[itemV (its.getD k zero), .bool true]) ∧ Step w w' hb S lim nx lost (its.eraseIdx k) := by
  obtain ⟨gl, gf, bm, ls, free, order, cl, vf, D, hp⟩ := hs
  obtain ⟨c0, c1, c2, c3, c4, c5, c6⟩ := hp.mem.box.cells
  have hlt := hp.mem.box.lt
  have hp1 := hp.keep ((Keeps.refl [] w).alloc (.cells #[.string ⟨#[]⟩, .int .i64 0, .string ⟨#[]⟩, .int .i64 0, .int .i64 0] 40)) (by simp)
  obtain ⟨p, hrun, ho, hv⟩ := look_hit hp1 hkey hn
  have hkl : keyOf Try.prog 9 (.string key) = some (kk key) := Go.WideMaps.keyOf_string_mk Try.underlying9 hkey
  have hsm : Small (its.getD k zero) := small_getD hp.small k (at_split hn).1
  have htot := total_small hp.small (by omega)
  have hch : 0 ≤ charge (its.getD k zero) ∧ charge (its.getD k zero) ≤ 2097162 := by have := hsm; unfold Small at this; unfold charge; omega
  have HO := hide ho
  have HV := hide hv
  have HP := hide hp
  have HP1 := hide hp1
  have HKL := hide hkl
  have HN := hide hn
  have HSM := hide hsm
  have hws : w.heap.size ∉ [hb, gl] ++ gf.toList := by
    have h1 := hp.lt
    have h2 : ∀ y ∈ [hb, gl] ++ gf.toList, y < w.heap.size := fun y hy => h1 y (by
      rw [hp.blocks]
      simp only [List.mem_append, List.mem_cons, List.not_mem_nil, or_false] at hy ⊢
      rcases hy with (e | e) | e <;> simp [e])
    intro h3
    have := h2 _ h3
    omega
  clear c0 c1 c2 c3 c4 c5 hp hp1 ho hv hkl hn hkey hsm
  go_enter Try.func53, Try.ntmps53
  go_wp2_with fail
  refine (take_any _ hb _ gl gf ls free (order.take k) (order.drop (k + 1)) p cl vf (unhide HP1).mem (by have := (unhide HP1).good; rw [unhide HO] at this; exact this) (by have := (unhide HP1).len; omega)).mono ?_
  rintro e w1 ⟨gf1, vf1, rfl, hm1, hgf1, hk1⟩
  rw [unhide HV]
  simp only [World.size_alloc] at hgf1
  obtain ⟨d0, d1, d2, d3, d4, d5, d6⟩ := hm1.box.cells
  have hlt1 := hm1.box.lt
  have hr1 := fun o => hk1.cell (b := w.heap.size) (o := o) (by simp) hws
  have hrf1 := fun o => hk1.frozen (b := w.heap.size) (o := o) (by simp) hws
  have hzw : w.heap.size < w1.heap.size := by have := hk1.size; simp at this; omega
  have hbm1 : bm ∉ [hb, gl] ++ gf.toList := by
    have h1 := (unhide HP).m1
    have h2 := (unhide HP).m2
    have h3 := (unhide HP).m3
    simp only [List.mem_append, List.mem_cons, List.not_mem_nil, or_false, Option.mem_toList, not_or]
    exact ⟨⟨h1, h2⟩, h3⟩
  have hown1 := hide (hk1.map (unhide HP1).own hbm1)
  have HK1 := hide hk1
  have HM1 := hide hm1
  have HGF : Hid (gf1 = gf ∨ ∃ g, gf1 = some g ∧ (w.alloc (.cells #[.string ⟨#[]⟩, .int .i64 0, .string ⟨#[]⟩, .int .i64 0, .int .i64 0] 40)).heap.size ≤ g) := by
    show _ ∨ _
    rw [World.size_alloc]
    exact hgf1
  have hbmlt := (unhide HP).own.lt
  have hbmh := (unhide HP).m1
  clear d0 d1 d2 d3 d4 d5 hk1 hm1 hgf1
  generalize hx : its.getD k zero = x at HSM hch
  go_wp2_with (at_delete; go_loud (refine wpList_delete_own _ rfl _ _ 60 9 rfl 3 keyLaw Try.underlying60 _ bm its.length D rfl ((unhide hown1).alloc _) _ _ rfl (unhide HKL) ?_))
  intro w2 hown2 hturn2
  have hg2 := hturn2.grown
  have hm1' := (unhide HM1).keep ((Keeps.refl [] w1).alloc (.cells #[.string x.key, .int .i64 x.flags, .string x.data, .int .i64 x.upto, .int .i64 x.token] 40)) (by simp) (by simp) (by simp)
  have hb2 := hm1'.box.of_block (hg2.block hb hm1'.box.lt (by simp; exact Ne.symm hbmh))
  obtain ⟨e0, e1, e2, e3, e4, e5, e6⟩ := hb2.cells
  have f2 := hb2.frozen 2
  have hlt2 := hb2.lt
  have hz2 : w1.heap.size < w2.heap.size := by have := hg2.size; simp at this; omega
  have hix : ∀ o, w2.cell? ⟨w1.heap.size, o, none⟩ = (w1.alloc (.cells #[.string x.key, .int .i64 x.flags, .string x.data, .int .i64 x.upto, .int .i64 x.token] 40)).cell? ⟨w1.heap.size, o, none⟩ := fun o => World.cell?_of_block (a := ⟨w1.heap.size, o, none⟩) (hg2.block w1.heap.size (by simp) (by simp; omega))
  have hrb := (hg2.block w.heap.size (by simp; omega) (by simp; omega)).trans (Below.heap_alloc _ _ _ hzw)
  have hrx : ∀ o, w2.cell? ⟨w.heap.size, o, none⟩ = w1.cell? ⟨w.heap.size, o, none⟩ := fun o => World.cell?_of_block (a := ⟨w.heap.size, o, none⟩) hrb
  have hrfx : ∀ o, w2.frozen? ⟨w.heap.size, o, none⟩ = w1.frozen? ⟨w.heap.size, o, none⟩ := fun o => World.frozen?_of_block (a := ⟨w.heap.size, o, none⟩) hrb
  have HF := hide (fun w3 k3 => take_step (w0 := w) (w3 := w3) (unhide HP1) (unhide HN) (unhide HO) (unhide HV) ((unhide HK1).alloc _) hm1' (unhide HGF) hown2 hturn2 k3)
  rw [hx] at HF
  have hcc : IntKind.i64.wrap (total its - charge x) = total its - charge x := by rw [IntKind.wrap_i64]; omega
  have hcal := fun w => chargeOf_any x w (unhide HSM)
  clear e0 e1 e3 e4 e5 e6 hg2 hm1' hb2 hown2 hturn2 d6 hrun
  generalize charge x = c at HF hch hcc hcal
  generalize total its = t at HF e2 htot hcc
  have HC := hide hcal
  clear hcal
  go_wp2_with fail
  go_region_with (go_at_call 29; refine (unhide HC _).mono ?_; rintro e w3 ⟨rfl, hb3⟩; have g2 := hb3.cell (p := ⟨hb, 2, none⟩) (show hb < w2.drew.heap.size from hlt2); have gf2 := hb3.frozen (p := ⟨hb, 2, none⟩) (show hb < w2.drew.heap.size from hlt2); have gx := fun o => hb3.cell (p := ⟨w1.heap.size, o, none⟩) (show w1.heap.size < w2.drew.heap.size from hz2); have gr := fun o => hb3.cell (p := ⟨w.heap.size, o, none⟩) (show w.heap.size < w2.drew.heap.size by (show w.heap.size < w2.heap.size; omega)); have grf := fun o => hb3.frozen (p := ⟨w.heap.size, o, none⟩) (show w.heap.size < w2.drew.heap.size by (show w.heap.size < w2.heap.size; omega)); have HB3 := hide hb3; clear hb3)
  all_goals
    have k3 : Keeps [] w2 w3 := (Keeps.refl [] w2).drew.trans (Keeps.of_below (S := []) (unhide HB3) (fun _ h1 _ => h1)) (by simp)
    have HF4 := hide (unhide HF w3 k3)
    have O4 := (One.refl w3 hb).set 2 (.int .i64 (t - c))
    have j0 : ∀ o, (w3.setCell ⟨hb, 2, none⟩ (.int .i64 (t - c))).cell? ⟨w1.heap.size, o, none⟩ = (w1.alloc (.cells #[.string x.key, .int .i64 x.flags, .string x.data, .int .i64 x.upto, .int .i64 x.token] 40)).cell? ⟨w1.heap.size, o, none⟩ := fun o => (World.cell?_of_block (a := ⟨w1.heap.size, o, none⟩) (O4.block _ (by simp; omega))).trans ((gx o).trans (hix o))
    have j1 : ∀ o, (w3.setCell ⟨hb, 2, none⟩ (.int .i64 (t - c))).cell? ⟨w.heap.size, o, none⟩ = (w.alloc (.cells #[.string ⟨#[]⟩, .int .i64 0, .string ⟨#[]⟩, .int .i64 0, .int .i64 0] 40)).cell? ⟨w.heap.size, o, none⟩ := fun o => (World.cell?_of_block (a := ⟨w.heap.size, o, none⟩) (O4.block _ (by simp; omega))).trans ((gr o).trans ((hrx o).trans (hr1 o)))
    have j2 : ∀ o, (w3.setCell ⟨hb, 2, none⟩ (.int .i64 (t - c))).frozen? ⟨w.heap.size, o, none⟩ = (w.alloc (.cells #[.string ⟨#[]⟩, .int .i64 0, .string ⟨#[]⟩, .int .i64 0, .int .i64 0] 40)).frozen? ⟨w.heap.size, o, none⟩ := fun o => (World.frozen?_of_block (a := ⟨w.heap.size, o, none⟩) (O4.block _ (by simp; omega))).trans ((grf o).trans ((hrfx o).trans (hrf1 o)))
    clear O4 gx gr grf hix hrx hrfx hr1 hrf1 g2 gf2 e2 f2 hlt2 hz2 hrb HB3 k3
    generalize (w3.setCell ⟨hb, 2, none⟩ (.int .i64 (t - c))) = w4 at HF4 j0 j1 j2 ⊢
    go_wp2
    refine bodyPost_ret (v := .tuple #[itemV x, .bool true]) (by simp [results, Try.results53, go_sem, itemV, j1]; done) rfl ⟨by rw [hx], ?_⟩
    refine (unhide HF4).result ?_ ?_
    · repeat (refine One.set ?_ _ _)
      exact One.refl _ _
    · exact (unhide HP).lt
end Shelf
end Go.Proofs.Ythlcmnjaimffdaa
