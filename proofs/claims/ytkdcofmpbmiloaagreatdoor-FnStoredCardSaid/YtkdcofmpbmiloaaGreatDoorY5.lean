/-
  A shelf: a store at work, in memory; and the map of its keys. No Go function is spoken of here, but the shelf's cells.
-/
import Derived.Test.YtkdcofmpbmiloaaGreatDoorY2
import Derived.Test.YtkdcofmpbmiloaaGreatDoorGoodStoreI
import Derived.Deep.DeepCutAuto
namespace Go.Proofs.YtkdcofmpbmiloaaGreatDoor
namespace Shelf
open Go.RowKit Base Items Keep Own Chain Store
set_option linter.unusedVariables false

def kk (k : ByteArray) : Lit := .string k.data.toList
theorem kk_key (k : ByteArray) : WideAt.IsKeyLit (kk k) := by simp [kk, WideAt.IsKeyLit]
theorem kk_inj {a b : ByteArray} (h : kk a = kk b) : a = b := by
  unfold kk at h
  simp only [Lit.string.injEq] at h
  exact Go.WideShapes.bytes_inj h
/-- The map beside the links: at each key the number of its link, and nothing else. -/
structure MapIs (D : DataW Unit) (ls : List Lnk) (order : List Nat) : Prop where
  hit : ∀ p ∈ order, Maps.has D (kk (lk ls p).val.key) = true ∧ D.atKey (kk (lk ls p).val.key) (.lit (.int .i64 0)) = .lit (.int .i64 (p : Nat))
  miss : ∀ k, (∀ p ∈ order, (lk ls p).val.key ≠ k) → Maps.has D (kk k) = false
  size : Maps.size D = order.length
theorem mapIs_new : MapIs (.map []) [zl] [] := ⟨fun p hp => by simp at hp, fun k _ => rfl, rfl⟩
theorem MapIs.congr {D : DataW Unit} {ls ls' : List Lnk} {order : List Nat} (h : MapIs D ls order) (e : ∀ p ∈ order, (lk ls' p).val = (lk ls p).val) : MapIs D ls' order :=
  ⟨fun p hp => by rw [e p hp]; exact h.hit p hp, fun k hk => h.miss k (fun p hp => by rw [← e p hp]; exact hk p hp), h.size⟩
theorem MapIs.put {D : DataW Unit} {ls : List Lnk} {order : List Nat} (h : MapIs D ls order) (ht : Maps.Tidy D) {n : Nat} (hk : ∀ p ∈ order, (lk ls p).val.key ≠ (lk ls n).val.key) : MapIs (D.put (kk (lk ls n).val.key) (.lit (.int .i64 (n : Nat)))) ls (order ++ [n]) := by
  refine ⟨fun p hp => ?_, fun k hm => ?_, ?_⟩
  · rcases List.mem_append.1 hp with h1 | h1
    · have hne : kk (lk ls p).val.key ≠ kk (lk ls n).val.key := fun e => hk p h1 (kk_inj e)
      rw [Maps.has_put_other hne, Maps.atKey_put_other hne]
      exact h.hit p h1
    · simp at h1
      subst h1
      exact ⟨Maps.has_put_same ht.isMap (kk_key _) _, Maps.atKey_put_same ht.isMap (kk_key _) _ _⟩
  · have hne : kk k ≠ kk (lk ls n).val.key := fun e => hm n (by simp) (kk_inj e).symm
    rw [Maps.has_put_other hne]
    exact h.miss k (fun p hp => hm p (List.mem_append_left _ hp))
  · rw [Maps.size_put ht, h.miss _ hk, h.size]
    simp
theorem MapIs.del {D : DataW Unit} {ls : List Lnk} {l1 l2 : List Nat} {n : Nat} (h : MapIs D ls (l1 ++ n :: l2)) (ht : Maps.Tidy D) (hk : ∀ p ∈ l1 ++ l2, (lk ls p).val.key ≠ (lk ls n).val.key) : MapIs (D.del (kk (lk ls n).val.key)) ls (l1 ++ l2) := by
  have hsub : ∀ p, p ∈ l1 ++ l2 → p ∈ l1 ++ n :: l2 := fun p hp => by
    rcases List.mem_append.1 hp with h1 | h1
    · exact List.mem_append_left _ h1
    · exact List.mem_append_right _ (List.mem_cons_of_mem _ h1)
  refine ⟨fun p hp => ?_, fun k hm => ?_, ?_⟩
  · have hne : kk (lk ls p).val.key ≠ kk (lk ls n).val.key := fun e => hk p hp (kk_inj e)
    rw [Maps.has_del_other hne, Maps.atKey_del_other hne]
    exact h.hit p (hsub p hp)
  · by_cases e : k = (lk ls n).val.key
    · rw [e]; exact Maps.has_del_same
    · rw [Maps.has_del_other (fun e' => e (kk_inj e'))]
      refine h.miss k (fun p hp => ?_)
      rcases List.mem_append.1 hp with h1 | h1
      · exact hm p (List.mem_append_left _ h1)
      · rcases List.mem_cons.1 h1 with h2 | h2
        · rw [h2]; exact fun e' => e e'.symm
        · exact hm p (List.mem_append_right _ h2)
  · have h1 := Maps.size_del (k := kk (lk ls n).val.key) ht
    rw [(h.hit n (by simp)).1, h.size] at h1
    simp at h1 ⊢
    omega

/-- A shelf in memory: S are its blocks. -/
structure Parts (w : World) (hb : Nat) (S : List Nat) (lim nx lost : Int) (its : List Itm) (gl : Nat) (gf : Option Nat) (bm : Nat) (ls : List Lnk) (free order : List Nat) (cl : Nat) (vf : Value) (D : DataW Unit) : Prop where
  mem : Mem w hb ⟨lim, nx, total its, lost, .map (some bm)⟩ gl gf ls free cl vf
  good : Chain.Good ls free order
  items : itemsOf ls order = its
  len : ls.length ≤ 500
  own : w.ownsMap Tryz.prog 9 (plainElem Tryz.prog 3) bm its.length D
  map : MapIs D ls order
  m1 : bm ≠ hb
  m2 : bm ≠ gl
  m3 : gf ≠ some bm
  blocks : S = [hb, gl, bm] ++ gf.toList
  keys : (its.map Itm.key).Nodup
  small : ∀ x ∈ its, Small x
def Shelf (w : World) (hb : Nat) (S : List Nat) (lim nx lost : Int) (its : List Itm) : Prop := ∃ gl gf bm ls free order cl vf D, Parts w hb S lim nx lost its gl gf bm ls free order cl vf D

theorem Parts.lt {w : World} {hb : Nat} {S : List Nat} {lim nx lost : Int} {its : List Itm} {gl : Nat} {gf : Option Nat} {bm : Nat} {ls : List Lnk} {free order : List Nat} {cl : Nat} {vf : Value} {D : DataW Unit}
    (h : Parts w hb S lim nx lost its gl gf bm ls free order cl vf D) : ∀ b ∈ S, b < w.heap.size := by
  intro b hm
  rw [h.blocks] at hm
  simp only [List.mem_append, List.mem_cons, List.not_mem_nil, or_false, Option.mem_toList] at hm
  rcases hm with (rfl | rfl | rfl) | hg
  · exact h.mem.box.lt
  · exact Row.lt h.mem.links
  · exact h.own.lt
  · exact h.mem.gf_lt hg
theorem Parts.keep {w w' : World} {hb : Nat} {S T : List Nat} {lim nx lost : Int} {its : List Itm} {gl : Nat} {gf : Option Nat} {bm : Nat} {ls : List Lnk} {free order : List Nat} {cl : Nat} {vf : Value} {D : DataW Unit}
    (h : Parts w hb S lim nx lost its gl gf bm ls free order cl vf D) (hk : Keeps T w w') (hT : ∀ b ∈ S, b ∉ T) : Parts w' hb S lim nx lost its gl gf bm ls free order cl vf D := by
  have h1 : hb ∈ S := by rw [h.blocks]; simp
  have h2 : gl ∈ S := by rw [h.blocks]; simp
  have h3 : bm ∈ S := by rw [h.blocks]; simp
  have h4 : ∀ g, gf = some g → g ∈ S := fun g hg => by rw [h.blocks, hg]; simp
  exact { h with mem := h.mem.keep hk (hT _ h1) (hT _ h2) (fun g hg => hT _ (h4 g hg)), own := hk.map h.own (hT _ h3) }
theorem Shelf.lt {w : World} {hb : Nat} {S : List Nat} {lim nx lost : Int} {its : List Itm} (h : Shelf w hb S lim nx lost its) : ∀ b ∈ S, b < w.heap.size := by
  obtain ⟨gl, gf, bm, ls, free, order, cl, vf, D, hp⟩ := h
  exact hp.lt
theorem Shelf.keep {w w' : World} {hb : Nat} {S T : List Nat} {lim nx lost : Int} {its : List Itm} (h : Shelf w hb S lim nx lost its) (hk : Keeps T w w') (hT : ∀ b ∈ S, b ∉ T) : Shelf w' hb S lim nx lost its := by
  obtain ⟨gl, gf, bm, ls, free, order, cl, vf, D, hp⟩ := h
  exact ⟨gl, gf, bm, ls, free, order, cl, vf, D, hp.keep hk hT⟩
theorem Shelf.below {w w' : World} {hb : Nat} {S : List Nat} {lim nx lost : Int} {its : List Itm} (h : Shelf w hb S lim nx lost its) (hk : Below w.heap.size w w') : Shelf w' hb S lim nx lost its :=
  h.keep (Keeps.of_below (S := []) hk (fun _ h1 _ => h1)) (by simp)
/-- What a step on a shelf leaves: another shelf in the same blocks and new ones. -/
def Step (w w' : World) (hb : Nat) (S : List Nat) (lim nx lost : Int) (its : List Itm) : Prop := ∃ S', Shelf w' hb S' lim nx lost its ∧ (∀ b ∈ S', b ∈ S ∨ w.heap.size ≤ b) ∧ Keeps S w w'
end Shelf
end Go.Proofs.YtkdcofmpbmiloaaGreatDoor
/-
  The program's shelf: putLast.
-/
namespace Go.Proofs.YtkdcofmpbmiloaaGreatDoor
namespace Shelf
open Go.RowKit Base Items Keep Own Chain Store
set_option linter.unusedVariables false

theorem total_small {its : List Itm} (h : ∀ x ∈ its, Small x) (hl : its.length ≤ 1000) : 0 ≤ total its ∧ total its ≤ 2097162000 := by
  have := total_bd its h
  omega

theorem box_set2 {w : World} {hb : Nat} {h : Hd} {vl vf : Value} (hB : Box w hb h vl vf) (c : Int) : Box (w.setCell ⟨hb, 2, none⟩ (.int .i64 c)) hb { h with chg := c } vl vf := by unfold Box at *; simp [World.setCell, Array.getElem?_modify, hB]
/-- A cell of the shelf itself is written. -/
theorem mem_set {w : World} {hb : Nat} {h h' : Hd} {gl : Nat} {gf : Option Nat} {ls : List Lnk} {free : List Nat} {cl : Nat} {vf : Value} (hm : Mem w hb h gl gf ls free cl vf) {o : Nat} {v : Value}
    (hB : Box (w.setCell ⟨hb, o, none⟩ v) hb h' (.slice (some ⟨gl, 0, none⟩) ls.length cl) vf) : Mem (w.setCell ⟨hb, o, none⟩ v) hb h' gl gf ls free cl vf :=
  ⟨hB, Row.setOther hm.links (Ne.symm hm.n1) _, own_blocks hm.fr (fun g hg => Below.heap_setCell _ _ _ _ (fun e => hm.n2 (by rw [← hm.own, hg]; exact congrArg some e))), hm.own, hm.n1, hm.n2, hm.n3⟩
theorem keeps_turned {w w' : World} {b : Nat} (h : w.mapTurned w' b) : Keeps [b] w w' := (Keeps.refl [b] w).turned h (.inl (by simp))
theorem total_snoc (its : List Itm) (x : Itm) : total (its ++ [x]) = total its + charge x := by rw [total_append]; simp [total]
theorem keys_of {its : List Itm} {ls : List Lnk} {order : List Nat} (hi : itemsOf ls order = its) : ∀ p ∈ order, (lk ls p).val ∈ its := fun p hp => by rw [← hi]; exact List.mem_map.2 ⟨p, hp, rfl⟩

theorem put_step {w w1 w2 w3 : World} {hb : Nat} {S : List Nat} {lim nx lost : Int} {its : List Itm} {gl : Nat} {gf : Option Nat} {bm : Nat} {ls : List Lnk} {free order : List Nat} {cl : Nat} {vf : Value} {D : DataW Unit} {x : Itm}
    (hp : Parts w hb S lim nx lost its gl gf bm ls free order cl vf D) (hl : its.length ≤ 100) (hx : Small x) (hk : ∀ y ∈ its, y.key ≠ x.key) {n : Nat} {ls1 : List Lnk} {free1 : List Nat} {gl1 cl1 : Nat} {vf1 : Value}
    (k1 : Keeps [hb, gl] w w1) (hm1 : Mem w1 hb ⟨lim, nx, total its, lost, .map (some bm)⟩ gl1 gf ls1 free1 cl1 vf1) (hG1 : Chain.Good ls1 free1 (order ++ [n])) (hit : itemsOf ls1 (order ++ [n]) = itemsOf ls order ++ [x]) (hl1 : ls1.length ≤ ls.length ∨ ls1.length = order.length + 2)
    (hgl : gl1 = gl ∨ w.heap.size ≤ gl1) (hv1 : ∀ p ∈ order, (lk ls1 p).val = (lk ls p).val) (hnx : (lk ls1 n).val = x)
    (hown2 : w2.ownsMap Tryz.prog 9 (plainElem Tryz.prog 3) bm (its.length + 1) (D.put (kk x.key) (.lit (.int .i64 (n : Nat))))) (hturn : w1.mapTurned w2 bm) (k3 : Keeps [] w2 w3) :
    Step w (w3.setCell ⟨hb, 2, none⟩ (.int .i64 (total its + charge x))) hb S lim nx lost (its ++ [x]) := by
  have hbl : bm < w.heap.size := hp.own.lt
  have hg1 : gl1 ≠ bm := hgl.elim (fun e => e ▸ Ne.symm hp.m2) (fun e => by omega)
  have k2 := keeps_turned hturn
  have hm2 := hm1.keep k2 (by simp; exact Ne.symm hp.m1) (by simpa using hg1) (fun g hg => by simp; intro e; exact hp.m3 (by rw [hg, e]))
  have hm3 := hm2.keep k3 (by simp) (by simp) (by simp)
  have ho3 := (k3.map hown2 (by simp)).setCell (a := ⟨hb, 2, none⟩) hp.m1 (.int .i64 (total its + charge x))
  have hol : order.length = its.length := by rw [← hp.items, items_len]
  refine ⟨[hb, gl1, bm] ++ gf.toList, ⟨gl1, gf, bm, ls1, free1, order ++ [n], cl1, vf1, D.put (kk x.key) (.lit (.int .i64 (n : Nat))), ?_⟩, ?_, ?_⟩
  · refine ⟨?_, hG1, ?_, ?_, ?_, ?_, hp.m1, Ne.symm hg1, hp.m3, rfl, ?_, ?_⟩
    · rw [total_snoc]
      exact mem_set hm3 (box_set2 hm3.box _)
    · rw [hit, hp.items]
    · have := hp.len; omega
    · rw [List.length_append]; exact ho3
    · have h1 := (hp.map.congr hv1).put (n := n) (hp.own.tidy keyLaw) (fun p hpo => by
        rw [hnx, hv1 p hpo]
        exact hk _ (keys_of hp.items p hpo))
      rw [hnx] at h1
      exact h1
    · rw [List.map_append]
      refine List.nodup_append.2 ⟨hp.keys, by simp, fun a ha b hb' => ?_⟩
      simp at hb'
      obtain ⟨y, hy, rfl⟩ := List.mem_map.1 ha
      rw [hb']
      exact hk y hy
    · intro y hy
      rcases List.mem_append.1 hy with h1 | h1
      · exact hp.small y h1
      · simp at h1; rw [h1]; exact hx
  · intro b hbm
    rw [hp.blocks]
    simp only [List.mem_append, List.mem_cons, List.not_mem_nil, or_false] at hbm ⊢
    rcases hbm with (h1 | h1 | h1) | h1
    · exact .inl (.inl (.inl h1))
    · rcases hgl with e | e
      · exact .inl (.inl (.inr (.inl (h1.trans e))))
      · exact .inr (by omega)
    · exact .inl (.inl (.inr (.inr h1)))
    · exact .inl (.inr h1)
  · have k1' : Keeps S w w1 := k1.mono (fun y hy => by rw [hp.blocks]; simp at hy ⊢; rcases hy with e | e <;> simp [e])
    refine ((k1'.trans k2 (fun y hy => .inl (by rw [hp.blocks]; simp at hy ⊢; simp [hy]))).trans k3 (by simp)).setCell (.inl (by rw [hp.blocks]; simp)) _

theorem alloc_le {w : World} {o : Obj} {g : Nat} (h : (w.alloc o).drew.heap.size ≤ g) : w.heap.size ≤ g := by
  have e : (w.alloc o).drew.heap.size = w.heap.size + 1 := by show (w.alloc o).heap.size = _; simp
  omega
theorem alloc_lt {w w1 : World} {o : Obj} (h : (w.alloc o).drew.heap.size ≤ w1.heap.size) : w.heap.size < w1.heap.size := by
  have e : (w.alloc o).drew.heap.size = w.heap.size + 1 := by show (w.alloc o).heap.size = _; simp
  omega
/-- Behind the first statement of putLast: the link is laid and the map written, the charge not yet. -/
def PutMid (w wc : World) (hb : Nat) (lim nx lost : Int) (its : List Itm) (gl : Nat) (gf : Option Nat) (bm : Nat) (ls : List Lnk) (order : List Nat) (D : DataW Unit) (x : Itm) : Prop :=
  ∃ (n : Nat) (ls1 : List Lnk) (free1 : List Nat) (gl1 cl1 : Nat) (vf1 : Value) (w1 : World), Keeps [hb, gl] w w1 ∧ Mem w1 hb ⟨lim, nx, total its, lost, .map (some bm)⟩ gl1 gf ls1 free1 cl1 vf1 ∧ Chain.Good ls1 free1 (order ++ [n]) ∧ itemsOf ls1 (order ++ [n]) = itemsOf ls order ++ [x] ∧
    (ls1.length ≤ ls.length ∨ ls1.length = order.length + 2) ∧ (gl1 = gl ∨ w.heap.size ≤ gl1) ∧ (∀ p ∈ order, (lk ls1 p).val = (lk ls p).val) ∧ (lk ls1 n).val = x ∧
    wc.ownsMap Tryz.prog 9 (plainElem Tryz.prog 3) bm (its.length + 1) (D.put (kk x.key) (.lit (.int .i64 (n : Nat)))) ∧ w1.mapTurned wc bm ∧ w.heap.size < w1.heap.size ∧ (∀ o, w1.cell? ⟨w.heap.size, o, none⟩ = (w.alloc (.cells #[.string x.key, .int .i64 x.flags, .string x.data, .int .i64 x.upto, .int .i64 x.token] 37)).cell? ⟨w.heap.size, o, none⟩)

set_option maxRecDepth 10000 in
set_option maxHeartbeats 2000000 in
theorem putLast_shelf (w : World) (hb : Nat) (S : List Nat) (lim nx lost : Int) (its : List Itm) (x : Itm) (hs : Shelf w hb S lim nx lost its) (hl : its.length ≤ 100) (hx : Small x) (hk : ∀ y ∈ its, y.key ≠ x.key) :
    Calls Tryz.prog 42 #[.pointer (some ⟨hb, 0, none⟩), .agg #[.string x.key, .int .i64 x.flags, .string x.data, .int .i64 x.upto, .int .i64 x.token]] w fun e w' => e = .returned (.tuple #[]) ∧ Step w w' hb S lim nx lost (its ++ [x]) := by
  obtain ⟨gl, gf, bm, ls, free, order, cl, vf, D, hp⟩ := hs
  have HP := hide hp
  clear hp
  go_enter Tryz.func42, Tryz.ntmps42
  go_upto_region 1 with fail
  go_cut [14] (fun s14 wx => Hid (PutMid w wx hb lim nx lost its gl gf bm ls order D x))
  case first =>
    have HP1 := hide ((unhide HP).keep ((Keeps.refl [] w).alloc (.cells #[.string x.key, .int .i64 x.flags, .string x.data, .int .i64 x.upto, .int .i64 x.token] 37)).drew (by simp))
    obtain ⟨c0, c1, c2, c3, c4, c5, c6⟩ := (unhide HP1).mem.box.cells
    have hlt := (unhide HP).mem.box.lt
    have hxs : w.heap.size ∉ [hb, gl] := by
      have h2 := Row.lt (unhide HP).mem.links
      simp; omega
    clear c0 c1 c2 c3 c4 c5
    go_region_with (first | (go_at_call 58; refine (putLast_any _ hb _ gl gf ls free order cl vf x (unhide HP1).mem (unhide HP1).good (by have := (unhide HP1).len; omega)).mono ?_; rintro e w1 ⟨n, ls1, free1, gl1, cl1, vf1, rfl, hm1, hG1, hit, hl1, hgl, hk1, hv1, hnx, hno⟩; obtain ⟨d0, d1, d2, d3, d4, d5, d6⟩ := hm1.box.cells; clear d0 d1 d2 d3 d4 d5; have hcx := fun o => hk1.cell (b := w.heap.size) (o := o) (by simp) hxs; obtain ⟨w2, hrun, hown2, hturn2⟩ := (hk1.map (unhide HP1).own (by have := (unhide HP1).m1; have := (unhide HP1).m2; simp; exact ⟨(unhide HP1).m1, (unhide HP1).m2⟩)).store keyLaw Tryz.underlying59 (by unfold maxLen; omega) (key := .string x.key) (val := .int .i64 (n : Nat)) (kl := kk x.key) (Go.WideMaps.keyOf_string_mk Tryz.underlying9 (by unfold maxLen; have := hx.1; omega)) (plainElem_int Tryz.underlying3 (WalkArith.wf_i64 (by have := (hG1.inO n (by simp)).2; have := (unhide HP1).len; have := (unhide HP1).good.len; omega)))))
    all_goals
      go_wp2_with fail
      go_meet
      exact ⟨n, ls1, free1, gl1, cl1, vf1, w1, ((Keeps.refl [hb, gl] w).alloc _).drew.trans hk1 (by simp), hm1, hG1, hit, hl1, hgl.imp id alloc_le, hv1, hnx, hown2, hturn2, alloc_lt hk1.size, hcx⟩
  case rest =>
  obtain ⟨n, ls1, free1, gl1, cl1, vf1, w1, hk1, hm1, hG1, hit, hl1, hgl, hv1, hnx, hown2, hturn2, hzw, hcx⟩ := unhide hcut
  have hm2 := hide (hm1.keep (keeps_turned hturn2) (by simp; exact Ne.symm (unhide HP).m1) (by
    simp
    rcases hgl with e | e
    · exact e ▸ Ne.symm (unhide HP).m2
    · have := (unhide HP).own.lt; omega) (fun g hg => by simp; intro e; exact (unhide HP).m3 (by rw [hg, e])))
  obtain ⟨e0, e1, e2, e3, e4, e5, e6⟩ := (unhide hm2).box.cells
  have f2 := (unhide hm2).box.frozen 2
  have hzz := hturn2.grown.size
  have hlt2 := (unhide hm2).box.lt
  have hbx2 := fun o => (World.cell?_of_block (a := ⟨w.heap.size, o, none⟩) (hturn2.grown.block w.heap.size (by omega) (by simp; have := (unhide HP).own.lt; omega))).trans (hcx o)
  have htot := total_small (unhide HP).small (by omega)
  have hch : 0 ≤ charge x ∧ charge x ≤ 2097162 := by have := hx; unfold Small at this; unfold charge; omega
  have hcc : IntKind.i64.wrap (total its + charge x) = total its + charge x := by rw [IntKind.wrap_i64]; omega
  have HF := hide (fun w3 k3 => put_step (w3 := w3) (unhide HP) hl hx hk hk1 hm1 hG1 hit hl1 hgl hv1 hnx hown2 hturn2 k3)
  have HX := hide hx
  clear e0 e1 e3 e4 e5 e6 hcx hm1 hG1 hit hl1 hv1 hnx hown2 hturn2 hk1 hgl hcut hx hk
  have hcal := fun w => chargeOf_any x w (unhide HX)
  generalize charge x = c at HF hch hcc hcal
  generalize total its = t at HF e2 htot hcc
  have HC := hide hcal
  clear hcal
  go_wp2_with fail
  go_region_with (go_at_call 27; refine (unhide HC _).mono ?_; rintro e w3 ⟨rfl, hb3⟩; have g2 := hb3.cell (p := ⟨hb, 2, none⟩) (show hb < wc.drew.heap.size from hlt2); have gf2 := hb3.frozen (p := ⟨hb, 2, none⟩) (show hb < wc.drew.heap.size from hlt2); have HB3 := hide hb3; clear hb3)
  all_goals
    have k3 : Keeps [] wc w3 := (Keeps.refl [] wc).drew.trans (Keeps.of_below (S := []) (unhide HB3) (fun _ h1 _ => h1)) (by simp)
    go_wp2_with fail
    exact bodyPost_end (v := .tuple #[]) (by simp [results, Tryz.results42, go_sem]) rfl ⟨rfl, unhide HF w3 k3⟩
end Shelf
end Go.Proofs.YtkdcofmpbmiloaaGreatDoor
