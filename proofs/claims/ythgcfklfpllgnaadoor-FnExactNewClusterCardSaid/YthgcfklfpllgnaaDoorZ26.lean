/-
  The program's list of links (newChain, freeLink, putLast, take, values), inside a shelf: what each does to the plain links.
-/
import Derived.Test.YthgcfklfpllgnaaDoorZ25
import Derived.Test.YthgcfklfpllgnaaDoorRows
import Derived.Maps.AppendAt
import Derived.Deep.RegionWith
import Derived.Test.YthgcfklfpllgnaaDoorZ11
namespace Go.Proofs.YthgcfklfpllgnaaDoor
namespace Chain
open Go.RowKit Base Items Keep
set_option linter.unusedVariables false

/-- The other fields of a shelf. -/
structure Hd where
  lim : Int
  nx : Int
  chg : Int
  lost : Int
  vm : Value
/-- A shelf's cells. -/
def Box (w : World) (hb : Nat) (h : Hd) (vl vf : Value) : Prop := w.heap[hb]? = some (.cells #[.int .i64 h.lim, .int .i64 h.nx, .int .i64 h.chg, .int .i64 h.lost, vl, vf, h.vm] 79 (0, 0))
section
variable {w w' : World} {hb : Nat} {h : Hd} {vl vf : Value}
theorem Box.lt (hB : Box w hb h vl vf) : hb < w.heap.size := (Array.getElem?_eq_some_iff.1 hB).1
theorem Box.cells (hB : Box w hb h vl vf) : w.cell? ⟨hb, 0, none⟩ = some (.int .i64 h.lim) ∧ w.cell? ⟨hb, 1, none⟩ = some (.int .i64 h.nx) ∧ w.cell? ⟨hb, 2, none⟩ = some (.int .i64 h.chg) ∧ w.cell? ⟨hb, 3, none⟩ = some (.int .i64 h.lost) ∧
    w.cell? ⟨hb, 4, none⟩ = some vl ∧ w.cell? ⟨hb, 5, none⟩ = some vf ∧ w.cell? ⟨hb, 6, none⟩ = some h.vm := by
  unfold Box at hB
  refine ⟨?_, ?_, ?_, ?_, ?_, ?_, ?_⟩ <;> simp [World.cell?, hB]
theorem Box.frozen (hB : Box w hb h vl vf) (o : Nat) : w.frozen? ⟨hb, o, none⟩ = false := by unfold Box at hB; simp [World.frozen?, hB]
theorem Box.of_block (hB : Box w hb h vl vf) (e : w'.heap[hb]? = w.heap[hb]?) : Box w' hb h vl vf := by unfold Box at *; rw [e]; exact hB
theorem Box.keep {S : List Nat} (hB : Box w hb h vl vf) (hk : Keeps S w w') (hn : hb ∉ S) : Box w' hb h vl vf := hB.of_block (hk.block hb hB.lt hn)
theorem Box.set4 (hB : Box w hb h vl vf) (v : Value) : Box (w.setCell ⟨hb, 4, none⟩ v) hb h v vf := by unfold Box at *; simp [World.setCell, Array.getElem?_modify, hB]
theorem Box.set5 (hB : Box w hb h vl vf) (v : Value) : Box (w.setCell ⟨hb, 5, none⟩ v) hb h vl v := by unfold Box at *; simp [World.setCell, Array.getElem?_modify, hB]
theorem Box.setOther (hB : Box w hb h vl vf) {p : Addr} (hp : hb ≠ p.block) (u : Value) : Box (w.setCell p u) hb h vl vf := hB.of_block (Below.heap_setCell _ _ _ _ hp)
end

/-- A shelf's list in memory: its links at block gl, its free numbers at gf. -/
structure Mem (w : World) (hb : Nat) (h : Hd) (gl : Nat) (gf : Option Nat) (ls : List Lnk) (free : List Nat) (cl : Nat) (vf : Value) : Prop where
  box : Box w hb h (.slice (some ⟨gl, 0, none⟩) ls.length cl) vf
  links : LinksAt w 107 gl cl ls
  fr : w.ownsRow 0 3 1 vf free.length (ints free)
  own : vf.ownBlock = gf
  n1 : hb ≠ gl
  n2 : gf ≠ some hb
  n3 : gf ≠ some gl

theorem Mem.keep {w w' : World} {hb : Nat} {h : Hd} {gl : Nat} {gf : Option Nat} {ls : List Lnk} {free : List Nat} {cl : Nat} {vf : Value} {S : List Nat} (hm : Mem w hb h gl gf ls free cl vf) (hk : Keeps S w w') (h1 : hb ∉ S) (h2 : gl ∉ S) (h3 : ∀ g, gf = some g → g ∉ S) :
    Mem w' hb h gl gf ls free cl vf :=
  ⟨hm.box.keep hk h1, Row.keep hm.links hk h2, own_blocks hm.fr (fun g hg => hk.block g (own_lt hm.fr hg) (h3 g (hm.own ▸ hg))), hm.own, hm.n1, hm.n2, hm.n3⟩
theorem Mem.gf_lt {w : World} {hb : Nat} {h : Hd} {gl : Nat} {gf : Option Nat} {ls : List Lnk} {free : List Nat} {cl : Nat} {vf : Value} (hm : Mem w hb h gl gf ls free cl vf) {g : Nat} (hg : gf = some g) : g < w.heap.size := own_lt hm.fr (hm.own.trans hg)

theorem linfo_ex : ∃ i : TypeInfo, Tryd.prog.info? 107 = some i ∧ i.zero = some (.agg #[.string ByteArray.empty, .int .i64 0, .string ByteArray.empty, .int .i64 0, .int .i64 0, .int .i64 0, .int .i64 0]) ∧ i.size = 7 ∧ i.bytes = 72 := by
  have h : (Tryd.prog.info? 107).map (fun i => (i.zero, i.size, i.bytes)) = some (some (.agg #[.string ByteArray.empty, .int .i64 0, .string ByteArray.empty, .int .i64 0, .int .i64 0, .int .i64 0, .int .i64 0]), 7, 72) := by kernel_rfl
  obtain ⟨i, hi, hz⟩ := Option.map_eq_some_iff.1 h
  simp only [Prod.mk.injEq] at hz
  exact ⟨i, hi, hz.1, hz.2.1, hz.2.2⟩

theorem lnews (w : World) (t : TypeId) (j : Nat) (u : Value) (hj : (lcells zl)[j]? = some u) :
    (w.alloc (.cells #[.string ⟨#[]⟩, .int .i64 0, .string ⟨#[]⟩, .int .i64 0, .int .i64 0, .int .i64 0, .int .i64 0] t)).cell? ((⟨w.heap.size, 0, none⟩ : Addr).add j) = some u := by
  rw [Go.WideShapes.add_plain, Nat.zero_add, World.cell?_alloc_new]
  show (lcells zl).toArray[j]? = some u
  simpa using hj

set_option maxRecDepth 10000 in
set_option maxHeartbeats 1000000 in
theorem freeLink_none (w : World) (hb : Nat) (h : Hd) (gl : Nat) (gf : Option Nat) (ls : List Lnk) (cl : Nat) (vf : Value) (hm : Mem w hb h gl gf ls [] cl vf) (hlen : ls.length ≤ 1000) :
    Calls Tryd.prog 71 #[.pointer (some ⟨hb, 4, none⟩)] w fun e w' => e = .returned (.int .i64 ls.length) ∧
      ∃ gl' cl', Mem w' hb h gl' gf (ls ++ [zl]) [] cl' vf ∧ (gl' = gl ∨ w.heap.size ≤ gl') ∧ Keeps [hb, gl] w w' := by
  obtain ⟨va, vc, hv⟩ : ∃ a c, vf = .slice a 0 c := by
    rcases hm.fr.2 with ⟨e, _⟩ | ⟨g, c, cur, e, _⟩
    · exact ⟨_, _, e⟩
    · exact ⟨_, _, e⟩
  subst hv
  obtain ⟨c0, c1, c2, c3, c4, c5, c6⟩ := hm.box.cells
  have f4 := hm.box.frozen 4
  have HM := hide hm
  clear hm c0 c1 c2 c3 c6
  obtain ⟨i0, hi, hz0, hz1, hz2⟩ := linfo_ex
  have HI := hide hi
  have HZ0 := hide hz0
  have HZ1 := hide hz1
  have HZ2 := hide hz2
  clear hi hz0 hz1 hz2
  go_enter Tryd.func71, Tryd.ntmps71
  go_wp2_with (at_builtin; go_loud (refine wpList_append_own_at _ rfl _ _ 73 rfl 0 107 i0 _ 7 72 Tryd.underlying73 (unhide HI) (unhide HZ0) (unhide HZ1) (unhide HZ2) rfl (by decide) _ _ _ rfl (((unhide HM).links.owns (Nat.zero_le _)).alloc _) ⟨w.heap.size, 0, none⟩ 1 1 (lcells zl) rfl rfl ?c1 (lcells_one zl) (by unfold maxLen; omega) (by omega) (Nat.zero_le _) ?_))
  case c1 => exact lnews w _
  intro v' w2 hown' hgrow _ hloc
  obtain ⟨gl', cl', rfl, _, hrow⟩ := Row.of_owns hown' (by omega)
  have hbx := ((unhide HM).box.of_block (Below.heap_alloc _ _ _ (unhide HM).box.lt)).of_block (hgrow.block hb (by simp; have := (unhide HM).box.lt; omega) (by simp [Value.ownBlock]; exact (unhide HM).n1))
  obtain ⟨d0, d1, d2, d3, d4, d5, d6⟩ := hbx.cells
  have g4 := hbx.frozen 4
  have HB := hide hbx
  have HO := hide hrow
  have HG := hide hgrow
  have HL := hide hloc
  clear hbx hrow hgrow hloc hown' d0 d1 d2 d3 d6 c4 c5 f4
  go_wp2
  go_ret
  refine ⟨ret_int (by omega), gl', cl', ?_, ?_, ?_⟩
  · have hm := unhide HM
    have hlt := hm.box.lt
    have hgl : gl' = gl ∨ gl' = w.heap.size + 1 := by
      rcases unhide HL with e | e
      · simp [Value.ownBlock] at e; exact .inl e
      · simp [Value.ownBlock] at e; exact .inr e
    have hne : gl' ≠ hb := by
      rcases hgl with e | e
      · rw [e]; exact Ne.symm hm.n1
      · omega
    refine ⟨?_, ?_, ?_, hm.own, Ne.symm hne, hm.n2, ?_⟩
    · have h1 := (unhide HB).set4 (.slice (some ⟨gl', 0, none⟩) (ls.length + 1) cl')
      rw [List.length_append]
      exact h1
    · have h1 := (unhide HO).setOther (p := ⟨hb, 4, none⟩) hne (.slice (some ⟨gl', 0, none⟩) (ls.length + 1) cl')
      show Row _ _ 7 gl' (ls ++ [zl]).length cl' (lflat (ls ++ [zl]))
      rw [List.length_append, lflat_append, lflat_one]
      exact h1
    · refine own_blocks hm.fr (fun g hg => ?_)
      have hgf : gf = some g := hm.own.symm.trans hg
      have hg1 : g ≠ hb := fun e => hm.n2 (by rw [hgf, e])
      have hg2 : g ≠ gl := fun e => hm.n3 (by rw [hgf, e])
      have hglt := hm.gf_lt hgf
      rw [Below.heap_setCell _ _ _ _ hg1, (unhide HG).block g (by simp; omega) (by simp [Value.ownBlock]; exact hg2), Below.heap_alloc _ _ _ hglt]
    · rcases hgl with e | e
      · rw [e]; exact hm.n3
      · intro e2
        have := hm.gf_lt e2
        omega
  · rcases unhide HL with e | e
    · simp [Value.ownBlock] at e; exact .inl e
    · simp [Value.ownBlock] at e; exact .inr (by omega)
  · exact (((Keeps.refl _ w).alloc _).grown (unhide HG) (fun k e => by simp [Value.ownBlock] at e; left; simp [e])).setCell (.inl (by simp)) _

theorem ints_get {free : List Nat} {j : Nat} (hj : j < free.length) : (ints free)[j]? = some (.int .i64 (free.getD j 0 : Nat)) := by
  simp [ints, List.getElem?_eq_getElem hj]

set_option maxRecDepth 10000 in
set_option maxHeartbeats 1000000 in
theorem freeLink_some (w : World) (hb : Nat) (h : Hd) (gl : Nat) (gf : Option Nat) (ls : List Lnk) (fr : List Nat) (p : Nat) (cl : Nat) (vf : Value) (hm : Mem w hb h gl gf ls (fr ++ [p]) cl vf) (hlen : fr.length ≤ 1000) :
    Calls Tryd.prog 71 #[.pointer (some ⟨hb, 4, none⟩)] w fun e w' => e = .returned (.int .i64 p) ∧
      ∃ vf', Mem w' hb h gl gf ls fr cl vf' ∧ Keeps [hb] w w' := by
  obtain ⟨g, cf, rfl, _, hrow⟩ := Row.of_owns hm.fr (by simp)
  simp only [List.length_append, List.length_singleton] at hm hrow
  obtain ⟨c0, c1, c2, c3, c4, c5, c6⟩ := hm.box.cells
  have f5 := hm.box.frozen 5
  have hcap : fr.length + 1 ≤ cf := by obtain ⟨_, cur, _, h2, _⟩ := hrow; exact h2
  have hmax : cf ≤ maxLen := by obtain ⟨_, cur, _, _, h2, _⟩ := hrow; exact h2
  have hcell : w.cell? ⟨g, fr.length, none⟩ = some (.int .i64 p) := by
    refine Row.cell hrow ?_
    rw [ints_get (by simp)]
    simp
  have HM := hide hm
  have HR := hide hrow
  clear hm hrow c0 c1 c2 c3 c4 c6
  unfold maxLen at hmax
  go_enter Tryd.func71, Tryd.ntmps71
  go_wp2
  go_region
  go_wp2
  go_region
  go_wp2
  go_ret
  have hm := unhide HM
  have hg : g ≠ hb := fun e => hm.n2 (by rw [← hm.own, ← e]; rfl)
  refine ⟨rfl, _, ⟨hm.box.set5 (.slice (some ⟨g, 0, none⟩) fr.length cf), ?_, ?_, ?_, hm.n1, hm.n2, hm.n3⟩, ((Keeps.refl _ w).drew.drew).setCell (.inl (by simp)) _⟩
  · exact Row.setOther (p := ⟨hb, 5, none⟩) hm.links (Ne.symm hm.n1) _
  · have h1 := row_pop (unhide HR)
    have e : (ints (fr ++ [p])).take fr.length = ints fr := by simp [ints]
    rw [e] at h1
    exact (Row.setOther (p := ⟨hb, 5, none⟩) h1 hg _).owns (Nat.zero_le _)
  · exact hm.own
end Chain
end Go.Proofs.YthgcfklfpllgnaaDoor
/-
  The program's list of links: freeLink as one contract, putLast.
-/
namespace Go.Proofs.YthgcfklfpllgnaaDoor
namespace Chain
open Go.RowKit Base Items Keep
set_option linter.unusedVariables false

theorem freeLink_any (w : World) (hb : Nat) (h : Hd) (gl : Nat) (gf : Option Nat) (ls : List Lnk) (free order : List Nat) (cl : Nat) (vf : Value) (hm : Mem w hb h gl gf ls free cl vf) (hG : Good ls free order) (hlen : ls.length ≤ 1000) :
    Calls Tryd.prog 71 #[.pointer (some ⟨hb, 4, none⟩)] w fun e w' => ∃ n ls' free' gl' cl' vf', e = .returned (.int .i64 (n : Nat)) ∧ Mem w' hb h gl' gf ls' free' cl' vf' ∧ Good ls' (n :: free') order ∧
      itemsOf ls' order = itemsOf ls order ∧ (ls'.length ≤ ls.length ∨ ls'.length = order.length + 2) ∧ (gl' = gl ∨ w.heap.size ≤ gl') ∧ Keeps [hb, gl] w w' ∧ (∀ p ∈ order, (lk ls' p).val = (lk ls p).val) := by
  rcases List.eq_nil_or_concat free with rfl | ⟨fr, p, rfl⟩
  · refine (freeLink_none w hb h gl gf ls cl vf hm hlen).mono ?_
    rintro e w' ⟨rfl, gl', cl', hm', hgl, hk⟩
    refine ⟨ls.length, ls ++ [zl], [], gl', cl', vf, rfl, hm', hG.more, items_more hG, .inr (by have := hG.len; simp at this ⊢; omega), hgl, hk, fun p hp => ?_⟩
    rw [lk_push, if_neg]
    have := (hG.inO _ hp).2; omega
  · rw [List.concat_eq_append] at hm hG
    have hl := hG.len
    simp at hl
    refine (freeLink_some w hb h gl gf ls fr p cl vf hm (by omega)).mono ?_
    rintro e w' ⟨rfl, vf', hm', hk⟩
    exact ⟨p, ls, fr, gl, cl, vf', rfl, hm', hG.perm (List.perm_append_comm (l₁ := fr) (l₂ := [p])), rfl, .inl (by omega), .inl rfl, hk.mono (by simp), fun _ _ => rfl⟩

theorem Mem.step {w w' : World} {hb : Nat} {h : Hd} {gl : Nat} {gf : Option Nat} {ls ls' : List Lnk} {free : List Nat} {cl : Nat} {vf : Value} (hm : Mem w hb h gl gf ls free cl vf) (hk : ∀ k, k ≠ gl → w'.heap[k]? = w.heap[k]?)
    (hl : LinksAt w' 107 gl cl ls') (hn : ls'.length = ls.length) : Mem w' hb h gl gf ls' free cl vf :=
  ⟨by rw [hn]; exact hm.box.of_block (hk hb hm.n1), hl, own_blocks hm.fr (fun g hg => hk g (fun e => hm.n3 (by rw [← hm.own, hg, e]))), hm.own, hm.n1, hm.n2, hm.n3⟩
/-- Only block g has turned. -/
structure One (w w' : World) (g : Nat) : Prop where
  os : w'.os = w.os
  tape : w'.tape = w.tape
  output : w'.output = w.output
  size : w.heap.size ≤ w'.heap.size
  block : ∀ k, k ≠ g → w'.heap[k]? = w.heap[k]?
theorem One.refl (w : World) (g : Nat) : One w w g := ⟨rfl, rfl, rfl, Nat.le_refl _, fun _ _ => rfl⟩
theorem One.set {w w' : World} {g : Nat} (h : One w w' g) (o : Nat) (v : Value) : One w (w'.setCell ⟨g, o, none⟩ v) g :=
  ⟨h.os, h.tape, h.output, by simpa [World.setCell] using h.size, fun k hk => (Below.heap_setCell _ _ _ _ hk).trans (h.block k hk)⟩
theorem One.drew {w w' : World} {g : Nat} (h : One w w' g) : One w w'.drew g := ⟨h.os, h.tape, h.output, h.size, h.block⟩
theorem One.keeps {S : List Nat} {a w w' : World} {g : Nat} (h : One w w' g) (hk : Keeps S a w) (hg : g ∈ S ∨ a.heap.size ≤ g) : Keeps S a w' :=
  hk.trans (S' := [g]) ⟨h.os, h.tape, h.output, h.size, fun k _ hn => h.block k (by simpa using hn)⟩ (by simpa using hg)
theorem LinksAt.drew {w : World} {t : TypeId} {g cap : Nat} {ls : List Lnk} (h : LinksAt w t g cap ls) : LinksAt w.drew t g cap ls := h
theorem keep_row {S : List Nat} {a w w' : World} {g : Nat} (h : Keeps S a w) (ho : w'.os = w.os) (ht : w'.tape = w.tape) (hp : w'.output = w.output) (hs : w.heap.size ≤ w'.heap.size) (hk : ∀ k, k ≠ g → w'.heap[k]? = w.heap[k]?) (hg : g ∈ S ∨ a.heap.size ≤ g) : Keeps S a w' :=
  h.trans (S' := [g]) ⟨ho, ht, hp, hs, fun k _ hn => hk k (by simpa using hn)⟩ (by simpa using hg)

set_option maxRecDepth 10000 in
set_option maxHeartbeats 2000000 in
theorem putLast_any (w : World) (hb : Nat) (h : Hd) (gl : Nat) (gf : Option Nat) (ls : List Lnk) (free order : List Nat) (cl : Nat) (vf : Value) (x : Itm) (hm : Mem w hb h gl gf ls free cl vf) (hG : Good ls free order) (hlen : ls.length ≤ 1000) :
    Calls Tryd.prog 61 #[.pointer (some ⟨hb, 4, none⟩), .agg #[.string x.key, .int .i64 x.flags, .string x.data, .int .i64 x.upto, .int .i64 x.token]] w fun e w' => ∃ n ls' free' gl' cl' vf', e = .returned (.int .i64 (n : Nat)) ∧ Mem w' hb h gl' gf ls' free' cl' vf' ∧ Good ls' free' (order ++ [n]) ∧
      itemsOf ls' (order ++ [n]) = itemsOf ls order ++ [x] ∧ (ls'.length ≤ ls.length ∨ ls'.length = order.length + 2) ∧ (gl' = gl ∨ w.heap.size ≤ gl') ∧ Keeps [hb, gl] w w' ∧ (∀ p ∈ order, (lk ls' p).val = (lk ls p).val) ∧ (lk ls' n).val = x ∧ n ∉ order := by
  have HM := hide hm
  have HG := hide hG
  clear hm hG
  go_enter Tryd.func61, Tryd.ntmps61
  go_wp2_with fail
  refine (freeLink_any _ hb h gl gf ls free order cl vf ((unhide HM).keep ((Keeps.refl [] w).alloc _) (by simp) (by simp) (by simp)) (unhide HG) hlen).mono ?_
  rintro e w1 ⟨n, ls1, free1, gl1, cl1, vf1, rfl, hm1, hG1, hit, hl1, hgl, hk, hv⟩
  simp only [World.size_alloc] at hgl
  have hK1 := hide (((Keeps.refl [hb, gl] w).alloc _).trans hk (by simp))
  have hlt0 := last_lt hG1
  obtain ⟨hn0, hnl, hno⟩ := hG1.inF n (by simp)
  have hne : n ≠ (lk ls1 0).ahead := by
    intro e
    rw [← e] at hlt0
    rcases List.mem_cons.1 hlt0.2 with h0 | h1
    · omega
    · exact hno h1
  obtain ⟨c0, c1, c2, c3, c4, c5, c6⟩ := hm1.box.cells
  have a0 := hm1.links.ahead (p := 0) (by omega)
  have hcx := fun o => hk.cell (b := w.heap.size) (o := o) (by simp) (by simp; have h1 := (unhide HM).box.lt; have h2 := Row.lt (unhide HM).links; omega)
  have HM1 := hide hm1
  have HG1 := hide hG1
  have HV := hide hv
  have HIT := hide hit
  have HGL := hide hgl
  clear hm1 hG1 hv hit hk hgl c0 c1 c2 c3 c5 c6
  generalize hlast : (lk ls1 0).ahead = last at a0 hlt0 hne
  have fz := fun j => Row.frozen (unhide HM1).links j
  have hn' : (n : Int) < ls1.length := by omega
  obtain ⟨i0, i1, i2, i3, i4⟩ := (unhide HM1).links.item hnl
  have i5 := (unhide HM1).links.ahead hnl
  have i6 := (unhide HM1).links.behind hnl
  have hglS : gl1 ∈ [hb, gl] ∨ w.heap.size ≤ gl1 := (unhide HGL).elim (fun e => .inl (by simp [e])) (fun e => .inr (by omega))
  go_wp2
  go_region
  have L2 := ((unhide HM1).links.setAll hnl ⟨x, last, 0⟩).drew
  have O2 := ((((((((One.refl w1 gl1).set (n * 7) (.string x.key)).set (n * 7 + 1) (.int .i64 x.flags)).set (n * 7 + 2) (.string x.data)).set (n * 7 + 3) (.int .i64 x.upto)).set (n * 7 + 4) (.int .i64 x.token)).set (n * 7 + 5) (.int .i64 last)).set (n * 7 + 6) (.int .i64 0)).drew
  simp only [Int.natCast_zero] at L2
  generalize ((((((((w1.setCell ⟨gl1, n * 7, none⟩ (.string x.key)).setCell ⟨gl1, n * 7 + 1, none⟩ (.int .i64 x.flags)).setCell ⟨gl1, n * 7 + 2, none⟩ (.string x.data)).setCell ⟨gl1, n * 7 + 3, none⟩ (.int .i64 x.upto)).setCell ⟨gl1, n * 7 + 4, none⟩ (.int .i64 x.token)).setCell ⟨gl1, n * 7 + 5, none⟩ (.int .i64 last)).setCell ⟨gl1, n * 7 + 6, none⟩ (.int .i64 0)).drew) = w2 at L2 O2 ⊢
  have HM2 : Hid (Mem w2 hb h gl1 gf (ls1.set n ⟨x, last, 0⟩) free1 cl1 vf1) := (unhide HM1).step O2.block L2 (by simp)
  have HK2 : Hid (Keeps [hb, gl] w w2) := O2.keeps (unhide hK1) hglS
  clear L2 O2 i0 i1 i2 i3 i4 i5 i6 c4 a0 hcx fz HM1 hK1
  have hl2 : (ls1.set n ⟨x, last, 0⟩).length = ls1.length := by simp
  generalize hls2 : ls1.set n ⟨x, last, 0⟩ = ls2 at HM2 hl2
  obtain ⟨c0, c1, c2, c3, c4, c5, c6⟩ := (unhide HM2).box.cells
  have fz := fun j => Row.frozen (unhide HM2).links j
  have i6 := (unhide HM2).links.behind (p := last) (by omega)
  have hla : (last : Int) < ls1.length := by omega
  have i5 : w2.cell? ⟨gl1, 5, none⟩ = some (.int .i64 (lk ls2 0).ahead) := by
    have := (unhide HM2).links.ahead (p := 0) (by omega)
    rwa [Nat.zero_mul, Nat.zero_add] at this
  rw [hl2] at c4
  clear c0 c1 c2 c3 c5 c6
  go_wp2
  go_ret
  have hm2 := unhide HM2
  have hG := unhide HG1
  have hll : last < ls2.length := by omega
  have L3 := hm2.links.setBehind hll n
  have L4 := L3.setAhead (p := 0) (by simp; omega) n
  rw [Nat.zero_mul, Nat.zero_add] at L4
  have eput : (ls2.set last { lk ls2 last with behind := n }).set 0 { lk (ls2.set last { lk ls2 last with behind := n }) 0 with ahead := n } = putL ls1 n x := by
    unfold putL
    simp only [hlast, hls2]
  rw [eput] at L4
  have O4 := ((One.refl w2 gl1).set (last * 7 + 6) (.int .i64 (n : Int))).set 5 (.int .i64 (n : Int))
  refine ⟨n, putL ls1 n x, free1, gl1, cl1, vf1, rfl, hm2.step O4.block L4 (by rw [putL_len, hl2]), hG.put x, ?_, by rw [putL_len]; exact hl1, ?_, O4.keeps (unhide HK2) hglS, ?_, ?_, hno⟩
  · rw [items_put hG, unhide HIT]
  · exact (unhide HGL).imp id (fun e => by omega)
  · intro p hp
    rw [(putL_at hn0 hnl (by rw [hlast]; omega) (by rw [hlast]; exact hne) p).1, if_neg (show ¬ p = n from fun e => hno (e ▸ hp))]
    exact unhide HV p hp
  · rw [(putL_at hn0 hnl (by rw [hlast]; omega) (by rw [hlast]; exact hne) n).1, if_pos rfl]
end Chain
end Go.Proofs.YthgcfklfpllgnaaDoor
/-
  The program's list of links: take, values, newChain.
-/
namespace Go.Proofs.YthgcfklfpllgnaaDoor
namespace Chain
open Go.RowKit Base Items Keep Own
set_option linter.unusedVariables false

theorem iinfo_ex : ∃ i : TypeInfo, Tryd.prog.info? 3 = some i ∧ i.zero = some (.int .i64 0) ∧ i.size = 1 ∧ i.bytes = 8 := by
  have h : (Tryd.prog.info? 3).map (fun i => (i.zero, i.size, i.bytes)) = some (some (.int .i64 0), 1, 8) := by kernel_rfl
  obtain ⟨i, hi, hz⟩ := Option.map_eq_some_iff.1 h
  simp only [Prod.mk.injEq] at hz
  exact ⟨i, hi, hz.1, hz.2.1, hz.2.2⟩

theorem lcell5 {w : World} {g : Nat} {t : TypeId} {v0 v1 v2 v3 v4 v5 v6 : Value} (h : w.heap[g]? = some (.cells #[v0, v1, v2, v3, v4, v5, v6] t (0, 0))) :
    w.cell? ⟨g, 0, none⟩ = some v0 ∧ w.cell? ⟨g, 1, none⟩ = some v1 ∧ w.cell? ⟨g, 2, none⟩ = some v2 ∧ w.cell? ⟨g, 3, none⟩ = some v3 ∧ w.cell? ⟨g, 4, none⟩ = some v4 ∧ w.cell? ⟨g, 5, none⟩ = some v5 ∧ w.cell? ⟨g, 6, none⟩ = some v6 := by
  refine ⟨?_, ?_, ?_, ?_, ?_, ?_, ?_⟩ <;> simp [World.cell?, h]

theorem lcell4 {w : World} {g : Nat} {t : TypeId} {v0 v1 v2 v3 v4 : Value} (h : w.heap[g]? = some (.cells #[v0, v1, v2, v3, v4] t (0, 0))) :
    w.cell? ⟨g, 0, none⟩ = some v0 ∧ w.cell? ⟨g, 1, none⟩ = some v1 ∧ w.cell? ⟨g, 2, none⟩ = some v2 ∧ w.cell? ⟨g, 3, none⟩ = some v3 ∧ w.cell? ⟨g, 4, none⟩ = some v4 := by
  refine ⟨?_, ?_, ?_, ?_, ?_⟩ <;> simp [World.cell?, h]

end Chain
end Go.Proofs.YthgcfklfpllgnaaDoor
