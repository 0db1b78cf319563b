/-
  The program's list of links (newChain, freeLink, putLast, take, values), inside a shelf: what each does to the plain links.
-/
import Derived.Test.YthlcmnjaimffdaaChainM
import Derived.Test.YthlcmnjaimffdaaRows
import Derived.Maps.AppendAt
import Derived.Deep.RegionWith
namespace Go.Proofs.Ythlcmnjaimffdaa
namespace Chain
open Go.RowKit Base Items Keep
set_option linter.unusedVariables false

/-- The other fields of a shelf. -/
structure Hd where
  lim : Int
  nx : Int
  chg : Int
  lost : Int
  vm : Value
/-- A shelf's cells. -/
def Box (w : World) (hb : Nat) (h : Hd) (vl vf : Value) : Prop := w.heap[hb]? = some (.cells #[.int .i64 h.lim, .int .i64 h.nx, .int .i64 h.chg, .int .i64 h.lost, vl, vf, h.vm] 62 (0, 0))
section
variable {w w' : World} {hb : Nat} {h : Hd} {vl vf : Value}
theorem Box.lt (hB : Box w hb h vl vf) : hb < w.heap.size := (Array.getElem?_eq_some_iff.1 hB).1
theorem Box.cells (hB : Box w hb h vl vf) : w.cell? ⟨hb, 0, none⟩ = some (.int .i64 h.lim) ∧ w.cell? ⟨hb, 1, none⟩ = some (.int .i64 h.nx) ∧ w.cell? ⟨hb, 2, none⟩ = some (.int .i64 h.chg) ∧ w.cell? ⟨hb, 3, none⟩ = some (.int .i64 h.lost) ∧
    w.cell? ⟨hb, 4, none⟩ = some vl ∧ w.cell? ⟨hb, 5, none⟩ = some vf ∧ w.cell? ⟨hb, 6, none⟩ = some h.vm := by
  unfold Box at hB
  refine ⟨?_, ?_, ?_, ?_, ?_, ?_, ?_⟩ <;> simp [World.cell?, hB]
theorem Box.frozen (hB : Box w hb h vl vf) (o : Nat) : w.frozen? ⟨hb, o, none⟩ = false := by unfold Box at hB; simp [World.frozen?, hB]
theorem Box.of_block (hB : Box w hb h vl vf) (e : w'.heap[hb]? = w.heap[hb]?) : Box w' hb h vl vf := by unfold Box at *; rw [e]; exact hB
theorem Box.keep {S : List Nat} (hB : Box w hb h vl vf) (hk : Keeps S w w') (hn : hb ∉ S) : Box w' hb h vl vf := hB.of_block (hk.block hb hB.lt hn)
theorem Box.set4 (hB : Box w hb h vl vf) (v : Value) : Box (w.setCell ⟨hb, 4, none⟩ v) hb h v vf := by unfold Box at *; simp [World.setCell, Array.getElem?_modify, hB]
theorem Box.set5 (hB : Box w hb h vl vf) (v : Value) : Box (w.setCell ⟨hb, 5, none⟩ v) hb h vl v := by unfold Box at *; simp [World.setCell, Array.getElem?_modify, hB]
theorem Box.setOther (hB : Box w hb h vl vf) {p : Addr} (hp : hb ≠ p.block) (u : Value) : Box (w.setCell p u) hb h vl vf := hB.of_block (Below.heap_setCell _ _ _ _ hp)
end

/-- A shelf's list in memory: its links at block gl, its free numbers at gf. -/
structure Mem (w : World) (hb : Nat) (h : Hd) (gl : Nat) (gf : Option Nat) (ls : List Lnk) (free : List Nat) (cl : Nat) (vf : Value) : Prop where
  box : Box w hb h (.slice (some ⟨gl, 0, none⟩) ls.length cl) vf
  links : LinksAt w 83 gl cl ls
  fr : w.ownsRow 0 3 1 vf free.length (ints free)
  own : vf.ownBlock = gf
  n1 : hb ≠ gl
  n2 : gf ≠ some hb
  n3 : gf ≠ some gl

theorem Mem.keep {w w' : World} {hb : Nat} {h : Hd} {gl : Nat} {gf : Option Nat} {ls : List Lnk} {free : List Nat} {cl : Nat} {vf : Value} {S : List Nat} (hm : Mem w hb h gl gf ls free cl vf) (hk : Keeps S w w') (h1 : hb ∉ S) (h2 : gl ∉ S) (h3 : ∀ g, gf = some g → g ∉ S) :
    Mem w' hb h gl gf ls free cl vf :=
  ⟨hm.box.keep hk h1, Row.keep hm.links hk h2, own_blocks hm.fr (fun g hg => hk.block g (own_lt hm.fr hg) (h3 g (hm.own ▸ hg))), hm.own, hm.n1, hm.n2, hm.n3⟩
theorem Mem.gf_lt {w : World} {hb : Nat} {h : Hd} {gl : Nat} {gf : Option Nat} {ls : List Lnk} {free : List Nat} {cl : Nat} {vf : Value} (hm : Mem w hb h gl gf ls free cl vf) {g : Nat} (hg : gf = some g) : g < w.heap.size := own_lt hm.fr (hm.own.trans hg)

theorem linfo_ex : ∃ i : TypeInfo, Try.prog.info? 83 = some i ∧ i.zero = some (.agg #[.string ByteArray.empty, .int .i64 0, .string ByteArray.empty, .int .i64 0, .int .i64 0, .int .i64 0, .int .i64 0]) ∧ i.size = 7 ∧ i.bytes = 72 := by
  have h : (Try.prog.info? 83).map (fun i => (i.zero, i.size, i.bytes)) = some (some (.agg #[.string ByteArray.empty, .int .i64 0, .string ByteArray.empty, .int .i64 0, .int .i64 0, .int .i64 0, .int .i64 0]), 7, 72) := by kernel_rfl
  obtain ⟨i, hi, hz⟩ := Option.map_eq_some_iff.1 h
  simp only [Prod.mk.injEq] at hz
  exact ⟨i, hi, hz.1, hz.2.1, hz.2.2⟩

theorem lnews (w : World) (t : TypeId) (j : Nat) (u : Value) (hj : (lcells zl)[j]? = some u) :
    (w.alloc (.cells #[.string ⟨#[]⟩, .int .i64 0, .string ⟨#[]⟩, .int .i64 0, .int .i64 0, .int .i64 0, .int .i64 0] t)).cell? ((⟨w.heap.size, 0, none⟩ : Addr).add j) = some u := by
  rw [Go.WideShapes.add_plain, Nat.zero_add, World.cell?_alloc_new]
  show (lcells zl).toArray[j]? = some u
  simpa using hj

set_option maxRecDepth 10000 in
set_option maxHeartbeats 1000000 in
theorem freeLink_none (w : World) (hb : Nat) (h : Hd) (gl : Nat) (gf : Option Nat) (ls : List Lnk) (cl : Nat) (vf : Value) (hm : Mem w hb h gl gf ls [] cl vf) (hlen : ls.length ≤ 1000) :
    Calls Try.prog 59 #[.pointer (some ⟨hb, 4, none⟩)] w fun e w' => e = .returned (.int .i64 ls.length) ∧
      ∃ gl' cl', Mem w' hb h gl' gf (ls ++ [zl]) [] cl' vf ∧ (gl' = gl ∨ w.heap.size ≤ gl') ∧ Keeps [hb, gl] w w' := by
  obtain ⟨va, vc, hv⟩ : ∃ a c, vf = .slice a 0 c := by
    rcases hm.fr.2 with ⟨e, _⟩ | ⟨g, c, cur, e, _⟩
    · exact ⟨_, _, e⟩
    · exact ⟨_, _, e⟩
  subst hv
  obtain ⟨c0, c1, c2, c3, c4, c5, c6⟩ := hm.box.cells
  have f4 := hm.box.frozen 4
  have HM := hide hm
  clear hm c0 c1 c2 c3 c6
  obtain ⟨i0, hi, hz0, hz1, hz2⟩ := linfo_ex
  have HI := hide hi
  have HZ0 := hide hz0
  have HZ1 := hide hz1
  have HZ2 := hide hz2
  clear hi hz0 hz1 hz2
  go_enter Try.func59, Try.ntmps59
  go_wp2_with (at_builtin; go_loud (refine wpList_append_own_at _ rfl _ _ 56 rfl 0 83 i0 _ 7 72 Try.underlying56 (unhide HI) (unhide HZ0) (unhide HZ1) (unhide HZ2) rfl (by decide) _ _ _ rfl (((unhide HM).links.owns (Nat.zero_le _)).alloc _) ⟨w.heap.size, 0, none⟩ 1 1 (lcells zl) rfl rfl ?c1 (lcells_one zl) (by unfold maxLen; omega) (by omega) (Nat.zero_le _) ?_))
  case c1 => exact lnews w _
  intro v' w2 hown' hgrow _ hloc
  obtain ⟨gl', cl', rfl, _, hrow⟩ := Row.of_owns hown' (by omega)
  have hbx := ((unhide HM).box.of_block (Below.heap_alloc _ _ _ (unhide HM).box.lt)).of_block (hgrow.block hb (by simp; have := (unhide HM).box.lt; omega) (by simp [Value.ownBlock]; exact (unhide HM).n1))
  obtain ⟨d0, d1, d2, d3, d4, d5, d6⟩ := hbx.cells
  have g4 := hbx.frozen 4
  have HB := hide hbx
  have HO := hide hrow
  have HG := hide hgrow
  have HL := hide hloc
  clear hbx hrow hgrow hloc hown' d0 d1 d2 d3 d6 c4 c5 f4
  go_wp2
  go_ret
  refine ⟨ret_int (by omega), gl', cl', ?_, ?_, ?_⟩
  · have hm := unhide HM
    have hlt := hm.box.lt
    have hgl : gl' = gl ∨ gl' = w.heap.size + 1 := by
      rcases unhide HL with e | e
      · simp [Value.ownBlock] at e; exact .inl e
      · simp [Value.ownBlock] at e; exact .inr e
    have hne : gl' ≠ hb := by
      rcases hgl with e | e
      · rw [e]; exact Ne.symm hm.n1
      · omega
    refine ⟨?_, ?_, ?_, hm.own, Ne.symm hne, hm.n2, ?_⟩
    · have h1 := (unhide HB).set4 (.slice (some ⟨gl', 0, none⟩) (ls.length + 1) cl')
      rw [List.length_append]
      exact h1
    · have h1 := (unhide HO).setOther (p := ⟨hb, 4, none⟩) hne (.slice (some ⟨gl', 0, none⟩) (ls.length + 1) cl')
      show Row _ _ 7 gl' (ls ++ [zl]).length cl' (lflat (ls ++ [zl]))
      rw [List.length_append, lflat_append, lflat_one]
      exact h1
    · refine own_blocks hm.fr (fun g hg => ?_)
      have hgf : gf = some g := hm.own.symm.trans hg
      have hg1 : g ≠ hb := fun e => hm.n2 (by rw [hgf, e])
      have hg2 : g ≠ gl := fun e => hm.n3 (by rw [hgf, e])
      have hglt := hm.gf_lt hgf
      rw [Below.heap_setCell _ _ _ _ hg1, (unhide HG).block g (by simp; omega) (by simp [Value.ownBlock]; exact hg2), Below.heap_alloc _ _ _ hglt]
    · rcases hgl with e | e
      · rw [e]; exact hm.n3
      · intro e2
        have := hm.gf_lt e2
        omega
  · rcases unhide HL with e | e
    · simp [Value.ownBlock] at e; exact .inl e
    · simp [Value.ownBlock] at e; exact .inr (by omega)
  · exact (((Keeps.refl _ w).alloc _).grown (unhide HG) (fun k e => by simp [Value.ownBlock] at e; left; simp [e])).setCell (.inl (by simp)) _

theorem ints_get {free : List Nat} {j : Nat} (hj : j < free.length) : (ints free)[j]? = some (.int .i64 (free.getD j 0 : Nat)) := by
  simp [ints, List.getElem?_eq_getElem hj]

set_option maxRecDepth 10000 in
set_option maxHeartbeats 1000000 in
theorem freeLink_some (w : World) (hb : Nat) (h : Hd) (gl : Nat) (gf : Option Nat) (ls : List Lnk) (fr : List Nat) (p : Nat) (cl : Nat) (vf : Value) (hm : Mem w hb h gl gf ls (fr ++ [p]) cl vf) (hlen : fr.length ≤ 1000) :
    Calls Try.prog 59 #[.pointer (some ⟨hb, 4, none⟩)] w fun e w' => e = .returned (.int .i64 p) ∧
      ∃ vf', Mem w' hb h gl gf ls fr cl vf' ∧ Keeps [hb] w w' := by
  obtain ⟨g, cf, rfl, _, hrow⟩ := Row.of_owns hm.fr (by simp)
  simp only [List.length_append, List.length_singleton] at hm hrow
  obtain ⟨c0, c1, c2, c3, c4, c5, c6⟩ := hm.box.cells
  have f5 := hm.box.frozen 5
  have hcap : fr.length + 1 ≤ cf := by obtain ⟨_, cur, _, h2, _⟩ := hrow; exact h2
  have hmax : cf ≤ maxLen := by obtain ⟨_, cur, _, _, h2, _⟩ := hrow; exact h2
  have hcell : w.cell? ⟨g, fr.length, none⟩ = some (.int .i64 p) := by
    refine Row.cell hrow ?_
    rw [ints_get (by simp)]
    simp
  have HM := hide hm
  have HR := hide hrow
  clear hm hrow c0 c1 c2 c3 c4 c6
  unfold maxLen at hmax
  go_enter Try.func59, Try.ntmps59
  go_wp2
  go_region
  go_wp2
  go_region
  go_wp2
  go_ret
  have hm := unhide HM
  have hg : g ≠ hb := fun e => hm.n2 (by rw [← hm.own, ← e]; rfl)
  refine ⟨rfl, _, ⟨hm.box.set5 (.slice (some ⟨g, 0, none⟩) fr.length cf), ?_, ?_, ?_, hm.n1, hm.n2, hm.n3⟩, ((Keeps.refl _ w).drew.drew).setCell (.inl (by simp)) _⟩
  · exact Row.setOther (p := ⟨hb, 5, none⟩) hm.links (Ne.symm hm.n1) _
  · have h1 := row_pop (unhide HR)
    have e : (ints (fr ++ [p])).take fr.length = ints fr := by simp [ints]
    rw [e] at h1
    exact (Row.setOther (p := ⟨hb, 5, none⟩) h1 hg _).owns (Nat.zero_le _)
  · exact hm.own
end Chain
end Go.Proofs.Ythlcmnjaimffdaa
