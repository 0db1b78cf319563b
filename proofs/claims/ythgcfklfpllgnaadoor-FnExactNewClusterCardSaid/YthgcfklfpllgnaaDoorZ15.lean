/-
  A cluster in rows that the call has made itself. No Go function is spoken of here.
-/
import Derived.Test.YthgcfklfpllgnaaDoorZ14
import Derived.OneCell
import Derived.Test.YthgcfklfpllgnaaDoorZ2
import Derived.Test.YthgcfklfpllgnaaDoorRows
import Derived.Test.YthgcfklfpllgnaaDoorZ10
import Derived.Deep.RegionWith
namespace Go.Proofs.YthgcfklfpllgnaaDoor
namespace Clus
open Go.RowKit Base OwnR Plc
set_option linter.unusedVariables false

theorem pflat_at : ∀ (M : List Pls.Pl) (i r : Nat), i < M.length → r < 4 → (pflat M)[i * 4 + r]? = (pcells (M.getD i Pls.zeroL))[r]?
  | [], i, r, h, _ => by simp at h
  | x :: m, i, r, h, hr => by
    have e : pflat (x :: m) = pcells x ++ pflat m := by simp [pflat]
    have el : (pcells x).length = 4 := rfl
    rw [e]
    cases i with
    | zero => rw [List.getElem?_append_left (by omega)]; simp
    | succ i =>
      rw [List.getElem?_append_right (by omega), el, show (i + 1) * 4 + r - 4 = i * 4 + r by omega]
      exact pflat_at m i r (by simpa using h) hr
def crash (x : Pls.Pl) : Pls.Pl := ⟨x.name, x.lim, x.nx, none, 0, []⟩
theorem pflat_crash : ∀ (M : List Pls.Pl) (k : Nat), k < M.length → (pflat M).set (k * 4 + 3) (.slice none 0 0) = pflat (M.set k (crash (M.getD k Pls.zeroL)))
  | [], k, h => by simp at h
  | x :: m, k, h => by
    have e : pflat (x :: m) = pcells x ++ pflat m := by simp [pflat]
    have el : (pcells x).length = 4 := rfl
    rw [e]
    cases k with
    | zero => rw [List.set_append_left _ _ (by omega)]; simp [pflat, crash, pcells]
    | succ k =>
      rw [List.set_append_right _ _ (by omega), el, show (k + 1) * 4 + 3 - 4 = k * 4 + 3 by omega, pflat_crash m k (by simpa using h)]
      simp [pflat]
theorem PO.head {w : World} {B : Nat} {a : Option Addr} {n cap : Nat} {M : List Pls.Pl} (h : PO w B a n cap M) (hn : 0 < n) : ∃ g, a = some ⟨g, 0, none⟩ ∧ B ≤ g ∧ g < w.heap.size := by
  obtain ⟨g, c, hv, hb, _, hl⟩ := own_some h.row hn
  simp only [Value.slice.injEq] at hv
  exact ⟨g, hv.1, hb, hl⟩
theorem PO.pl {w : World} {B g n cap : Nat} {M : List Pls.Pl} (h : PO w B (some ⟨g, 0, none⟩) n cap M) (i : Nat) (hi : i < M.length) : Pls.PlAt w g (0 + i * 4) (M.getD i Pls.zeroL) := by
  have hr := h.row
  have hc := fun r (hr4 : r < 4) (u : Value) (hu : (pcells (M.getD i Pls.zeroL))[r]? = some u) => own_cells hr ((pflat_at M i r hi hr4).trans hu)
  rw [Nat.zero_add]
  exact ⟨hc 0 (by omega) _ rfl, hc 1 (by omega) _ rfl, hc 2 (by omega) _ rfl, hc 3 (by omega) _ rfl⟩
theorem PO.crash {w : World} {B g n cap : Nat} {M : List Pls.Pl} (h : PO w B (some ⟨g, 0, none⟩) n cap M) (k : Nat) (hk : k < M.length) : PO (w.setCell ⟨g, k * 4 + 3, none⟩ (.slice none 0 0)) B (some ⟨g, 0, none⟩) n cap (M.set k (crash (M.getD k Pls.zeroL))) := by
  refine ⟨by rw [List.length_set]; exact h.len, ?_, fun y hy => ?_, fun y hy q hq => ?_⟩
  · have := h.row.stored (k * 4 + 3) (.slice none 0 0)
    rw [pflat_crash M k hk] at this
    exact this.1
  · rcases List.mem_or_eq_of_mem_set hy with hy | rfl
    · exact ownsRow_setCell_other (h.its y hy) (fun e => h.far y hy g e rfl) _
    · exact World.ownsRow_nil _ _ _ _
  · rcases List.mem_or_eq_of_mem_set hy with hy | rfl
    · exact h.far y hy q hq
    · simp [Clus.crash, Value.ownBlock] at hq
theorem PO.ls {w : World} {B : Nat} {a : Option Addr} {n cap : Nat} {M : List Pls.Pl} (h : PO w B a n cap M) : Pls.LsAt w a M := by
  intro hne
  have hn : 0 < n := by rw [← h.len]; exact List.length_pos_iff.2 hne
  obtain ⟨g, rfl, _, hl⟩ := h.head hn
  exact ⟨g, 0, rfl, hl, fun i hi => ⟨h.pl i hi, Own.own_at (h.its _ (Pls.getD_mem hi))⟩⟩
theorem nodes_at {w : World} {B : Nat} {a : Option Addr} {n cap : Nat} {l : List Nodes.D} (h : w.ownsRow B 42 2 (.slice a n cap) n (nflat l)) (hn : l.length = n) : Nodes.LAt w a l := by
  intro hne
  obtain ⟨g, c, hv, _, _, hl⟩ := own_some h (by rw [← hn]; exact List.length_pos_iff.2 hne)
  simp only [Value.slice.injEq] at hv
  obtain ⟨rfl, _⟩ := hv
  refine ⟨g, 0, rfl, hl, fun i hi => ?_⟩
  rw [Nat.zero_add]
  refine ⟨?_, ?_⟩
  · refine own_cells h ?_
    rw [nflat_get l _ (by omega), Nodes.icell, show (i * 2) % 2 = 0 by omega, show (i * 2) / 2 = i by omega]; simp
  · refine own_cells h ?_
    rw [nflat_get l _ (by omega), Nodes.icell, show (i * 2 + 1) % 2 = 1 by omega, show (i * 2 + 1) / 2 = i by omega]; simp

/-- A cluster as a value. -/
def clV (c : Cl) : Value := .agg #[.int .i64 c.now, .int .i64 c.nx, .int .i64 c.lim, .int .i64 c.lost, .slice c.na c.ns.length c.nc, .slice c.ca c.cs.length c.cc, .slice c.pa c.ps.length c.pc]
/-- A cluster whose rows the call has made itself. -/
structure CO (w : World) (B : Nat) (c : Cl) : Prop where
  n : w.ownsRow B 42 2 (.slice c.na c.ns.length c.nc) c.ns.length (nflat c.ns)
  m : w.ownsRow B 42 2 (.slice c.ca c.cs.length c.cc) c.cs.length (nflat c.cs)
  p : PO w B c.pa c.ps.length c.pc c.ps
  fn : ∀ q, (Value.slice c.na c.ns.length c.nc).ownBlock = some q → (Value.slice c.pa c.ps.length c.pc).ownBlock ≠ some q
  fm : ∀ q, (Value.slice c.ca c.cs.length c.cc).ownBlock = some q → (Value.slice c.pa c.ps.length c.pc).ownBlock ≠ some q
theorem CO.below {w w' : World} {B C : Nat} {c : Cl} (h : CO w B c) (hb : Below C w w') (hC : w.heap.size ≤ C) : CO w' B c := ⟨own_below h.n hb hC, own_below h.m hb hC, h.p.below hb hC, h.fn, h.fm⟩
theorem CO.le {w : World} {B C : Nat} {c : Cl} (h : CO w B c) (hC : C ≤ B) : CO w C c := ⟨own_le h.n hC, own_le h.m hC, h.p.le hC, h.fn, h.fm⟩
theorem CO.set {w : World} {B : Nat} {c : Cl} (h : CO w B c) {p : Addr} (hp : p.block < B) (v : Value) : CO (w.setCell p v) B c := ⟨ownsRow_setCell_below h.n hp v, ownsRow_setCell_below h.m hp v, h.p.set hp v, h.fn, h.fm⟩
theorem CO.at {w : World} {B : Nat} {c : Cl} (h : CO w B c) : ClAt w c := ⟨nodes_at h.n rfl, nodes_at h.m rfl, h.p.ls⟩
/-- A cluster whose place k has lost its items. -/
def crashCl (c : Cl) (k : Nat) : Cl := ⟨c.now, c.nx, c.lim, c.lost, c.na, c.nc, c.ns, c.ca, c.cc, c.cs, c.pa, c.pc, c.ps.set k (crash (c.ps.getD k Pls.zeroL))⟩
theorem crashV (c : Cl) (k : Nat) : clV (crashCl c k) = clV c := by simp [clV, crashCl]
theorem CO.crash {w : World} {B : Nat} {c : Cl} {g : Nat} (h : CO w B c) (hg : c.pa = some ⟨g, 0, none⟩) (k : Nat) (hk : k < c.ps.length) : CO (w.setCell ⟨g, k * 4 + 3, none⟩ (.slice none 0 0)) B (crashCl c k) := by
  have hp := h.p
  have h1 := h.fn
  have h2 := h.fm
  rw [hg] at hp h1 h2
  have e : (Value.slice (some ⟨g, 0, none⟩) c.ps.length c.pc).ownBlock = some g := rfl
  have el : (c.ps.set k (Clus.crash (c.ps.getD k Pls.zeroL))).length = c.ps.length := List.length_set
  refine ⟨ownsRow_setCell_other h.n (fun h' => h1 g h' e) _, ownsRow_setCell_other h.m (fun h' => h2 g h' e) _, ?_, ?_, ?_⟩
  · show PO _ B c.pa (c.ps.set k (Clus.crash (c.ps.getD k Pls.zeroL))).length c.pc _
    rw [el, hg]
    exact hp.crash k hk
  · show ∀ q, (Value.slice c.na c.ns.length c.nc).ownBlock = some q → (Value.slice c.pa (c.ps.set k (Clus.crash (c.ps.getD k Pls.zeroL))).length c.pc).ownBlock ≠ some q
    rw [el, hg]; exact h1
  · show ∀ q, (Value.slice c.ca c.cs.length c.cc).ownBlock = some q → (Value.slice c.pa (c.ps.set k (Clus.crash (c.ps.getD k Pls.zeroL))).length c.pc).ownBlock ≠ some q
    rw [el, hg]; exact h2
/-- How l7Own ends, as a cluster. -/
theorem OwnEnd.co {now nx lim lost : Int} {ns cs : List Nodes.D} {L : List Pls.Pl} {w w' : World} {e : Ending} (h : OwnEnd now nx lim lost ns cs L w e w') : ∃ a1 c1 a2 c2 a3 c3 M, e = .returned (.agg #[.int .i64 now, .int .i64 nx, .int .i64 lim, .int .i64 lost, .slice a1 ns.length c1, .slice a2 cs.length c2, .slice a3 M.length c3]) ∧ M.map Pls.core = L.map Pls.core ∧ CO w' w.heap.size ⟨now, nx, lim, lost, a1, c1, ns, a2, c2, cs, a3, c3, M⟩ ∧ Below w.heap.size w w' := by
  obtain ⟨a1, c1, a2, c2, a3, c3, M, he, hn, hm, hp, f1, f2, hM, hb⟩ := h
  have hl : L.length = M.length := hp.len.symm
  rw [hl] at hp f1 f2 he
  exact ⟨a1, c1, a2, c2, a3, c3, M, he, hM, ⟨hn, hm, hp, f1, f2⟩, hb⟩
def noCl : Cl := ⟨0, 0, 0, 0, none, 0, [], none, 0, [], none, 0, []⟩
def noCC : CC := ⟨0, 0, 0, 0, [], [], []⟩
theorem plain_no : plain noCl = noCC := rfl
theorem CO.no (w : World) (B : Nat) : CO w B noCl := ⟨World.ownsRow_nil _ _ _ _, World.ownsRow_nil _ _ _ _, PO.nil w B, fun q h => by simp [noCl, Value.ownBlock] at h, fun q h => by simp [noCl, Value.ownBlock] at h⟩
end Clus
end Go.Proofs.YthgcfklfpllgnaaDoor
/-
  Rows of nodes that may be written, and the marks. No Go function is spoken of here.
-/
namespace Go.Proofs.YthgcfklfpllgnaaDoor
namespace NodesM
open Go.RowKit Base NumText Marks
set_option linter.unusedVariables false

/-- Cell j of a row that bears the marks from k on. -/
def mcell (k : Int) (j : Nat) : Value := if j % 2 = 0 then .string (mtxt (k + j).toNat) else .int .i64 (k + j)
theorem mc0 (k : Int) (j : Nat) (h : j % 2 = 0) : mcell k j = .string (mtxt (k + j).toNat) := by unfold mcell; rw [if_pos h]
theorem mc1 (k : Int) (j : Nat) (h : j % 2 = 1) : mcell k j = .int .i64 (k + j) := by unfold mcell; rw [if_neg (by omega)]
def mhalf (f : Nat → Value) (k : Int) (i j : Nat) : Value := if j < i * 2 then mcell k j else f j
theorem mhalf_step (f : Nat → Value) (k : Int) (i j : Nat) : (if j = i * 2 + 1 then (.int .i64 (k + i * 2 + 1) : Value) else if j = i * 2 then (.string (mtxt (k + i * 2).toNat) : Value) else mhalf f k i j) = mhalf f k (i + 1) j := by
  unfold mhalf
  by_cases h1 : j = i * 2 + 1
  · subst h1
    rw [if_pos rfl, if_pos (by omega), mc1 _ _ (by omega), show k + ((i * 2 + 1 : Nat) : Int) = k + i * 2 + 1 by omega]
  rw [if_neg h1]
  by_cases h0 : j = i * 2
  · subst h0
    rw [if_pos rfl, if_pos (by omega), mc0 _ _ (by omega), show k + ((i * 2 : Nat) : Int) = k + i * 2 by omega]
  rw [if_neg h0]
  by_cases h : j < i * 2
  · rw [if_pos h, if_pos (by omega)]
  · rw [if_neg h, if_neg (by omega)]

/-- A slice of n elements that may be written: empty, or the head of a row of its own; r names the row. -/
def Ours (w : World) (a : Option Addr) (n : Nat) (f : Nat → Value) (r : Option Nat) : Prop :=
  (n = 0 ∧ r = none) ∨ ∃ g, a = some ⟨g, 0, none⟩ ∧ r = some g ∧ RowAt w g 42 (n * 2) f
theorem Ours.below {w w' : World} {a : Option Addr} {n : Nat} {f : Nat → Value} {r : Option Nat} {B : Nat} (h : Ours w a n f r) (hb : Below B w w') (hB : w.heap.size ≤ B) : Ours w' a n f r := by
  rcases h with h | ⟨g, ha, hr, h⟩
  · exact .inl h
  · exact .inr ⟨g, ha, hr, h.below hb (Nat.lt_of_lt_of_le h.lt hB)⟩
theorem Ours.gb {w w' : World} {a : Option Addr} {n : Nat} {f : Nat → Value} {r q : Option Nat} (h : Ours w a n f r) (hg : w.grownBy w' q) (hne : ∀ g, r = some g → some g ≠ q) : Ours w' a n f r := by
  rcases h with h | ⟨g, ha, hr, h⟩
  · exact .inl h
  · exact .inr ⟨g, ha, hr, h.of_block (hg.block g h.lt (hne g hr))⟩
theorem Ours.lt {w : World} {a : Option Addr} {n : Nat} {f : Nat → Value} {r : Option Nat} (h : Ours w a n f r) : ∀ g, r = some g → g < w.heap.size := by
  intro g e
  rcases h with ⟨_, hr⟩ | ⟨g', _, hr, h⟩
  · rw [hr] at e; simp at e
  · rw [hr] at e; simp at e; rw [← e]; exact h.lt
theorem Ours.congr {w : World} {a : Option Addr} {n : Nat} {f f' : Nat → Value} {r : Option Nat} (h : Ours w a n f r) (e : ∀ i, i < n * 2 → f i = f' i) : Ours w a n f' r := by
  rcases h with h | ⟨g, ha, hr, h⟩
  · exact .inl h
  · exact .inr ⟨g, ha, hr, h.congr e⟩
theorem Ours.row {w : World} {b n : Nat} {f : Nat → Value} (h : w.rowIs b 42 (n * 2) f) : Ours w (some ⟨b, 0, none⟩) n f (some b) :=
  .inr ⟨b, rfl, rfl, RowAt.of_row h⟩
end NodesM
end Go.Proofs.YthgcfklfpllgnaaDoor
/-
  Contracts of the law files' markNodeS: the marks are written into a row (written by a program of mine).
-/
namespace Go.Proofs.YthgcfklfpllgnaaDoor
namespace NodesM
open Go.RowKit Base NumText Marks
set_option linter.unusedVariables false

set_option maxRecDepth 10000 in
set_option maxHeartbeats 2000000 in
theorem row_mark (g cap n : Nat) (f : Nat → Value) (k : Int) (w : World) (hr : RowAt w g 42 (n * 2) f) (hk0 : 0 < k) (hk1 : k ≤ 1000000000000) (hn : n ≤ 1000000000) :
    Calls Tryd.prog 10 #[.slice (some ⟨g, 0, none⟩) n cap, .int .i64 k] w fun e w' =>
      e = .returned (.int .i64 (k + n * 2)) ∧ RowAt w' g 42 (n * 2) (mcell k) ∧ w.grownBy w' (some g) := by
  have HR := hide hr
  clear hr
  go_enter Tryd.func10, Tryd.ntmps10
  go_wp2
  go_loopw [1, 5] (fun kv iv wr => ∃ (i : Nat) (z : Int), i ≤ n ∧ 0 < z ∧ z ≤ 1000000000000 + n * 2 ∧ iv = .int .i64 i ∧ kv = .int .i64 z ∧ Hid (z = k + i * 2) ∧ Hid (RowAt wr g 42 (n * 2) (mhalf f k i)) ∧ Hid (w.grownBy wr (some g))) (fun _ iv _ => n - (intOf iv).toNat)
  case atStart => exact ⟨0, k, Nat.zero_le _, hk0, by omega, rfl, rfl, hide (by simp), hide ((unhide HR).congr (fun j _ => by simp [mhalf])), hide (gb_refl _ _)⟩
  case round =>
    obtain ⟨i, z, hi, hz0, hz1, rfl, rfl, hz, hrow, hgb⟩ := hrel
    by_cases hlt : i < n
    · have hzn : z + 2 ≤ 1000000000000 + n * 2 := by have := unhide hz; omega
      have T0 := hide (fun w => text_any (z) w (by omega) (by omega))
      have hst := hide (fun j => mhalf_step f k i j)
      rw [← unhide hz] at hst
      go_wp2_with fail
      refine (unhide T0 _).mono ?_
      rintro e w1 ⟨rfl, hb1⟩
      have r1 := (unhide hrow).below hb1 (unhide hrow).lt
      have G1 := hide (gb_trans (unhide hgb) (gb_below (r := some g) hb1 (Nat.le_refl _)))
      have d0 := r1.cell (i := i * 2) (by omega)
      have f0 := r1.frozen (i * 2)
      have d1 := r1.cell (i := i * 2 + 1) (by omega)
      have f1 := r1.frozen (i * 2 + 1)
      generalize (mhalf f k i (i * 2)) = o0 at d0
      generalize (mhalf f k i (i * 2 + 1)) = o1 at d1
      have R1 := hide r1
      clear r1 hb1
      have RE := hide (((unhide R1).set (i * 2) (.string (mtxt (z).toNat))).set (i * 2 + 1) (.int .i64 (z + 1)))
      have GE := hide (gb_set (gb_set (unhide G1) (i * 2) (.string (mtxt (z).toNat))) (i * 2 + 1) (.int .i64 (z + 1)))
      go_wp2
      go_roundw
      case rel => exact ⟨i + 1, z + 1 + 1, by omega, by omega, by omega, by go_num, rfl, hide (by have := unhide hz; omega), hide ((unhide RE).congr (fun j _ => unhide hst j)), GE⟩
      case measure => simp [intOf]; omega
    · obtain rfl : i = n := by omega
      have HZ := hide (unhide hz)
      go_wp2
      go_ret
      exact ⟨ret_int (unhide HZ), (unhide hrow).congr (fun j hj => by unfold mhalf; rw [if_pos hj]), unhide hgb⟩

set_option maxHeartbeats 400000 in
theorem mark_any (a : Option Addr) (cap n : Nat) (f : Nat → Value) (r : Option Nat) (k : Int) (w : World) (hr : Ours w a n f r) (hk0 : 0 < k) (hk1 : k ≤ 1000000000000) (hn : n ≤ 1000000000) :
    Calls Tryd.prog 10 #[.slice a n cap, .int .i64 k] w fun e w' => e = .returned (.int .i64 (k + n * 2)) ∧ Ours w' a n (mcell k) r ∧ w.grownBy w' r := by
  rcases hr with ⟨h0, hr0⟩ | ⟨g, rfl, rfl, h⟩
  · subst h0 hr0
    go_enter Tryd.func10, Tryd.ntmps10
    go_wp2
    go_loop [1, 5] (fun kv i => i = .int .i64 0 ∧ kv = .int .i64 k) (fun _ _ => 0)
    case atStart => exact ⟨rfl, rfl⟩
    case round =>
      obtain ⟨rfl, rfl⟩ := hrel
      go_wp2
      go_ret
      exact ⟨ret_int (by simp), .inl ⟨rfl, rfl⟩, gb_refl _ _⟩
  · exact (row_mark g cap n f k w h hk0 hk1 hn).mono fun e w' ⟨he, h1, h2⟩ => ⟨he, .inr ⟨g, rfl, rfl, h1⟩, h2⟩
end NodesM
end Go.Proofs.YthgcfklfpllgnaaDoor
