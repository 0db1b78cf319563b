/-
  Rows of texts that may be written, and the marks. No Go function is spoken of here.
-/
import Derived.Test.YtkodgbalhnbhcaaGreatDoorZ3
import Derived.Test.YtkodgbalhnbhcaaGreatDoorRows
import Derived.Test.YtkodgbalhnbhcaaGreatDoorZ29
import Derived.Test.YtkodgbalhnbhcaaGreatDoorZ21
import Derived.Test.YtkodgbalhnbhcaaGreatDoorZ24
namespace Go.Proofs.YtkodgbalhnbhcaaGreatDoor
namespace StringsM
open Go.RowKit Base NumText Marks
set_option linter.unusedVariables false

/-- Cell j of a row that bears the marks from k on. -/
def mcell (k : Int) (j : Nat) : Value := .string (mtxt (k + j).toNat)
theorem mc0 (k : Int) (j : Nat) (h : j % 1 = 0) : mcell k j = .string (mtxt (k + j).toNat) := rfl
def mhalf (f : Nat → Value) (k : Int) (i j : Nat) : Value := if j < i then mcell k j else f j
theorem mhalf_step (f : Nat → Value) (k : Int) (i j : Nat) : (if j = i then (.string (mtxt (k + i).toNat) : Value) else mhalf f k i j) = mhalf f k (i + 1) j := by
  unfold mhalf
  by_cases h0 : j = i
  · rw [if_pos h0, if_pos (by omega), mc0 _ _ (by omega), show k + (j : Int) = k + i by omega]
  rw [if_neg h0]
  by_cases h : j < i
  · rw [if_pos h, if_pos (by omega)]
  · rw [if_neg h, if_neg (by omega)]

/-- A slice of n elements that may be written: empty, or the head of a row of its own; r names the row. -/
def Ours (w : World) (a : Option Addr) (n : Nat) (f : Nat → Value) (r : Option Nat) : Prop :=
  (n = 0 ∧ r = none) ∨ ∃ g, a = some ⟨g, 0, none⟩ ∧ r = some g ∧ RowAt w g 9 (n) f
theorem Ours.below {w w' : World} {a : Option Addr} {n : Nat} {f : Nat → Value} {r : Option Nat} {B : Nat} (h : Ours w a n f r) (hb : Below B w w') (hB : w.heap.size ≤ B) : Ours w' a n f r := by
  rcases h with h | ⟨g, ha, hr, h⟩
  · exact .inl h
  · exact .inr ⟨g, ha, hr, h.below hb (Nat.lt_of_lt_of_le h.lt hB)⟩
theorem Ours.gb {w w' : World} {a : Option Addr} {n : Nat} {f : Nat → Value} {r q : Option Nat} (h : Ours w a n f r) (hg : w.grownBy w' q) (hne : ∀ g, r = some g → some g ≠ q) : Ours w' a n f r := by
  rcases h with h | ⟨g, ha, hr, h⟩
  · exact .inl h
  · exact .inr ⟨g, ha, hr, h.of_block (hg.block g h.lt (hne g hr))⟩
theorem Ours.lt {w : World} {a : Option Addr} {n : Nat} {f : Nat → Value} {r : Option Nat} (h : Ours w a n f r) : ∀ g, r = some g → g < w.heap.size := by
  intro g e
  rcases h with ⟨_, hr⟩ | ⟨g', _, hr, h⟩
  · rw [hr] at e; simp at e
  · rw [hr] at e; simp at e; rw [← e]; exact h.lt
theorem Ours.congr {w : World} {a : Option Addr} {n : Nat} {f f' : Nat → Value} {r : Option Nat} (h : Ours w a n f r) (e : ∀ i, i < n → f i = f' i) : Ours w a n f' r := by
  rcases h with h | ⟨g, ha, hr, h⟩
  · exact .inl h
  · exact .inr ⟨g, ha, hr, h.congr e⟩
theorem Ours.row {w : World} {b n : Nat} {f : Nat → Value} (h : w.rowIs b 9 (n) f) : Ours w (some ⟨b, 0, none⟩) n f (some b) :=
  .inr ⟨b, rfl, rfl, RowAt.of_row h⟩
end StringsM
end Go.Proofs.YtkodgbalhnbhcaaGreatDoor
/-
  What the laws over clusters share: a fresh cluster held against another, and marked. No condition but their sizes.
-/
namespace Go.Proofs.YtkodgbalhnbhcaaGreatDoor
namespace Clus
open Go.RowKit Base Marks Keep
set_option linter.unusedVariables false

theorem core_fits {L M : List Pls.Pl} (h : M.map Pls.core = L.map Pls.core) (hc : ∀ x ∈ M, x.cap = x.its.length) (hf : ∀ x ∈ L, Pls.Fits x) : ∀ x ∈ M, Pls.Fits x := by
  intro x hx
  have h2 : Pls.core x ∈ L.map Pls.core := by rw [← h]; exact List.mem_map.2 ⟨x, hx, rfl⟩
  obtain ⟨y, hy, e⟩ := List.mem_map.1 h2
  obtain ⟨f1, f2, f3, f4⟩ := hf y hy
  have e1 : y.name = x.name := congrArg Pls.Core.name e
  have e2 : y.its = x.its := congrArg Pls.Core.its e
  rw [e1] at f1
  rw [e2] at f3 f4
  exact ⟨f1, by rw [hc x hx]; exact Nat.le_refl _, f3, f4⟩
theorem cr_caps {w : World} {b1 b2 b3 : Nat} {ns cs : List Nodes.D} {L : List Pls.Pl} (h : CR w b1 b2 b3 ns cs L) : ∀ x ∈ L, x.cap = x.its.length := by
  intro x hx
  obtain ⟨i, hi, rfl⟩ := List.getElem_of_mem hx
  have := (h.p.str i hi).2.2
  rw [List.getD_eq_getElem?_getD, List.getElem?_eq_getElem hi] at this
  exact this
theorem cr_at {w : World} {b1 b2 b3 : Nat} {ns cs : List Nodes.D} {L : List Pls.Pl} (h : CR w b1 b2 b3 ns cs L) (now nx lim lost : Int) : ClAt w ⟨now, nx, lim, lost, some ⟨b1, 0, none⟩, ns.length, ns, some ⟨b2, 0, none⟩, cs.length, cs, some ⟨b3, 0, none⟩, L.length, L⟩ :=
  ⟨Nodes.LAt.row h.n, Nodes.LAt.row h.c, h.p.ls⟩
theorem cr_range {w : World} {b1 b2 b3 B : Nat} {ns cs : List Nodes.D} {L : List Pls.Pl} (h : CR w b1 b2 b3 ns cs L) (hB : B ≤ b1) : ∀ q ∈ b1 :: b2 :: b3 :: L.map Pls.blk, B ≤ q ∧ q < w.heap.size := by
  have h12 := h.b12
  have h23 := h.b23
  intro q hq
  rcases List.mem_cons.1 hq with rfl | hq
  · exact ⟨hB, h.n.lt⟩
  rcases List.mem_cons.1 hq with rfl | hq
  · exact ⟨by omega, h.c.lt⟩
  rcases List.mem_cons.1 hq with rfl | hq
  · exact ⟨by omega, h.p.lt⟩
  obtain ⟨y, hy, rfl⟩ := List.mem_map.1 hq
  obtain ⟨i, hi, rfl⟩ := List.getElem_of_mem hy
  have h1 := h.p.far i hi
  have h2 := (h.p.str i hi).lt
  rw [List.getD_eq_getElem?_getD, List.getElem?_eq_getElem hi, Option.getD_some] at h1 h2
  exact ⟨by omega, h2⟩
theorem ours_keeps {w w' : World} {S : List Nat} {a : Option Addr} {n : Nat} {f : Nat → Value} {r : Option Nat} (h : StringsM.Ours w a n f r) (hk : Keeps S w w') (hn : ∀ q, r = some q → q ∉ S) : StringsM.Ours w' a n f r := by
  rcases h with h | ⟨g, ha, hr, h⟩
  · exact .inl h
  · exact .inr ⟨g, ha, hr, h.of_block (hk.block g h.lt (hn g hr))⟩
theorem core_small {L M : List Pls.Pl} (h : L.map Pls.core = M.map Pls.core) (hs : ∀ x ∈ M, x.its.length ≤ 1048576) : ∀ x ∈ L, x.its.length ≤ 1048576 := by
  intro x hx
  have h2 : Pls.core x ∈ M.map Pls.core := by rw [← h]; exact List.mem_map.2 ⟨x, hx, rfl⟩
  obtain ⟨y, hy, e⟩ := List.mem_map.1 h2
  have e2 : y.its = x.its := congrArg Pls.Core.its e
  rw [← e2]; exact hs y hy
theorem eq_fresh (c : Cl) (hs : Small c) (b1 b2 b3 : Nat) (L : List Pls.Pl) (b1' b2' b3' : Nat) (L' : List Pls.Pl) (w' : World) (hR : CR w' b1 b2 b3 c.ns c.cs L) (hL : L.map Pls.core = c.ps.map Pls.core) (hR' : CR w' b1' b2' b3' c.ns c.cs L') (hL' : L'.map Pls.core = c.ps.map Pls.core) :
    Calls Tryz.prog 12 #[.agg #[.int .i64 c.now, .int .i64 c.nx, .int .i64 c.lim, .int .i64 c.lost, .slice (some ⟨b1, 0, none⟩) c.ns.length c.ns.length, .slice (some ⟨b2, 0, none⟩) c.cs.length c.cs.length, .slice (some ⟨b3, 0, none⟩) c.ps.length c.ps.length], .agg #[.int .i64 c.now, .int .i64 c.nx, .int .i64 c.lim, .int .i64 c.lost, .slice (some ⟨b1', 0, none⟩) c.ns.length c.ns.length, .slice (some ⟨b2', 0, none⟩) c.cs.length c.cs.length, .slice (some ⟨b3', 0, none⟩) c.ps.length c.ps.length]] w' fun e w'' => e = .returned (.bool true) ∧ Below w'.heap.size w' w'' := by
  have h := eq_same ⟨c.now, c.nx, c.lim, c.lost, some ⟨b1, 0, none⟩, c.ns.length, c.ns, some ⟨b2, 0, none⟩, c.cs.length, c.cs, some ⟨b3, 0, none⟩, L.length, L⟩ ⟨c.now, c.nx, c.lim, c.lost, some ⟨b1', 0, none⟩, c.ns.length, c.ns, some ⟨b2', 0, none⟩, c.cs.length, c.cs, some ⟨b3', 0, none⟩, L'.length, L'⟩ w' (cr_at hR _ _ _ _) (cr_at hR' _ _ _ _) (by simp only [plain, hL, hL']) ⟨hs.sn, hs.sc, by show L.length ≤ _; rw [Pls.map_len hL]; exact hs.sp, core_small hL hs.si⟩
  dsimp only at h
  rw [Pls.map_len hL, Pls.map_len hL'] at h
  exact h
theorem mark_fresh (c : Cl) (hs : Small c) (ht : cnt c.ps c.ps.length ≤ 1048576) (b1 b2 b3 : Nat) (L : List Pls.Pl) (w' : World) (hR : CR w' b1 b2 b3 c.ns c.cs L) (hL : L.map Pls.core = c.ps.map Pls.core) :
    Calls Tryz.prog 13 #[.agg #[.int .i64 c.now, .int .i64 c.nx, .int .i64 c.lim, .int .i64 c.lost, .slice (some ⟨b1, 0, none⟩) c.ns.length c.ns.length, .slice (some ⟨b2, 0, none⟩) c.cs.length c.cs.length, .slice (some ⟨b3, 0, none⟩) c.ps.length c.ps.length], .int .i64 1] w' fun e w'' => ∃ k : Int, e = .returned (.int .i64 k) ∧ 0 ≤ k ∧ Keeps (b1 :: b2 :: b3 :: L.map Pls.blk) w' w'' := by
  have h := mark_any c.now c.nx c.lim c.lost b1 b2 b3 c.ns c.cs L w' hR hs.sn hs.sc (by rw [Pls.map_len hL]; exact hs.sp) (by rw [cnt_all, hL, ← cnt_all]; exact ht)
  rw [Pls.map_len hL] at h
  refine h.mono ?_
  rintro e w'' ⟨rfl, _, hk⟩
  exact ⟨_, rfl, by unfold mk; omega, hk⟩
end Clus
end Go.Proofs.YtkodgbalhnbhcaaGreatDoor
/-
  How large a cluster's answer can be, plainly. No Go function is spoken of here.
-/
namespace Go.Proofs.YtkodgbalhnbhcaaGreatDoor
namespace Clus
open Go.RowKit Base
set_option linter.unusedVariables false

def its (ps : List Pls.Core) : Nat := (ps.map (·.its.length)).sum
structure SmC (C : CC) : Prop where
  n : C.ns.length ≤ 1048576
  c : C.cs.length ≤ 1048576
  p : C.ps.length ≤ 1048576
  i : its C.ps ≤ 1048576
theorem itc_mem {ps : List Pls.Core} {p : Pls.Core} (h : p ∈ ps) : p.its.length ≤ its ps := by
  induction ps with
  | nil => simp at h
  | cons x r ih =>
    have e : its (x :: r) = x.its.length + its r := by simp [its]
    rcases List.mem_cons.1 h with rfl | h
    · omega
    · have := ih h; omega
theorem its_set {ps : List Pls.Core} {y : Pls.Core} (hy : y.its = []) (k : Nat) : its (ps.set k y) ≤ its ps := by
  induction ps generalizing k with
  | nil => simp [its]
  | cons x r ih =>
    have e : its (x :: r) = x.its.length + its r := by simp [its]
    cases k with
    | zero =>
      have e2 : its ((x :: r).set 0 y) = y.its.length + its r := by simp [its]
      rw [e, e2, hy]; simp
    | succ k =>
      have e2 : its ((x :: r).set (k + 1) y) = x.its.length + its (r.set k y) := by simp [its]
      have := ih k
      omega
theorem SmC.of {c : Cl} (h : Small c) (hc : cnt c.ps c.ps.length ≤ 1048576) : SmC (plain c) := by
  refine ⟨h.sn, h.sc, ?_, ?_⟩
  · show (c.ps.map Pls.core).length ≤ _; rw [List.length_map]; exact h.sp
  · rw [cnt_all] at hc; exact hc
theorem SmC.cl {c : Cl} (h : SmC (plain c)) : Small c ∧ cnt c.ps c.ps.length ≤ 1048576 := by
  have h1 := h.p
  have h2 := h.i
  have e : (plain c).ps = c.ps.map Pls.core := rfl
  rw [e] at h1 h2
  rw [List.length_map] at h1
  refine ⟨⟨h.n, h.c, h1, fun x hx => ?_⟩, by rw [cnt_all]; exact h2⟩
  have := itc_mem (ps := c.ps.map Pls.core) (p := Pls.core x) (List.mem_map_of_mem hx)
  have e2 : (Pls.core x).its = x.its := rfl
  rw [e2] at this
  omega
/-- All its rows lie below. -/
def CO.top (x : Cl) (T : Nat) : Prop := (∀ q, (Value.slice x.na x.ns.length x.nc).ownBlock = some q → q < T) ∧ (∀ q, (Value.slice x.ca x.cs.length x.cc).ownBlock = some q → q < T) ∧ (∀ q, (Value.slice x.pa x.ps.length x.pc).ownBlock = some q → q < T) ∧ (∀ y ∈ x.ps, ∀ q, (Value.slice y.a y.its.length y.cap).ownBlock = some q → q < T)
theorem CO.top_of {w : World} {B : Nat} {x : Cl} (h : CO w B x) : CO.top x w.heap.size := ⟨fun q hq => (h.n.lt q hq).2, fun q hq => (h.m.lt q hq).2, fun q hq => (h.p.row.lt q hq).2, fun y hy q hq => ((h.p.its y hy).lt q hq).2⟩
theorem sm_no : SmC noCC := ⟨by simp [noCC], by simp [noCC], by simp [noCC], by simp [noCC, its]⟩
theorem sm_crash {C : CC} (h : SmC C) (nm : ByteArray) : SmC (crR C nm).1 := by
  unfold crR
  split
  · split
    · refine ⟨h.n, h.c, ?_, ?_⟩
      · show (C.ps.set _ _).length ≤ _; rw [List.length_set]; exact h.p
      · exact Nat.le_trans (its_set (y := crashC _) rfl _) h.i
    · exact sm_no
  · exact sm_no
end Clus
end Go.Proofs.YtkodgbalhnbhcaaGreatDoor
/-
  For BeginMove's law: how the model ends, how large the answer is.
-/
namespace Go.Proofs.YtkodgbalhnbhcaaGreatDoor
namespace BeginMoveL
open Go.RowKit Base Clus Marks Fleet Keep Plc
set_option linter.unusedVariables false

/-- How the model's BeginMove ends. -/
def SpecTells (R : CC × Bool) (w : World) (e : Ending) (w' : World) : Prop := ∃ c : Cl, e = .returned (.tuple #[clV c, .bool R.2]) ∧ plain c = R.1 ∧ CO w' w.heap.size c ∧ Below w.heap.size w w'
theorem begin_spec2 (now nx lim lost : Int) (b1 b2 b3 : Nat) (ns cs : List Nodes.D) (L : List Pls.Pl) (bn : Nat) (nd : List Nodes.D) (w : World) (hR : CR w b1 b2 b3 ns cs L) (hN : w.rowIs bn 76 (nd.length * 2) (Nodes.icell nd)) (ln : ns.length ≤ 1048576) (fn : ∀ x ∈ ns, Nodes.Fits x) (lc : cs.length ≤ 1048576) (fc : ∀ x ∈ cs, Nodes.Fits x) (lp : L.length ≤ 1048576) (fp : ∀ x ∈ L, Pls.Fits x) (ld : nd.length ≤ 1048576) (fd : ∀ x ∈ nd, Nodes.Fits x) :
    Calls Tryz.prog 18 #[.agg #[.int .i64 now, .int .i64 nx, .int .i64 lim, .int .i64 lost, .slice (some ⟨b1, 0, none⟩) ns.length ns.length, .slice (some ⟨b2, 0, none⟩) cs.length cs.length, .slice (some ⟨b3, 0, none⟩) L.length L.length], .slice (some ⟨bn, 0, none⟩) nd.length nd.length] w (SpecTells (Beg.bmR ⟨now, nx, lim, lost, ns, cs, L.map Pls.core⟩ nd) w) :=
  (Beg.beginMove_spec now nx lim lost b1 b2 b3 ns cs L bn nd w hR hN ln fn lc fc lp fp ld fd).mono (fun e w' ⟨c, ok, he, hi, hco, hb⟩ => by
    refine ⟨c, ?_, ?_, hco, hb⟩
    · rw [he, ← hi]
    · rw [← hi])
theorem its_le {ps : List Pls.Core} {n : Nat} (h : ∀ p ∈ ps, p.its.length ≤ n) : its ps ≤ n * ps.length := by
  induction ps with
  | nil => simp [its]
  | cons x r ih =>
    have e : its (x :: r) = x.its.length + its r := by simp [its]
    have h1 := h x List.mem_cons_self
    have h2 := ih (fun p hp => h p (List.mem_cons_of_mem _ hp))
    rw [e, List.length_cons, Nat.mul_add]
    omega
theorem sm_begin {C : CC} {L : List Pls.Pl} (hL : C.ps = L.map Pls.core) (h : SmC C) (nd : List Nodes.D) : SmC (Beg.bmR C nd).1 := by
  unfold Beg.bmR
  split
  · rename_i hc
    simp only [Bool.and_eq_true] at hc
    obtain ⟨⟨⟨hg, _⟩, hgn⟩, _⟩ := hc
    obtain ⟨o1, o2, o3⟩ := gc_ok hL hg
    obtain ⟨d1, d2, d3, d4⟩ := gc_head' hg
    have n8 := Ring.good_len d3
    have m8 := Ring.good_len hgn
    have hle := insAll_len (C.ns.map (·.name) ++ nd.map (·.name))
    simp only [List.length_append, List.length_map] at hle
    refine ⟨h.n, by show nd.length ≤ _; omega, ?_, ?_⟩
    · show ((insAll _).map _).length ≤ _
      rw [List.length_map]; omega
    · show its ((insAll (C.ns.map (·.name) ++ nd.map (·.name))).map (Beg.look C.ps C.lim)) ≤ _
      refine Nat.le_trans (its_le (n := 100) (fun p hp => ?_)) (by rw [List.length_map]; omega)
      obtain ⟨nm, _, rfl⟩ := List.mem_map.1 hp
      rcases look_in C.ps C.lim nm with h1 | h1
      · exact (o3 _ h1).2
      · rw [h1]; simp
  · exact sm_no
end BeginMoveL
end Go.Proofs.YtkodgbalhnbhcaaGreatDoor
