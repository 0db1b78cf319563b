/-
  The places where a key stands and is not old, as plain functions. No Go function is spoken of here.
-/
import Derived.Test.YthgcfklfpllgnaaDoorZ23
import Derived.Test.YthgcfklfpllgnaaDoorZ10
import Derived.Test.YthgcfklfpllgnaaDoorZ15
import Derived.Test.YthgcfklfpllgnaaDoorZ16
namespace Go.Proofs.YthgcfklfpllgnaaDoor
namespace Clus
open Go.RowKit Base GoodKey Items Store Plc
set_option linter.unusedVariables false

def standB (now : Int) (key : ByteArray) (x : Itm) : Bool := hasKey key x && !oldB x now
/-- By the first item with that key. -/
def modB (now : Int) (key : ByteArray) (its : List Itm) : Bool := match atN its key with | some k => !oldB (its.getD k zero) now | none => false
theorem mod_eq {lim nx : Int} {its : List Itm} (h : gsB lim nx its = true) (now : Int) (key : ByteArray) : modB now key its = its.any (standB now key) := by
  have hnd := (gs_nodup h).1
  unfold modB
  cases e : atN its key with
  | none =>
    unfold atN at e
    rw [List.findIdx?_eq_none_iff] at e
    symm
    rw [List.any_eq_false]
    intro x hx
    simp [standB, e x hx]
  | some k =>
    unfold atN at e
    obtain ⟨hk, h1, _⟩ := List.findIdx?_eq_some_iff_getElem.1 e
    have eg : its.getD k zero = its[k] := by simp [hk]
    show (!oldB (its.getD k zero) now) = _
    rw [eg]
    have same : ∀ x ∈ its, hasKey key x = true → x = its[k] := by
      intro x hx hh
      obtain ⟨j, hj, rfl⟩ := List.getElem_of_mem hx
      by_cases ejk : j = k
      · subst ejk; rfl
      · exfalso
        have hkk : kL its[j] = kL its[k] := by
          unfold hasKey at hh h1
          rw [Lib.toList_data, Lib.toList_data, beq_iff_eq] at hh h1
          unfold kL
          rw [hh, h1]
        have hp := List.pairwise_iff_getElem.1 hnd
        rcases Nat.lt_or_gt_of_ne ejk with hl | hl
        · exact hp j k (by simpa using hj) (by simpa using hk) hl (by simpa using hkk)
        · exact hp k j (by simpa using hk) (by simpa using hj) hl (by simpa using hkk.symm)
    cases ho : oldB its[k] now
    · symm
      rw [Bool.not_false, List.any_eq_true]
      exact ⟨its[k], List.getElem_mem hk, by simp [standB, h1, ho]⟩
    · symm
      rw [Bool.not_true, List.any_eq_false]
      intro x hx
      cases hh : hasKey key x
      · simp [standB, hh]
      · rw [same x hx hh]; simp [standB, ho]
def stayB (now : Int) (key : ByteArray) (p : Pls.Pl) : Bool := p.its.any (standB now key)
/-- The names of the first k places that have it. -/
def poN (L : List Pls.Pl) (now : Int) (key : ByteArray) (k : Nat) : List ByteArray := ((L.take k).filter (stayB now key)).map (·.name)
theorem poN_succ {L : List Pls.Pl} {now : Int} {key : ByteArray} {k : Nat} (hk : k < L.length) : poN L now key (k + 1) = if stayB now key (L.getD k Pls.zeroL) then poN L now key k ++ [(L.getD k Pls.zeroL).name] else poN L now key k := by
  unfold poN
  rw [List.take_succ_eq_append_getElem hk, List.filter_append, List.map_append]
  have e : L.getD k Pls.zeroL = L[k] := by simp [hk]
  rw [e]
  cases h : stayB now key L[k] <;> simp [h]
theorem poN_len (L : List Pls.Pl) (now : Int) (key : ByteArray) (k : Nat) : (poN L now key k).length ≤ k := by
  unfold poN
  rw [List.length_map]
  exact Nat.le_trans (List.length_filter_le _ _) (by simp; omega)
/-- What PlacesOf tells. -/
def poR (C : CC) (key : ByteArray) : List ByteArray × Bool := if gcB C && gk key.data.toList then ((C.ps.filter (fun p => p.its.any (standB C.now key))).map (·.name), true) else ([], false)
theorem poR_no {C : CC} {key : ByteArray} (h : gcB C = false ∨ gk key.data.toList = false) : poR C key = ([], false) := by
  unfold poR
  rcases h with h | h <;> simp [h]
theorem poR_yes {C : CC} {L : List Pls.Pl} {key : ByteArray} (hL : C.ps = L.map Pls.core) (h1 : gcB C = true) (h2 : gk key.data.toList = true) : poR C key = (poN L C.now key L.length, true) := by
  unfold poR poN
  rw [h1, h2, hL, List.take_length, List.filter_map]
  simp only [Bool.and_self, if_true, List.map_map]
  rfl
theorem names_size {C : CC} (h1 : NodesM.gnB C.ns = true) (h2 : C.cs = [] ∨ NodesM.gnB C.cs = true) {k : Nat} (hk : k < (names C).length) : ((names C).getD k ByteArray.empty).size ≤ 8 := by
  have hm : (names C).getD k ByteArray.empty ∈ names C := by rw [List.getD_eq_getElem?_getD, List.getElem?_eq_getElem hk]; simp
  have key : ∀ l : List Nodes.D, NodesM.gnB l = true → ∀ x ∈ l, x.name.size ≤ 8 := fun l hl x hx => by
    obtain ⟨i, hi, rfl⟩ := List.getElem_of_mem hx
    have := (Ring.node_bd (Ring.good_at hl hi)).1
    rw [List.getD_eq_getElem?_getD, List.getElem?_eq_getElem hi] at this
    exact this
  rcases List.mem_append.1 ((insAll_mem _ _).1 hm) with h | h
  · obtain ⟨x, hx, e⟩ := List.mem_map.1 h
    rw [← e]; exact key _ h1 x hx
  · obtain ⟨x, hx, e⟩ := List.mem_map.1 h
    rw [← e]
    rcases h2 with h2 | h2
    · rw [h2] at hx; simp at hx
    · exact key _ h2 x hx
theorem gc_stores {C : CC} {L : List Pls.Pl} (hL : C.ps = L.map Pls.core) (h : gcB C = true) : L.length ≤ 16 ∧ ∀ k, k < L.length → gsB (L.getD k Pls.zeroL).lim (L.getD k Pls.zeroL).nx (L.getD k Pls.zeroL).its = true ∧ (L.getD k Pls.zeroL).name.size ≤ 8 := by
  rw [gc_eq, Bool.and_eq_true, Bool.and_eq_true] at h
  obtain ⟨⟨hh, hp⟩, _⟩ := h
  obtain ⟨_, _, _, _, g5, g6⟩ := (head_iff C).1 hh
  have hn := Ring.good_len g5
  have hc8 : C.cs.length ≤ 8 := by
    rcases g6 with e | e
    · rw [e]; simp
    · exact (Ring.good_len e).2
  unfold placesB at hp
  rw [Bool.and_eq_true, decide_eq_true_eq, List.all_eq_true] at hp
  have hlen : C.ps.length = L.length := by rw [hL]; simp
  have h1 := insAll_len (C.ns.map (·.name) ++ C.cs.map (·.name))
  rw [List.length_append, List.length_map, List.length_map] at h1
  have h2 : (names C).length = L.length := hp.1.trans hlen
  have h3 : (names C).length ≤ C.ns.length + C.cs.length := h1
  refine ⟨by omega, fun k hk => ?_⟩
  have hpl := (pl_iff hL).1 (hp.2 k (by simpa [hlen] using hk))
  exact ⟨hpl.2.1, by rw [hpl.1]; exact names_size g5 g6 (by omega)⟩
end Clus
end Go.Proofs.YthgcfklfpllgnaaDoor
/-
  A place that loses all its items, plainly; stores into a cluster's box. No Go function is spoken of here.
-/
namespace Go.Proofs.YthgcfklfpllgnaaDoor
namespace Clus
open Go.RowKit Base OwnR Plc
set_option linter.unusedVariables false

/-- Which place has a name, plainly. -/
def atC (ps : List Pls.Core) (nm : ByteArray) : Option Nat := ps.findIdx? (fun x => x.name.toList == nm.toList)
theorem plN_core (L : List Pls.Pl) (nm : ByteArray) : plN L nm = atC (L.map Pls.core) nm := by
  unfold plN atC
  rw [List.findIdx?_map]
  rfl
def crashC (x : Pls.Core) : Pls.Core := ⟨x.name, x.lim, x.nx, []⟩
def crR (c : CC) (nm : ByteArray) : CC × Int × Bool :=
  if gcB c = true then match atC c.ps nm with
    | some k => (⟨c.now, c.nx, c.lim, c.lost, c.ns, c.cs, c.ps.set k (crashC (c.ps.getD k Pls.zeroC))⟩, (c.ps.getD k Pls.zeroC).its.length, true)
    | none => (noCC, 0, false)
  else (noCC, 0, false)
theorem crR_bad {c : CC} {nm : ByteArray} (h : gcB c = false) : crR c nm = (noCC, 0, false) := by simp [crR, h]
theorem crR_none {c : CC} {nm : ByteArray} (h : atC c.ps nm = none) : crR c nm = (noCC, 0, false) := by unfold crR; rw [h]; split <;> rfl
theorem crR_some {c : CC} {nm : ByteArray} {k : Nat} (hg : gcB c = true) (h : atC c.ps nm = some k) : crR c nm = ((⟨c.now, c.nx, c.lim, c.lost, c.ns, c.cs, c.ps.set k (crashC (c.ps.getD k Pls.zeroC))⟩ : CC), ((c.ps.getD k Pls.zeroC).its.length : Int), true) := by unfold crR; rw [if_pos hg, h]
/-- How CrashNode ends. -/
def CrashEnd (R : CC × Int × Bool) (w : World) (e : Ending) (w' : World) : Prop :=
  ∃ c : Cl, e = .returned (.tuple #[clV c, .int .i64 R.2.1, .bool R.2.2]) ∧ plain c = R.1 ∧ CO w' w.heap.size c ∧ Below w.heap.size w w'
theorem crash_no {R : CC × Int × Bool} {w w' : World} (h : R = (noCC, 0, false)) (hb : Below w.heap.size w w') : CrashEnd R w (.returned (.tuple #[.agg #[.int .i64 0, .int .i64 0, .int .i64 0, .int .i64 0, .slice none 0 0, .slice none 0 0, .slice none 0 0], .int .i64 0, .bool false])) w' := by
  subst h
  exact ⟨noCl, rfl, rfl, CO.no w' _, hb⟩
theorem crash_yes {R : CC × Int × Bool} {w w' : World} {c : Cl} {k : Nat} {n : Int} (h : R = (plain (crashCl c k), n, true)) (ho : CO w' w.heap.size (crashCl c k)) (hb : Below w.heap.size w w') : CrashEnd R w (.returned (.tuple #[clV c, .int .i64 n, .bool true])) w' := by
  subst h
  exact ⟨crashCl c k, by rw [crashV], rfl, ho, hb⟩
theorem CB.set0 {w : World} {X : Nat} {now nx lim lost : Int} {v4 v5 v6 : Value} (h : CB w X now nx lim lost v4 v5 v6) (v : Int) : CB (w.setCell ⟨X, 0, none⟩ (.int .i64 v)) X v nx lim lost v4 v5 v6 := by
  have h' : w.heap[X]? = _ := h
  unfold CB; simp [World.setCell, Array.getElem?_modify, h']
theorem CB.set1 {w : World} {X : Nat} {now nx lim lost : Int} {v4 v5 v6 : Value} (h : CB w X now nx lim lost v4 v5 v6) (v : Int) : CB (w.setCell ⟨X, 1, none⟩ (.int .i64 v)) X now v lim lost v4 v5 v6 := by
  have h' : w.heap[X]? = _ := h
  unfold CB; simp [World.setCell, Array.getElem?_modify, h']
theorem CB.set2 {w : World} {X : Nat} {now nx lim lost : Int} {v4 v5 v6 : Value} (h : CB w X now nx lim lost v4 v5 v6) (v : Int) : CB (w.setCell ⟨X, 2, none⟩ (.int .i64 v)) X now nx v lost v4 v5 v6 := by
  have h' : w.heap[X]? = _ := h
  unfold CB; simp [World.setCell, Array.getElem?_modify, h']
theorem CB.set3 {w : World} {X : Nat} {now nx lim lost : Int} {v4 v5 v6 : Value} (h : CB w X now nx lim lost v4 v5 v6) (v : Int) : CB (w.setCell ⟨X, 3, none⟩ (.int .i64 v)) X now nx lim v v4 v5 v6 := by
  have h' : w.heap[X]? = _ := h
  unfold CB; simp [World.setCell, Array.getElem?_modify, h']

theorem gc_nodes {C : CC} (h : gcB C = true) : C.ns.length ≤ 8 ∧ C.cs.length ≤ 8 := by
  rw [gc_eq, Bool.and_eq_true, Bool.and_eq_true] at h
  obtain ⟨_, _, _, _, g5, g6⟩ := (head_iff C).1 h.1.1
  refine ⟨(Ring.good_len g5).2, ?_⟩
  rcases g6 with g6 | g6
  · rw [g6]; simp
  · exact (Ring.good_len g6).2
theorem plI_core {L M : List Pls.Pl} {nm : ByteArray} (h : M.map Pls.core = L.map Pls.core) : plN M nm = plN L nm := by rw [plN_core, plN_core, h]
theorem crash_core {L M : List Pls.Pl} {k : Nat} (h : M.map Pls.core = L.map Pls.core) (hk : k < M.length) : (M.set k (crash (M.getD k Pls.zeroL))).map Pls.core = (L.map Pls.core).set k (crashC ((L.map Pls.core).getD k Pls.zeroC)) := by
  rw [← h, List.map_set]
  congr 1
  simp [crash, crashC, Pls.core, hk]
theorem core_its {L M : List Pls.Pl} {k : Nat} (h : M.map Pls.core = L.map Pls.core) (hk : k < M.length) : (M.getD k Pls.zeroL).its.length = ((L.map Pls.core).getD k Pls.zeroC).its.length := by
  rw [← h]
  simp [Pls.core, hk]

/-- A cluster stored into a box. -/
def st7 (w : World) (X : Nat) (now nx lim lost : Int) (v4 v5 v6 : Value) : World := ((((((w.setCell ⟨X, 0, none⟩ (.int .i64 now)).setCell ⟨X, 1, none⟩ (.int .i64 nx)).setCell ⟨X, 2, none⟩ (.int .i64 lim)).setCell ⟨X, 3, none⟩ (.int .i64 lost)).setCell ⟨X, 4, none⟩ v4).setCell ⟨X, 5, none⟩ v5).setCell ⟨X, 6, none⟩ v6
theorem CB.st7 {w : World} {X : Nat} {n0 n1 n2 n3 : Int} {u4 u5 u6 : Value} (h : CB w X n0 n1 n2 n3 u4 u5 u6) (now nx lim lost : Int) (v4 v5 v6 : Value) : CB (st7 w X now nx lim lost v4 v5 v6) X now nx lim lost v4 v5 v6 :=
  ((((((h.set0 now).set1 nx).set2 lim).set3 lost).set4 v4).set5 v5).set6 v6
theorem CB.st7o {w : World} {X Y : Nat} {n0 n1 n2 n3 : Int} {u4 u5 u6 : Value} (h : CB w Y n0 n1 n2 n3 u4 u5 u6) (hX : X ≠ Y) (now nx lim lost : Int) (v4 v5 v6 : Value) : CB (Clus.st7 w X now nx lim lost v4 v5 v6) Y n0 n1 n2 n3 u4 u5 u6 :=
  ((((((h.other (p := ⟨X, 0, none⟩) hX _).other (p := ⟨X, 1, none⟩) hX _).other (p := ⟨X, 2, none⟩) hX _).other (p := ⟨X, 3, none⟩) hX _).other (p := ⟨X, 4, none⟩) hX _).other (p := ⟨X, 5, none⟩) hX _).other (p := ⟨X, 6, none⟩) hX _
theorem below_st7 {w w' : World} {B X : Nat} (h : Below B w w') (hX : B ≤ X) (now nx lim lost : Int) (v4 v5 v6 : Value) : Below B w (st7 w' X now nx lim lost v4 v5 v6) :=
  ((((((h.setCell (p := ⟨X, 0, none⟩) hX _).setCell (p := ⟨X, 1, none⟩) hX _).setCell (p := ⟨X, 2, none⟩) hX _).setCell (p := ⟨X, 3, none⟩) hX _).setCell (p := ⟨X, 4, none⟩) hX _).setCell (p := ⟨X, 5, none⟩) hX _).setCell (p := ⟨X, 6, none⟩) hX _
theorem CO.st7 {w : World} {B X : Nat} {c : Cl} (h : CO w B c) (hX : X < B) (now nx lim lost : Int) (v4 v5 v6 : Value) : CO (st7 w X now nx lim lost v4 v5 v6) B c :=
  ((((((h.set (p := ⟨X, 0, none⟩) hX _).set (p := ⟨X, 1, none⟩) hX _).set (p := ⟨X, 2, none⟩) hX _).set (p := ⟨X, 3, none⟩) hX _).set (p := ⟨X, 4, none⟩) hX _).set (p := ⟨X, 5, none⟩) hX _).set (p := ⟨X, 6, none⟩) hX _
theorem size_st7 (w : World) (X : Nat) (now nx lim lost : Int) (v4 v5 v6 : Value) : (st7 w X now nx lim lost v4 v5 v6).heap.size = w.heap.size := by simp [st7]

end Clus
end Go.Proofs.YthgcfklfpllgnaaDoor
/-
  How large a cluster's answer can be, plainly. No Go function is spoken of here.
-/
namespace Go.Proofs.YthgcfklfpllgnaaDoor
namespace Clus
open Go.RowKit Base
set_option linter.unusedVariables false

def its (ps : List Pls.Core) : Nat := (ps.map (·.its.length)).sum
structure SmC (C : CC) : Prop where
  n : C.ns.length ≤ 1048576
  c : C.cs.length ≤ 1048576
  p : C.ps.length ≤ 1048576
  i : its C.ps ≤ 1048576
theorem itc_mem {ps : List Pls.Core} {p : Pls.Core} (h : p ∈ ps) : p.its.length ≤ its ps := by
  induction ps with
  | nil => simp at h
  | cons x r ih =>
    have e : its (x :: r) = x.its.length + its r := by simp [its]
    rcases List.mem_cons.1 h with rfl | h
    · omega
    · have := ih h; omega
theorem its_set {ps : List Pls.Core} {y : Pls.Core} (hy : y.its = []) (k : Nat) : its (ps.set k y) ≤ its ps := by
  induction ps generalizing k with
  | nil => simp [its]
  | cons x r ih =>
    have e : its (x :: r) = x.its.length + its r := by simp [its]
    cases k with
    | zero =>
      have e2 : its ((x :: r).set 0 y) = y.its.length + its r := by simp [its]
      rw [e, e2, hy]; simp
    | succ k =>
      have e2 : its ((x :: r).set (k + 1) y) = x.its.length + its (r.set k y) := by simp [its]
      have := ih k
      omega
theorem SmC.of {c : Cl} (h : Small c) (hc : cnt c.ps c.ps.length ≤ 1048576) : SmC (plain c) := by
  refine ⟨h.sn, h.sc, ?_, ?_⟩
  · show (c.ps.map Pls.core).length ≤ _; rw [List.length_map]; exact h.sp
  · rw [cnt_all] at hc; exact hc
theorem SmC.cl {c : Cl} (h : SmC (plain c)) : Small c ∧ cnt c.ps c.ps.length ≤ 1048576 := by
  have h1 := h.p
  have h2 := h.i
  have e : (plain c).ps = c.ps.map Pls.core := rfl
  rw [e] at h1 h2
  rw [List.length_map] at h1
  refine ⟨⟨h.n, h.c, h1, fun x hx => ?_⟩, by rw [cnt_all]; exact h2⟩
  have := itc_mem (ps := c.ps.map Pls.core) (p := Pls.core x) (List.mem_map_of_mem hx)
  have e2 : (Pls.core x).its = x.its := rfl
  rw [e2] at this
  omega
/-- All its rows lie below. -/
def CO.top (x : Cl) (T : Nat) : Prop := (∀ q, (Value.slice x.na x.ns.length x.nc).ownBlock = some q → q < T) ∧ (∀ q, (Value.slice x.ca x.cs.length x.cc).ownBlock = some q → q < T) ∧ (∀ q, (Value.slice x.pa x.ps.length x.pc).ownBlock = some q → q < T) ∧ (∀ y ∈ x.ps, ∀ q, (Value.slice y.a y.its.length y.cap).ownBlock = some q → q < T)
theorem CO.top_of {w : World} {B : Nat} {x : Cl} (h : CO w B x) : CO.top x w.heap.size := ⟨fun q hq => (h.n.lt q hq).2, fun q hq => (h.m.lt q hq).2, fun q hq => (h.p.row.lt q hq).2, fun y hy q hq => ((h.p.its y hy).lt q hq).2⟩
theorem sm_no : SmC noCC := ⟨by simp [noCC], by simp [noCC], by simp [noCC], by simp [noCC, its]⟩
theorem sm_crash {C : CC} (h : SmC C) (nm : ByteArray) : SmC (crR C nm).1 := by
  unfold crR
  split
  · split
    · refine ⟨h.n, h.c, ?_, ?_⟩
      · show (C.ps.set _ _).length ≤ _; rw [List.length_set]; exact h.p
      · exact Nat.le_trans (its_set (y := crashC _) rfl _) h.i
    · exact sm_no
  · exact sm_no
end Clus
end Go.Proofs.YthgcfklfpllgnaaDoor
