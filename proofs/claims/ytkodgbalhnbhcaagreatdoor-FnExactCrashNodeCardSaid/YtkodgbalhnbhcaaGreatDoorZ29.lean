/-
  One place of the cluster at work takes a step: the others stay. No Go function is spoken of here but by name.
-/
import Derived.Test.YtkodgbalhnbhcaaGreatDoorFleetN
import Derived.Test.YtkodgbalhnbhcaaGreatDoorZ16
import Derived.Test.YtkodgbalhnbhcaaGreatDoorCrashS
namespace Go.Proofs.YtkodgbalhnbhcaaGreatDoor
namespace Fleet
open Go.RowKit Base Store Items OwnR Keep Clus Marks
set_option linter.unusedVariables false

theorem getD_at {ps : List Pc} {k : Nat} (hk : k < ps.length) : ps.getD k zeroP = ps[k] := by simp [hk]
theorem getD_mem {ps : List Pc} {k : Nat} (hk : k < ps.length) : ps.getD k zeroP ∈ ps := by rw [getD_at hk]; exact List.getElem_mem _
/-- A place with other blocks and another store. -/
def upd (p : Pc) (S : List Nat) (lim nx lost : Int) (its : List Itm) : Pc := ⟨p.name, p.pb, p.hb, S, lim, nx, lost, its⟩
theorem mem_set {ps : List Pc} {k : Nat} {q p' : Pc} (h : q ∈ ps.set k p') : q = p' ∨ ∃ i, ∃ hi : i < ps.length, i ≠ k ∧ q = ps[i] := by
  obtain ⟨i, hi, rfl⟩ := List.getElem_of_mem h
  rw [List.length_set] at hi
  by_cases e : i = k
  · subst e; left; simp
  · right; exact ⟨i, hi, e, by rw [List.getElem_set_ne (Ne.symm e)]⟩
theorem apart_at {ps : List Pc} (h : ps.Pairwise (fun p q => ∀ b ∈ bks p, b ∉ bks q)) {i j : Nat} (hi : i < ps.length) (hj : j < ps.length) (hne : i ≠ j) : ∀ b ∈ bks ps[i], b ∉ bks ps[j] := by
  intro b hb hb2
  rcases Nat.lt_or_gt_of_ne hne with hlt | hgt
  · exact (List.pairwise_iff_getElem.1 h) i j hi hj hlt b hb hb2
  · exact (List.pairwise_iff_getElem.1 h) j i hj hi hgt b hb2 hb
theorem FleetAt.step {w w' : World} {M X : Nat} {f : Fl} (hf : FleetAt w M X f) {k : Nat} (hk : k < f.ps.length) {lim nx lost : Int} {its : List Itm} (hM : M ≤ w.heap.size)
    (hst : _root_.Go.Proofs.YtkodgbalhnbhcaaGreatDoor.Shelf.Step w w' (f.ps.getD k zeroP).hb (f.ps.getD k zeroP).S lim nx lost its) :
    ∃ S', FleetAt w' M X { f with ps := f.ps.set k (upd (f.ps.getD k zeroP) S' lim nx lost its) } ∧ Kp M X w w' := by
  obtain ⟨S', hsh, hS', hke⟩ := hst
  have hpm := getD_mem hk
  have hpe := getD_at hk
  have hp := hf.pl _ hpm
  have hlo := hf.lo _ hpm
  have hfar := hf.far _ hpm
  have hlt := hp.lt
  generalize hpp : f.ps.getD k zeroP = p at *
  have hSM : ∀ b ∈ p.S, M ≤ b := fun b hb => hlo b (List.mem_cons_of_mem _ hb)
  have hkp : Kp M X w w' := Kp.of_keeps hke hM hSM
  have hnb : ∀ b ∈ bks (upd p S' lim nx lost its), b ∈ bks p ∨ w.heap.size ≤ b := by
    intro b hb
    rcases List.mem_cons.1 hb with rfl | hb
    · exact .inl List.mem_cons_self
    · rcases hS' b hb with h | h
      · exact .inl (List.mem_cons_of_mem _ h)
      · exact .inr h
  have hrv : rowV { f with ps := f.ps.set k (upd p S' lim nx lost its) } = rowV f := by unfold rowV; simp
  have hptr : (f.ps.set k (upd p S' lim nx lost its)).map ptr = f.ps.map ptr := by
    rw [List.map_set]
    have : ptr (upd p S' lim nx lost its) = (f.ps.map ptr)[k]'(by simpa using hk) := by
      rw [List.getElem_map, ← hpe]; rfl
    rw [this, List.set_getElem_self]
  have hoth : ∀ i (hi : i < f.ps.length), i ≠ k → PcAt w' f.ps[i] := fun i hi hne => (hf.pl _ (List.getElem_mem _)).keep hke (fun b hb hm => apart_at hf.apart hi hk hne b hb (by rw [← hpe]; exact List.mem_cons_of_mem _ hm))
  have hpbS : p.pb ∉ S' := fun hm => by
    rcases hS' _ hm with h | h
    · exact hp.out h
    · have := hlt p.pb List.mem_cons_self; omega
  refine ⟨S', ⟨?_, ?_, ?_, ?_, ?_, ?_, hf.xm⟩, hkp⟩
  · have h1 : FB w' X f := hf.box.of_block (hke.block X hf.box.lt (fun hm => by have := hSM X hm; have := hf.xm; omega))
    unfold FB at h1 ⊢
    rw [hrv]; exact h1
  · rw [hrv]
    show w'.ownsRow M _ 1 (rowV f) (f.ps.set k _).length ((f.ps.set k _).map ptr)
    rw [hptr, List.length_set]
    exact own_blocks hf.row (fun g hg => hke.block g (own_lt hf.row hg) (fun hm => hfar g (List.mem_cons_of_mem _ hm) hg))
  · intro q hq
    rcases mem_set hq with rfl | ⟨i, hi, hne, rfl⟩
    · refine ⟨(hke.block _ (hlt _ List.mem_cons_self) hp.out).trans hp.box, hsh, hpbS⟩
    · exact hoth i hi hne
  · intro q hq b hb
    rcases mem_set hq with rfl | ⟨i, hi, hne, rfl⟩
    · rcases hnb b hb with h | h
      · exact hlo b h
      · omega
    · exact hf.lo _ (List.getElem_mem _) b hb
  · rw [List.pairwise_iff_getElem]
    intro i j hi hj hij b hb hb2
    have hi' : i < f.ps.length := by simpa using hi
    have hj' : j < f.ps.length := by simpa using hj
    have hb1 : b ∈ bks (if k = i then upd p S' lim nx lost its else f.ps[i]) := by rw [List.getElem_set] at hb; exact hb
    have hb3 : b ∈ bks (if k = j then upd p S' lim nx lost its else f.ps[j]) := by rw [List.getElem_set] at hb2; exact hb2
    have hold : ∀ m (hm : m < f.ps.length), b ∈ bks f.ps[m] → b < w.heap.size := fun m hm h => (hf.pl _ (List.getElem_mem _)).lt b h
    by_cases ei : k = i
    · rw [if_pos ei] at hb1
      rw [if_neg (by omega)] at hb3
      rcases hnb b hb1 with h | h
      · exact apart_at hf.apart hk hj' (by omega) b (by rw [← hpe]; exact h) hb3
      · have := hold j hj' hb3; omega
    · rw [if_neg ei] at hb1
      by_cases ej : k = j
      · rw [if_pos ej] at hb3
        rcases hnb b hb3 with h | h
        · exact apart_at hf.apart hi' hk (by omega) b hb1 (by rw [← hpe]; exact h)
        · have := hold i hi' hb1; omega
      · rw [if_neg ej] at hb3
        exact apart_at hf.apart hi' hj' (by omega) b hb1 hb3
  · intro q hq b hb
    rw [hrv]
    rcases mem_set hq with rfl | ⟨i, hi, hne, rfl⟩
    · intro e
      rcases hnb b hb with h | h
      · exact hfar b h e
      · have := own_lt hf.row e; omega
    · exact hf.far _ (List.getElem_mem _) b hb
end Fleet
end Go.Proofs.YtkodgbalhnbhcaaGreatDoor
/-
  The program's (*fleet).find and (*fleet).crash.
-/
namespace Go.Proofs.YtkodgbalhnbhcaaGreatDoor
namespace Fleet
open Go.RowKit Base Store Items OwnR Keep Clus Marks Plc
set_option linter.unusedVariables false

def nms (f : Fl) : List ByteArray := f.ps.map (·.name)
theorem nms_len (f : Fl) : (nms f).length = f.ps.length := by simp [nms]
theorem nms_at (f : Fl) {k : Nat} (hk : k < f.ps.length) : (nms f).getD k ByteArray.empty = (f.ps.getD k zeroP).name := by simp [nms, List.getD_eq_getElem?_getD, List.getElem?_eq_getElem hk]
/-- Where its row of places lies. -/
theorem FleetAt.head {w : World} {M X : Nat} {f : Fl} (h : FleetAt w M X f) (hpos : 0 < f.ps.length) : ∃ g, rowV f = .slice (some ⟨g, 0, none⟩) f.ps.length f.cap ∧ g < w.heap.size ∧ ∀ u, FleetAt u M X f → ∀ k, k < f.ps.length → u.cell? ⟨g, k, none⟩ = some (.pointer (some ⟨(f.ps.getD k zeroP).pb, 0, none⟩)) := by
  obtain ⟨g, gc, hgv, hgM, hgc, hgl⟩ := own_some h.row hpos
  have ha : f.a = some ⟨g, 0, none⟩ := by unfold rowV at hgv; simp only [Value.slice.injEq] at hgv; exact hgv.1
  have hr : rowV f = .slice (some ⟨g, 0, none⟩) f.ps.length f.cap := by unfold rowV; rw [ha]
  refine ⟨g, hr, hgl, fun u hu k hk => ?_⟩
  have hrow := hu.row
  rw [hr] at hrow
  exact own_cells hrow (by rw [List.getElem?_map, List.getElem?_eq_getElem hk, getD_at hk]; rfl)
theorem FleetAt.pr {w : World} {M X : Nat} {f : Fl} {g : Nat} (h : FleetAt w M X f) (hc : ∀ k, k < f.ps.length → w.cell? ⟨g, k, none⟩ = some (.pointer (some ⟨(f.ps.getD k zeroP).pb, 0, none⟩))) : PrAt w g (nms f) (fun i => (f.ps.getD i zeroP).pb) := by
  intro i hi
  rw [nms_len] at hi
  refine ⟨hc i hi, ?_⟩
  rw [nms_at f hi]
  exact (h.pl _ (getD_mem hi)).box.cells.2

set_option maxRecDepth 10000 in
set_option maxHeartbeats 1000000 in
theorem find_any (M X : Nat) (f : Fl) (key : ByteArray) (w : World) (hf : FleetAt w M X f) (hpos : 0 < f.ps.length) (hl : f.ps.length ≤ 1000) (hs : Rising ((nms f).map toL)) :
    Calls Tryz.prog 79 #[.pointer (some ⟨X, 0, none⟩), .string key] w fun e w' => e = .returned (.tuple #[.int .i64 (kOf key (nms f) : Int), .bool (fnd (nms f) key)]) ∧ Below w.heap.size w w' := by
  obtain ⟨g, hr, hgl, hc⟩ := hf.head hpos
  have HS := hide (search_some g f.cap (nms f) (fun i => (f.ps.getD i zeroP).pb) key w (hf.pr (hc w hf)) (by rw [nms_len]; exact hl) hs)
  rw [nms_len] at HS
  have x8 := hf.box.cells.2.2.2.2.2.2.2.2
  rw [hr] at x8
  generalize f.ps.length = n at HS x8
  generalize kOf key (nms f) = kk at HS ⊢
  generalize fnd (nms f) key = ff at HS ⊢
  clear hf hs hc hr hpos hl
  go_enter Tryz.func79, Tryz.ntmps79
  go_wp2_with fail
  refine (unhide HS).mono ?_
  rintro e w1 ⟨rfl, hb1⟩
  have B1 := hide hb1
  clear hb1
  go_wp2
  go_ret2
  exact ⟨rfl, unhide B1⟩

set_option maxRecDepth 10000 in
set_option maxHeartbeats 1000000 in
theorem crash_no (M X : Nat) (f : Fl) (key : ByteArray) (w : World) (hf : FleetAt w M X f) (hpos : 0 < f.ps.length) (hl : f.ps.length ≤ 1000) (hs : Rising ((nms f).map toL)) (hn : fnd (nms f) key = false) :
    Calls Tryz.prog 36 #[.pointer (some ⟨X, 0, none⟩), .string key] w fun e w' => e = .returned (.tuple #[.int .i64 0, .bool false]) ∧ Below w.heap.size w w' := by
  have HS := hide (find_any M X f key w hf hpos hl hs)
  rw [hn] at HS
  generalize kOf key (nms f) = kk at HS
  clear hf hs hpos hl hn
  go_enter Tryz.func36, Tryz.ntmps36
  go_wp2_with fail
  refine (unhide HS).mono ?_
  rintro e w1 ⟨rfl, hb1⟩
  have B1 := hide hb1
  clear hb1
  go_wp2
  go_ret2
  exact ⟨rfl, unhide B1⟩

set_option maxRecDepth 10000 in
set_option maxHeartbeats 1000000 in
theorem crash_yes (M X : Nat) (f : Fl) (key : ByteArray) (k : Nat) (w : World) (hf : FleetAt w M X f) (hl : f.ps.length ≤ 1000) (hs : Rising ((nms f).map toL)) (hn : fnd (nms f) key = true) (hk : kOf key (nms f) = k) (hkl : k < f.ps.length) (hM : M ≤ w.heap.size) :
    Calls Tryz.prog 36 #[.pointer (some ⟨X, 0, none⟩), .string key] w fun e w' => ∃ S', e = .returned (.tuple #[.int .i64 ((f.ps.getD k zeroP).its.length : Nat), .bool true]) ∧ FleetAt w' M X { f with ps := f.ps.set k (upd (f.ps.getD k zeroP) S' (f.ps.getD k zeroP).lim (f.ps.getD k zeroP).nx (f.ps.getD k zeroP).lost []) } ∧ Kp M X w w' := by
  have hpos : 0 < f.ps.length := by omega
  have HS := hide (find_any M X f key w hf hpos hl hs)
  rw [hn, hk] at HS
  obtain ⟨g, hr, hgl, hc⟩ := hf.head hpos
  have HST := hide (fun u u' (hu : FleetAt u M X f) (hMu : M ≤ u.heap.size) lim nx lost its (h : _root_.Go.Proofs.YtkodgbalhnbhcaaGreatDoor.Shelf.Step u u' (f.ps.getD k zeroP).hb (f.ps.getD k zeroP).S lim nx lost its) => hu.step hkl hMu h)
  have HCR := hide (fun u (hu : FleetAt u M X f) => hc u hu k hkl)
  have HPL := hide (fun u (hu : FleetAt u M X f) => hu.pl _ (getD_mem hkl))
  have HX8 := hide (fun u (hu : FleetAt u M X f) => (hr ▸ hu.box.cells.2.2.2.2.2.2.2.2 : u.cell? ⟨X, 8, none⟩ = some (.slice (some ⟨g, 0, none⟩) f.ps.length f.cap)))
  have HF := hide hf
  generalize hpe : f.ps.getD k zeroP = p at HST HCR HPL ⊢
  generalize hfn : f.ps.length = n at HX8 hkl
  clear hf hs hpos hl hn hk hc hr hpe hfn
  go_enter Tryz.func36, Tryz.ntmps36
  go_wp2_with fail
  refine (unhide HS).mono ?_
  rintro e w1 ⟨rfl, hb1⟩
  have F1 := hide ((unhide HF).below hb1)
  have K1 := hide (Kp.of_below (M := M) (X := X) hb1 hM)
  have hM1 : M ≤ w1.heap.size := Nat.le_trans hM hb1.size
  clear hb1 HS HF
  have x8 := unhide HX8 w1 (unhide F1)
  have r0 := unhide HCR w1 (unhide F1)
  have hpc := unhide HPL w1 (unhide F1)
  obtain ⟨b0, b1⟩ := hpc.box.cells
  obtain ⟨l0, l1, l2, l3, -, bm, l6, hlen⟩ := Flush.shelf_reads hpc.sh
  have hlw := hlen w1 (Keeps.refl _ _)
  have HFL := hide (Flush.flush_shelf w1 p.hb p.S p.lim p.nx p.lost p.its hpc.sh)
  clear hpc hlen l0 l1 l2 l3
  go_wp2_with fail
  refine (unhide HFL).mono ?_
  rintro e w2 ⟨rfl, hst⟩
  obtain ⟨S', hf2, hk2⟩ := unhide HST w1 w2 (unhide F1) hM1 _ _ _ _ hst
  have F2 := hide hf2
  have K2 := hide ((unhide K1).trans hk2)
  clear hst hf2 hk2
  go_wp2
  go_ret2
  exact ⟨S', rfl, unhide F2, unhide K2⟩
end Fleet
end Go.Proofs.YtkodgbalhnbhcaaGreatDoor
/-
  In a good cluster the owner of every key has a place. No Go function is spoken of here.
-/
namespace Go.Proofs.YtkodgbalhnbhcaaGreatDoor
namespace Clus
open Go.RowKit Base Plc
set_option linter.unusedVariables false

theorem owner_of {l : List Points.D} {h : Int} (hl : l ≠ []) : ∃ p ∈ l, Ring.ownerN (Ring.ring l) h = p.name := by
  have hp := Ring.ring_perm l
  unfold Ring.ownerN
  cases e : (Ring.ring l).find? (fun p => decide (h ≤ p.pos)) with
  | some p => exact ⟨p, hp.mem_iff.1 (List.mem_of_find?_eq_some e), rfl⟩
  | none =>
    have hlen : 0 < (Ring.ring l).length := by rw [hp.length_eq]; exact List.length_pos_iff.2 hl
    refine ⟨(Ring.ring l)[0], hp.mem_iff.1 (List.getElem_mem hlen), ?_⟩
    simp [List.getD_eq_getElem?_getD, List.getElem?_eq_getElem hlen]
theorem pts_has {x : Nodes.D} (h : 1 ≤ x.weight) : Ring.ptsOf x ≠ [] := by
  intro e
  have : (Ring.ptsOf x).length = 0 := by rw [e]; rfl
  unfold Ring.ptsOf at this
  rw [Ring.ptsN_length] at this
  omega
theorem own_in {l : List Nodes.D} (h : NodesM.gnB l = true) (key : ByteArray) : ∃ x ∈ l, own l key = x.name := by
  have hne : Ring.points l ≠ [] := by
    cases l with
    | nil => have := (Ring.good_len h).1; simp at this
    | cons x r =>
      have hw : 1 ≤ x.weight := by
        unfold NodesM.gnB NodesM.goodTo at h
        simp only [Bool.and_eq_true, List.all_eq_true, List.mem_range] at h
        have h1 := h.1 0 (by simp)
        unfold NodesM.stepB NodesM.nodeB GoodKey.inB at h1
        simp only [Bool.and_eq_true, decide_eq_true_eq] at h1
        have := h1.1.2.1
        simpa using this
      unfold Ring.points
      rw [List.flatMap_cons]
      intro e
      exact pts_has hw (List.append_eq_nil_iff.1 e).1
  obtain ⟨p, hp, e⟩ := owner_of (h := Hash.hashN key.data.toList) hne
  obtain ⟨x, hx, hpx⟩ := List.mem_flatMap.1 hp
  refine ⟨x, hx, e.trans ?_⟩
  unfold Ring.ptsOf Ring.ptsN at hpx
  obtain ⟨i, _, rfl⟩ := List.mem_map.1 hpx
  rfl
theorem gc_names {C : CC} (h : gcB C = true) : C.ps.map (·.name) = names C := by
  rw [gc_eq, Bool.and_eq_true, Bool.and_eq_true] at h
  have hp := h.1.2
  unfold placesB at hp
  rw [Bool.and_eq_true, decide_eq_true_eq, List.all_eq_true] at hp
  refine List.ext_getElem (by rw [List.length_map]; exact hp.1.symm) fun i h1 h2 => ?_
  have hi : i < C.ps.length := by simpa using h1
  have := hp.2 i (by simpa using hi)
  unfold plB at this
  simp only [Bool.and_eq_true, decide_eq_true_eq] at this
  have e := this.1.1.1
  rw [List.getD_eq_getElem?_getD, List.getD_eq_getElem?_getD, List.getElem?_eq_getElem hi, List.getElem?_eq_getElem h2] at e
  simpa using e
theorem gc_at {C : CC} (h : gcB C = true) {z : ByteArray} (hz : z ∈ C.ns.map (·.name) ++ C.cs.map (·.name)) : ∃ j, atC C.ps z = some j := by
  have hm : z ∈ names C := (insAll_mem _ z).2 hz
  rw [← gc_names h] at hm
  obtain ⟨x, hx, e⟩ := List.mem_map.1 hm
  cases ha : atC C.ps z with
  | some j => exact ⟨j, rfl⟩
  | none =>
    unfold atC at ha
    rw [List.findIdx?_eq_none_iff] at ha
    have := ha x hx
    rw [e] at this
    simp at this
theorem gc_owner {C : CC} (h : gcB C = true) (key : ByteArray) : (∃ j, atC C.ps (own C.ns key) = some j) ∧ (C.cs ≠ [] → ∃ j, atC C.ps (own C.cs key) = some j) := by
  have h' := h
  rw [gc_eq, Bool.and_eq_true, Bool.and_eq_true] at h'
  obtain ⟨_, _, _, _, g5, g6⟩ := (head_iff C).1 h'.1.1
  refine ⟨?_, fun hc => ?_⟩
  · obtain ⟨x, hx, e⟩ := own_in g5 key
    refine gc_at h ?_
    rw [show own C.ns key = x.name from e]
    exact List.mem_append_left _ (List.mem_map.2 ⟨x, hx, rfl⟩)
  · obtain ⟨x, hx, e⟩ := own_in (g6.resolve_left hc) key
    refine gc_at h ?_
    rw [show own C.cs key = x.name from e]
    exact List.mem_append_right _ (List.mem_map.2 ⟨x, hx, rfl⟩)
end Clus
end Go.Proofs.YtkodgbalhnbhcaaGreatDoor
