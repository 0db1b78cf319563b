/-
  The program's changedBy with the step of changed: what a step makes of a good cluster.
-/
import Derived.Test.YtkodgbalhnbhcaaGreatDoorZ22
import Derived.Test.YtkodgbalhnbhcaaGreatDoorZ27
import Derived.Test.YtkodgbalhnbhcaaGreatDoorZ21
import Derived.Test.YtkodgbalhnbhcaaGreatDoorZ24
import Derived.Test.YtkodgbalhnbhcaaGreatDoorDelI
import Derived.Test.YtkodgbalhnbhcaaGreatDoorZ26
import Derived.BigRegion
namespace Go.Proofs.YtkodgbalhnbhcaaGreatDoor
namespace Fleet
open Go.RowKit Base Store Items OwnR Keep Clus Marks Plc
set_option linter.unusedVariables false

/-- How a function ends that tells a cluster, a number and a yes. -/
def Tells3 (R : CC × Int × Bool) (w : World) (e : Ending) (w' : World) : Prop := ∃ c : Cl, e = .returned (.tuple #[clV c, .int .i64 R.2.1, .bool R.2.2]) ∧ plain c = R.1 ∧ CO w' w.heap.size c ∧ AP c ∧ Below w.heap.size w w'
theorem tells3_no {R : CC × Int × Bool} {w w' : World} (h : R = (noCC, 0, false)) (hb : Below w.heap.size w w') : Tells3 R w (.returned (.tuple #[.agg #[.int .i64 0, .int .i64 0, .int .i64 0, .int .i64 0, .slice none 0 0, .slice none 0 0, .slice none 0 0], .int .i64 0, .bool false])) w' := by
  subst h
  exact ⟨noCl, rfl, rfl, CO.no w' _, ⟨fun q h => by simp [noCl, Value.ownBlock] at h, List.Pairwise.nil⟩, hb⟩
/-- How a function ends that tells a cluster and a yes. -/
def Tells2 (R : CC × Bool) (w : World) (e : Ending) (w' : World) : Prop := ∃ c : Cl, e = .returned (.tuple #[clV c, .bool R.2]) ∧ plain c = R.1 ∧ CO w' w.heap.size c ∧ AP c ∧ Below w.heap.size w w'
/-- What a step leaves where it says yes: a cluster at work that can be told. -/
structure Left (M X : Nat) (R : CC × Int × Bool) (n : Int) (u' : World) : Prop where
  ex : ∃ (f : Fl) (na ca : Option Addr) (nc cc : Nat) (ns cs : List Nodes.D), FleetAt u' M X f ∧ f.v4 = .slice na ns.length nc ∧ f.v5 = .slice ca cs.length cc ∧ Nodes.LAt u' na ns ∧ Nodes.LAt u' ca cs ∧ ns.length ≤ 1000 ∧ cs.length ≤ 1000 ∧ (∀ x ∈ ns, x.name.size ≤ 1048576) ∧ (∀ x ∈ cs, x.name.size ≤ 1048576) ∧ Fine f ∧ R = (⟨f.now, f.nx, f.lim, lostTo f.lost f.ps, ns, cs, f.ps.map pcore⟩, n, true)
/-- How a step ends. -/
def StepTo (M X : Nat) (R : CC × Int × Bool) (u : World) (e : Ending) (u' : World) : Prop :=
  ∃ (n : Int) (ok : Bool), e = .returned (.tuple #[.int .i64 n, .bool ok]) ∧ Kp M X u u' ∧ ((ok = false ∧ R = (noCC, 0, false)) ∨ (ok = true ∧ Left M X R n u'))

set_option maxRecDepth 10000 in
set_option maxHeartbeats 4000000 in
theorem changed_by (R : CC × Int × Bool) (now nx lim lost : Int) (b1 b2 b3 : Nat) (ns cs : List Nodes.D) (L : List Pls.Pl) (nb : Nat) (w : World) (hR : CR w b1 b2 b3 ns cs L) (ln : ns.length ≤ 1048576) (fn : ∀ x ∈ ns, Nodes.Fits x) (lc : cs.length ≤ 1048576) (fc : ∀ x ∈ cs, Nodes.Fits x) (lp : L.length ≤ 1048576) (fp : ∀ x ∈ L, Pls.Fits x) (hv : Ring.Vars w)
    (hno : gcB ⟨now, nx, lim, lost, ns, cs, L.map Pls.core⟩ = false → R = (noCC, 0, false))
    (hst : gcB ⟨now, nx, lim, lost, ns, cs, L.map Pls.core⟩ = true → ∀ (M X : Nat) (f : Fl) (u : World), FleetAt u M X f → w.heap.size ≤ X → M ≤ u.heap.size → FlIs f now nx lim lost (.slice (some ⟨b1, 0, none⟩) ns.length ns.length) (.slice (some ⟨b2, 0, none⟩) cs.length cs.length) (L.map Pls.core) → RingsAt u M X f ns cs → Below w.heap.size w u →
      Calls Tryz.prog 87 #[.pointer (some ⟨X, 0, none⟩), .pointer (some ⟨nb, 0, none⟩)] u (StepTo M X R u)) :
    Calls Tryz.prog 34 #[.agg #[.int .i64 now, .int .i64 nx, .int .i64 lim, .int .i64 lost, .slice (some ⟨b1, 0, none⟩) ns.length ns.length, .slice (some ⟨b2, 0, none⟩) cs.length cs.length, .slice (some ⟨b3, 0, none⟩) L.length L.length], .func (.func 87) #[] #[.pointer (some ⟨nb, 0, none⟩)]] w (Tells3 R w) := by
  obtain ⟨C, hC⟩ : ∃ C : CC, C = ⟨now, nx, lim, lost, ns, cs, L.map Pls.core⟩ := ⟨_, rfl⟩
  rw [← hC] at hno hst
  have hCL : C.ps = L.map Pls.core := by rw [hC]
  have HGC := hide (fun u (hu : Below w.heap.size w u) => good_impl now nx lim lost b1 b2 b3 ns cs L u (hR.below hu (Nat.le_refl _)) ln fn lc fc lp fp (hv.below hu))
  rw [← hC] at HGC
  have BW0 := hide (bel2 w (.cells #[.int .i64 now, .int .i64 nx, .int .i64 lim, .int .i64 lost, .slice (some ⟨b1, 0, none⟩) ns.length ns.length, .slice (some ⟨b2, 0, none⟩) cs.length cs.length, .slice (some ⟨b3, 0, none⟩) L.length L.length] 30) zeroB)
  have CX0 : Hid (CB ((w.alloc (.cells #[.int .i64 now, .int .i64 nx, .int .i64 lim, .int .i64 lost, .slice (some ⟨b1, 0, none⟩) ns.length ns.length, .slice (some ⟨b2, 0, none⟩) cs.length cs.length, .slice (some ⟨b3, 0, none⟩) L.length L.length] 30)).alloc zeroB) w.heap.size now nx lim lost (.slice (some ⟨b1, 0, none⟩) ns.length ns.length) (.slice (some ⟨b2, 0, none⟩) cs.length cs.length) (.slice (some ⟨b3, 0, none⟩) L.length L.length)) := (CB.new w now nx lim lost _ _ _).below (bel1 _ zeroB) (by simp)
  have CY0 : Hid (CB ((w.alloc (.cells #[.int .i64 now, .int .i64 nx, .int .i64 lim, .int .i64 lost, .slice (some ⟨b1, 0, none⟩) ns.length ns.length, .slice (some ⟨b2, 0, none⟩) cs.length cs.length, .slice (some ⟨b3, 0, none⟩) L.length L.length] 30)).alloc zeroB) (w.heap.size + 1) 0 0 0 0 (.slice none 0 0) (.slice none 0 0) (.slice none 0 0)) := by
    have := CB.new (w.alloc (.cells #[.int .i64 now, .int .i64 nx, .int .i64 lim, .int .i64 lost, .slice (some ⟨b1, 0, none⟩) ns.length ns.length, .slice (some ⟨b2, 0, none⟩) cs.length cs.length, .slice (some ⟨b3, 0, none⟩) L.length L.length] 30)) 0 0 0 0 (.slice none 0 0) (.slice none 0 0) (.slice none 0 0)
    rw [World.size_alloc] at this
    exact this
  have HR := hide hR
  have HV := hide hv
  have HCE := hide hC
  have HCL := hide hCL
  have HST := hide hst
  have hz0 : w.heap.size + 2 ≤ ((w.alloc (.cells #[.int .i64 now, .int .i64 nx, .int .i64 lim, .int .i64 lost, .slice (some ⟨b1, 0, none⟩) ns.length ns.length, .slice (some ⟨b2, 0, none⟩) cs.length cs.length, .slice (some ⟨b3, 0, none⟩) L.length L.length] 30)).alloc zeroB).heap.size := by simp
  clear hR fn fc fp hv hCL hC hst
  cases hg : gcB C
  · have H : Hid (R = (noCC, 0, false)) := hno hg
    rw [hg] at HGC
    clear hg hno HST
    go_enter Tryz.func34, Tryz.ntmps34
    go_wp2_with fail
    generalize (w.alloc (.cells #[.int .i64 now, .int .i64 nx, .int .i64 lim, .int .i64 lost, .slice (some ⟨b1, 0, none⟩) ns.length ns.length, .slice (some ⟨b2, 0, none⟩) cs.length cs.length, .slice (some ⟨b3, 0, none⟩) L.length L.length] 30)).alloc (.cells #[.int .i64 0, .int .i64 0, .int .i64 0, .int .i64 0, .slice none 0 0, .slice none 0 0, .slice none 0 0] 30) = W at BW0 CX0 CY0 hz0 ⊢
    refine (unhide HGC _ (unhide BW0)).mono ?_
    rintro e w1 ⟨rfl, hb1⟩
    have B1 := hide ((unhide BW0).trans (hb1.mono (unhide BW0).size))
    have CY1 := hide ((unhide CY0).below hb1 (by omega))
    clear hb1
    obtain ⟨y0, y1, y2, y3, y4, y5, y6, yf, yl⟩ := (unhide CY1).cells
    go_wp2
    refine bodyPost_ret (v := .tuple #[.agg #[.int .i64 0, .int .i64 0, .int .i64 0, .int .i64 0, .slice none 0 0, .slice none 0 0, .slice none 0 0], .int .i64 0, .bool false]) (by simp [results, Tryz.results34, go_sem, y0, y1, y2, y3, y4, y5, y6]) rfl (tells3_no (unhide H) ?_)
    repeat (refine Below.setCell ?_ (by first | (simp; done) | (simp; omega)) _)
    exact unhide B1
  rw [hg] at HGC
  have HFO := hide (fun u (hu : Below w.heap.size w u) => fleetOf_any now nx lim lost b1 b2 b3 ns cs L u ((unhide HR).below hu (Nat.le_refl _)) (by rw [← unhide HCE]; exact hg) ((unhide HV).below hu))
  have HS2 := hide (unhide HST hg)
  clear hg HST hno
  go_enter Tryz.func34, Tryz.ntmps34
  go_wp2_with fail
  generalize (w.alloc (.cells #[.int .i64 now, .int .i64 nx, .int .i64 lim, .int .i64 lost, .slice (some ⟨b1, 0, none⟩) ns.length ns.length, .slice (some ⟨b2, 0, none⟩) cs.length cs.length, .slice (some ⟨b3, 0, none⟩) L.length L.length] 30)).alloc (.cells #[.int .i64 0, .int .i64 0, .int .i64 0, .int .i64 0, .slice none 0 0, .slice none 0 0, .slice none 0 0] 30) = W at BW0 CX0 CY0 hz0 ⊢
  refine (unhide HGC _ (unhide BW0)).mono ?_
  rintro e w1 ⟨rfl, hb1⟩
  have B1 := hide ((unhide BW0).trans (hb1.mono (unhide BW0).size))
  have CX1 := hide ((unhide CX0).below hb1 (by omega))
  have CY1 := hide ((unhide CY0).below hb1 (by omega))
  have hz1 : w.heap.size + 2 ≤ w1.heap.size := Nat.le_trans hz0 hb1.size
  clear hb1 BW0 CX0 CY0 hz0 W HGC
  obtain ⟨x0, x1, x2, x3, x4, x5, x6, xf, xl⟩ := (unhide CX1).cells
  go_wp2_with fail
  refine (unhide HFO _ (unhide B1)).mono ?_
  rintro e w2 ⟨M, X, f, rfl, hfa, hX, hM, hfi, hrg, hb2⟩
  have B2 := hide ((unhide B1).trans (hb2.mono (unhide B1).size))
  have CY2 := hide ((unhide CY1).below hb2 (by omega))
  have hz2 : w1.heap.size ≤ w2.heap.size := hb2.size
  have hxm := hfa.xm
  have HSS := hide (unhide HS2 M X f w2 hfa (by omega) hM hfi hrg (unhide B2))
  clear hb2 hfa hfi hrg x0 x1 x2 x3 x4 x5 x6 xf xl CX1 CY1 HFO HS2
  go_wp2_with fail
  refine (unhide HSS).mono ?_
  rintro e w3 ⟨n, ok, rfl, hk3, hend⟩
  have K3 : Below w1.heap.size w2 w3 := hk3.below hX (by omega)
  have B3 := hide ((unhide B2).trans (K3.mono (by omega)))
  have CY3 := hide ((unhide CY2).below K3 (by omega))
  have hz3 : w2.heap.size ≤ w3.heap.size := K3.size
  clear hk3 K3 HSS
  rcases hend with ⟨rfl, hno⟩ | ⟨rfl, hle⟩
  · have H : Hid (R = (noCC, 0, false)) := hno
    clear hno
    obtain ⟨y0, y1, y2, y3, y4, y5, y6, yf, yl⟩ := (unhide CY3).cells
    go_wp2
    refine bodyPost_ret (v := .tuple #[.agg #[.int .i64 0, .int .i64 0, .int .i64 0, .int .i64 0, .slice none 0 0, .slice none 0 0, .slice none 0 0], .int .i64 0, .bool false]) (by simp [results, Tryz.results34, go_sem, y0, y1, y2, y3, y4, y5, y6]) rfl (tells3_no (unhide H) ?_)
    repeat (refine Below.setCell ?_ (by first | (simp; done) | (simp; omega)) _)
    exact unhide B3
  · obtain ⟨f', na, ca, nc, cc, ns', cs', hf3, e4, e5, hn, hc, k1, k2, k3, k4, hfi, hRE⟩ := hle.ex
    have HCU := cluster_any M X f' na ca nc cc ns' cs' w3 hf3 e4 e5 hn hc k1 k2 k3 k4 hfi
    have hq : (⟨f'.now, f'.nx, f'.lim, lostTo f'.lost f'.ps, ns', cs', f'.ps.map pcore⟩ : CC) = R.1 := by rw [hRE]
    rw [hq] at HCU
    have h21 : R.2.1 = n := by rw [hRE]
    have h22 : R.2.2 = true := by rw [hRE]
    have HCL2 := hide HCU
    have H21 := hide h21
    have H22 := hide h22
    clear HCU hRE hq h21 h22 hf3 e4 e5 hn hc k1 k2 k3 k4 hfi hle
    go_wp2_with fail
    refine (unhide HCL2).mono ?_
    rintro e w4 ⟨c, rfl, hpl, hco, hap, hb4⟩
    have B4 := hide ((unhide B3).trans (hb4.mono (unhide B3).size))
    have CY4 := hide ((unhide CY3).below hb4 (by omega))
    have HPL := hide hpl
    have HCO := hide hco
    have HAP := hide hap
    clear hpl hco hap hb4
    obtain ⟨y0, y1, y2, y3, y4, y5, y6, yf, yl⟩ := (unhide CY4).cells
    unfold clV
    go_wp2
    refine bodyPost_ret (v := .tuple #[clV c, .int .i64 n, .bool true]) (by simp [results, Tryz.results34, go_sem, clV, y0, y1, y2, y3, y4, y5, y6]) rfl ⟨c, by rw [unhide H21, unhide H22], unhide HPL, CO.le (B := w3.heap.size) ?_ (by omega), unhide HAP, ?_⟩
    · repeat (refine CO.set ?_ (by first | (simp; done) | (simp; omega)) _)
      exact unhide HCO
    · repeat (refine Below.setCell ?_ (by first | (simp; done) | (simp; omega)) _)
      exact unhide B4
end Fleet
end Go.Proofs.YtkodgbalhnbhcaaGreatDoor
/-
  The program's (*fleet).endMove: a move's end.
-/
namespace Go.Proofs.YtkodgbalhnbhcaaGreatDoor
namespace Fleet
open Go.RowKit Base Store Items OwnR Keep Clus Marks Plc
set_option linter.unusedVariables false

theorem FB.set4 {w : World} {X : Nat} {f : Fl} (h : FB w X f) (v : Value) : FB (w.setCell ⟨X, 4, none⟩ v) X { f with v4 := v } := by
  unfold FB rowV at *; simp [World.setCell, Array.getElem?_modify, h]
theorem FB.set5 {w : World} {X : Nat} {f : Fl} (h : FB w X f) (v : Value) : FB (w.setCell ⟨X, 5, none⟩ v) X { f with v5 := v } := by
  unfold FB rowV at *; simp [World.setCell, Array.getElem?_modify, h]
/-- A cluster at work whose box takes other lists. -/
theorem FleetAt.rebox {w w' : World} {M X : Nat} {f f' : Fl} (h : FleetAt w M X f) (hb : FB w' X f') (e1 : f'.ps = f.ps) (e2 : f'.a = f.a) (e3 : f'.cap = f.cap) (hk : Keeps [X] w w') : FleetAt w' M X f' := by
  have hxm := h.xm
  have hrv : rowV f' = rowV f := by unfold rowV; rw [e1, e2, e3]
  refine ⟨hb, ?_, ?_, ?_, ?_, ?_, hxm⟩
  · rw [hrv, e1]
    exact own_blocks h.row (fun g hg => hk.block g (own_lt h.row hg) (by have := (h.row.lt g hg).1; simp; omega))
  · intro p hp
    rw [e1] at hp
    exact (h.pl p hp).keep hk (fun b hb => by have := h.lo p hp b hb; simp; omega)
  · rw [e1]; exact h.lo
  · rw [e1]; exact h.apart
  · rw [hrv, e1]; exact h.far
theorem box3 {w : World} {M X : Nat} {f : Fl} (h : FleetAt w M X f) (a b c : Value) : FleetAt (((w.setCell ⟨X, 4, none⟩ a).setCell ⟨X, 5, none⟩ b).setCell ⟨X, 6, none⟩ c) M X { f with v4 := a, v5 := b, v6 := c } ∧ Kp M X w (((w.setCell ⟨X, 4, none⟩ a).setCell ⟨X, 5, none⟩ b).setCell ⟨X, 6, none⟩ c) := by
  refine ⟨h.rebox (((h.box.set4 a).set5 b).set6 c) rfl rfl rfl ?_, ((Kp.setX _ _ _).trans (Kp.setX _ _ _)).trans (Kp.setX _ _ _)⟩
  exact (((Keeps.refl [X] w).setCell (p := ⟨X, 4, none⟩) (.inl (by simp)) a).setCell (p := ⟨X, 5, none⟩) (.inl (by simp)) b).setCell (p := ⟨X, 6, none⟩) (.inl (by simp)) c
/-- What the program finds moved is what is moved. -/
theorem moved_iff {C : CC} {f : Fl} (hg : gcB C = true) (hc : C.cs ≠ []) (hps : f.ps.map pcore = C.ps) : movedK C.now (fun k => kOf (own C.cs k) (nms f)) f.ps f.ps.length ↔ movedB C = true := by
  have hnm := nms_core hps
  have hr := gc_rising hg
  have hk : ∀ k, k < f.ps.length → ∀ key, (kOf (own C.cs key) (nms f) = k ↔ own C.cs key = (f.ps.getD k zeroP).name) := by
    intro k hk key
    obtain ⟨j, hj⟩ := (gc_owner hg key).2 hc
    obtain ⟨hj1, hj2⟩ := at_some hj
    have e1 := kOf_is hr (by simpa using hj1) hj2
    have hk' : k < (C.ps.map (·.name)).length := by rw [← hnm, nms_len]; exact hk
    have en := nms_at f hk
    rw [hnm] at en
    rw [hnm]
    constructor
    · intro e
      rw [← en, ← hj2]
      congr 1
      omega
    · intro e
      exact kOf_is hr hk' (en.trans e.symm)
  unfold movedK movedB
  rw [List.all_eq_true]
  constructor
  · intro h p hp
    rw [← hps] at hp
    obtain ⟨q, hq, rfl⟩ := List.mem_map.1 hp
    obtain ⟨k, hkl, rfl⟩ := List.getElem_of_mem hq
    rw [List.all_eq_true]
    intro x hx
    have h1 := h k hkl
    unfold leftK at h1
    rw [List.map_eq_nil_iff, List.filter_eq_nil_iff, getD_at hkl] at h1
    have h2 := h1 x hx
    cases ho : oldB x C.now with
    | true => rfl
    | false =>
      rw [ho] at h2
      simp only [Bool.not_false, Bool.true_and, decide_eq_true_eq, ne_eq, Decidable.not_not] at h2
      have h3 := (hk k hkl x.key).1 h2
      rw [getD_at hkl] at h3
      rw [Bool.false_or, decide_eq_true_eq]
      exact h3
  · intro h k hkl
    unfold leftK
    rw [List.map_eq_nil_iff, List.filter_eq_nil_iff]
    intro x hx
    have hp : pcore (f.ps.getD k zeroP) ∈ C.ps := by rw [← hps]; exact List.mem_map_of_mem (getD_mem hkl)
    have h1 := List.all_eq_true.1 (h _ hp) x hx
    simp only [Bool.or_eq_true, decide_eq_true_eq] at h1
    rcases h1 with h1 | h1
    · simp [h1]
    · have h2 := (hk k hkl x.key).2 h1
      simp [h2]
theorem drop_core {ps qs : List Pc} {now : Int} (h : DropTo ps now ps.length qs) : qs.map pcore = (ps.map pcore).map (dropC now) ∧ ((∀ p ∈ ps, p.lost = 0) → ∀ p ∈ qs, p.lost = 0) := by
  obtain ⟨h1, h2⟩ := h
  have he : ∀ i, i < ps.length → ∃ S, qs.getD i zeroP = upd (ps.getD i zeroP) S (ps.getD i zeroP).lim (ps.getD i zeroP).nx (ps.getD i zeroP).lost (Store.keepB (ps.getD i zeroP).its now) := fun i hi => (h2 i hi).1 hi
  refine ⟨?_, fun hz p hp => ?_⟩
  · apply List.ext_getElem
    · simp [h1]
    · intro i hi1 hi2
      have hi : i < ps.length := by simpa using hi2
      have hq : i < qs.length := by omega
      obtain ⟨S, e⟩ := he i hi
      simp only [List.getElem_map]
      rw [← getD_at hq, ← getD_at hi, e]
      rfl
  · obtain ⟨i, hi, rfl⟩ := List.getElem_of_mem hp
    obtain ⟨S, e⟩ := he i (by omega)
    rw [← getD_at hi, e]
    show (ps.getD i zeroP).lost = 0
    exact hz _ (getD_mem (by omega))
theorem kept_core {cs : List Nodes.D} {qs : List Pc} : (kept (fun p => !hasN cs p.name) qs).map pcore = (qs.map pcore).filter (fun x => hasN cs x.name) := by
  unfold kept
  rw [List.filter_map]
  congr 1
  apply List.filter_congr
  intro p hp
  simp [pcore]
theorem kept_mem {del : Pc → Bool} {qs : List Pc} {p : Pc} (h : p ∈ kept del qs) : p ∈ qs := (List.mem_filter.1 h).1
/-- Where a cluster is good some place stays. -/
theorem stay_some {C : CC} (hg : gcB C = true) (hc : C.cs ≠ []) : 0 < ((C.ps.map (dropC C.now)).filter (fun x => hasN C.cs x.name)).length := by
  obtain ⟨x, r, e⟩ := List.exists_cons_of_ne_nil hc
  obtain ⟨j, hj⟩ := gc_at hg (z := x.name) (List.mem_append_right _ (by rw [e]; simp))
  obtain ⟨h1, h2⟩ := at_some hj
  rw [List.length_pos_iff]
  intro h0
  have h3 := (List.filter_eq_nil_iff.1 h0) (dropC C.now C.ps[j]) (List.mem_map_of_mem (List.getElem_mem _))
  apply h3
  have h4 : (dropC C.now C.ps[j]).name = x.name := by
    rw [← h2]
    simp [List.getD_eq_getElem?_getD, List.getElem?_map, List.getElem?_eq_getElem h1, dropC]
  rw [h4]
  unfold hasN
  rw [List.any_eq_true]
  exact ⟨x, by rw [e]; simp, by simp⟩
theorem keep_len (its : List Itm) (now : Int) : (Store.keepB its now).length ≤ its.length := List.length_filter_le _ _
theorem end_left {now nx lim lost : Int} {v4 v5 v6 : Value} {b2 : Nat} {ns cs : List Nodes.D} {L : List Pls.Pl} {M X : Nat} {f : Fl} {qs : List Pc} {R : CC × Bool} {w' : World} {C : CC} (hC : C = ⟨now, nx, lim, lost, ns, cs, L.map Pls.core⟩) (hg : gcB C = true) (hcs : C.cs ≠ []) (hfi : FlIs f now nx lim lost v4 v5 (L.map Pls.core)) (hdr : DropTo f.ps f.now f.ps.length qs)
    (hR : R = (⟨C.now, C.nx, C.lim, C.lost, C.cs, [], (C.ps.map (dropC C.now)).filter (fun x => hasN C.cs x.name)⟩, true))
    (hf : FleetAt w' M X { f with ps := kept (fun p => !hasN cs p.name) qs, v4 := .slice (some ⟨b2, 0, none⟩) cs.length cs.length, v5 := .slice none 0 0, v6 := v6 }) (hc : w'.rowIs b2 76 (cs.length * 2) (Nodes.icell cs)) : Left M X (R.1, 0, R.2) 0 w' := by
  have hCL : C.ps = L.map Pls.core := by rw [hC]
  have hCc : C.cs = cs := by rw [hC]
  have hCn : C.now = now := by rw [hC]
  have hps : f.ps.map pcore = C.ps := by rw [hCL]; exact hfi.ps
  obtain ⟨o1, o2, o3⟩ := gc_ok hCL hg
  obtain ⟨d1, d2, d3, d4⟩ := gc_head' hg
  have d5 : NodesM.gnB cs = true := by rw [← hCc]; exact d4.resolve_left hcs
  obtain ⟨k1, k2⟩ := node_small d5
  obtain ⟨q1, q2⟩ := drop_core hdr
  have q3 := q2 hfi.no
  have hfn : f.now = C.now := by rw [hfi.now, hCn]
  rw [hps, hfn] at q1
  have hkc : (kept (fun p => !hasN cs p.name) qs).map pcore = (C.ps.map (dropC C.now)).filter (fun x => hasN C.cs x.name) := by rw [kept_core, q1, hCc]
  have hlo : f.lost = C.lost := by rw [hfi.lost, hC]
  have hlen : (kept (fun p => !hasN cs p.name) qs).length = ((C.ps.map (dropC C.now)).filter (fun x => hasN C.cs x.name)).length := by rw [← hkc, List.length_map]
  have hle := List.length_filter_le (fun x => hasN C.cs x.name) (C.ps.map (dropC C.now))
  rw [List.length_map] at hle
  have hst := stay_some hg hcs
  refine ⟨⟨_, some ⟨b2, 0, none⟩, none, cs.length, 0, cs, [], hf, rfl, rfl, Nodes.LAt.row hc, fun h => absurd rfl h, k1, by simp, k2, by simp, ?_, ?_⟩⟩
  · refine fine_of (by show (kept _ qs).length ≤ 16; omega) (by show 0 < (kept _ qs).length; omega) (by show 0 ≤ f.lost ∧ f.lost ≤ 1000000; omega) ?_ ?_
    · intro p hp
      have := q3 p (kept_mem hp)
      omega
    · intro p hp
      have h1 : pcore p ∈ qs.map pcore := List.mem_map_of_mem (kept_mem hp)
      rw [q1] at h1
      obtain ⟨c, hc1, hc2⟩ := List.mem_map.1 h1
      obtain ⟨h2, h3⟩ := o3 c hc1
      rw [← hc2]
      exact ⟨h2, Nat.le_trans (keep_len _ _) h3⟩
  · rw [hR]
    dsimp only
    rw [lost_none (by omega) (fun p hp => q3 p (kept_mem hp)), hkc, hfn, hlo, hfi.nx, hfi.lim, hCc]
    rw [show C.nx = nx by rw [hC], show C.lim = lim by rw [hC]]
/-- How (*fleet).endMove ends. -/
def EnEnd (M X : Nat) (R : CC × Bool) (w : World) (e : Ending) (w' : World) : Prop := ∃ ok, e = .returned (.bool ok) ∧ Kp M X w w' ∧ ((ok = false ∧ R = (noCC, false)) ∨ (ok = true ∧ Left M X (R.1, 0, R.2) 0 w'))

set_option maxRecDepth 10000 in
set_option maxHeartbeats 4000000 in
theorem endMove_any (now nx lim lost : Int) (v4 : Value) (b2 : Nat) (ns cs : List Nodes.D) (L : List Pls.Pl) (M X : Nat) (f : Fl) (w : World) (hg : gcB ⟨now, nx, lim, lost, ns, cs, L.map Pls.core⟩ = true) (hf : FleetAt w M X f) (hM : M ≤ w.heap.size) (hfi : FlIs f now nx lim lost v4 (.slice (some ⟨b2, 0, none⟩) cs.length cs.length) (L.map Pls.core)) (hrg : RingsAt w M X f ns cs) (hb2 : b2 < X) (hc : w.rowIs b2 76 (cs.length * 2) (Nodes.icell cs)) :
    Calls Tryz.prog 44 #[.pointer (some ⟨X, 0, none⟩)] w (EnEnd M X (emR ⟨now, nx, lim, lost, ns, cs, L.map Pls.core⟩) w) := by
  obtain ⟨C, hC⟩ : ∃ C : CC, C = ⟨now, nx, lim, lost, ns, cs, L.map Pls.core⟩ := ⟨_, rfl⟩
  rw [← hC] at hg ⊢
  have hCL : C.ps = L.map Pls.core := by rw [hC]
  have hCc : C.cs = cs := by rw [hC]
  have hCn : C.now = now := by rw [hC]
  have x5 := hf.box.cells.2.2.2.2.2.1
  rw [hfi.v5] at x5
  have hXl := hf.box.lt
  by_cases hcz : cs.length = 0
  · have H : Hid (emR C = (noCC, false)) := hide (em_still (by rw [hCc]; exact hcz))
    generalize emR C = R at H ⊢
    have hz1 : ((cs.length : Int) == 0) = true := by simp [hcz]
    have hz2 : decide ((cs.length : Int) = 0) = true := by simp [hcz]
    generalize cs.length = cl at *
    clear hf hfi hrg hc hg hC hCL hCc hCn hcz
    go_enter Tryz.func44, Tryz.ntmps44
    go_wp2
    go_ret
    exact ⟨false, rfl, Kp.refl _ _ _, .inl ⟨rfl, unhide H⟩⟩
  have hcs : C.cs ≠ [] := by rw [hCc]; rintro rfl; simp at hcz
  have hps : f.ps.map pcore = C.ps := by rw [hCL]; exact hfi.ps
  have hfl : f.ps.length = C.ps.length := by rw [← hps]; simp
  obtain ⟨o1, o2, o3⟩ := gc_ok hCL hg
  obtain ⟨d1, d2, d3, d4⟩ := gc_head' hg
  have d5 : NodesM.gnB cs = true := by rw [← hCc]; exact d4.resolve_left hcs
  have c8 := (Ring.good_len d5).2
  have egoal : goal ns cs = cs := by unfold goal; cases cs with | nil => simp at hcz | cons a r => rfl
  obtain ⟨g1, c1, g2, c2, hv6, hv7, hr1, hr2, hl1, hl2, hn1, hn2⟩ := hrg
  rw [egoal] at hv7 hr2
  have hpl := Ring.points_len d5
  have hpp := Ring.points_pos d5
  have hnm := nms_core hps
  have hri : Rising ((nms f).map toL) := by rw [hnm]; exact gc_rising hg
  have hok : ∀ p ∈ f.ps, okP (pcore p) := fun p hp => o3 _ (by rw [← hps]; exact List.mem_map_of_mem hp)
  have hil : ∀ p ∈ f.ps, p.its.length ≤ 100 := fun p hp => (hok p hp).2
  have HAM := hide (allMoved_any M X f g2 c2 (Ring.points cs).length (Ring.ring (Ring.points cs)) (fun k => kOf (own C.cs k) (nms f)) w hf (by omega) (by omega) hri hv7 hr2 (Ring.ring_length _) hpp (by omega) (Ring.ring_sorted _) hil (fun p hp x hx => by
    have hk := gc_key hCL hg (pcore p) (by rw [← hps]; exact List.mem_map_of_mem hp) x hx
    obtain ⟨j, hj⟩ := (gc_owner hg x.key).2 hcs
    obtain ⟨j1, j2⟩ := at_some hj
    refine ⟨by omega, by rw [hCc]; rfl, ?_⟩
    show kOf (own C.cs x.key) (nms f) < _
    rw [hnm, kOf_is (gc_rising hg) (by simpa using j1) j2]
    omega))
  have hfn : f.now = C.now := by rw [hfi.now, hCn]
  rw [hfn] at HAM
  have HMV := hide (moved_iff hg hcs hps)
  have HDR := hide (fun u (hu : FleetAt u M X f) (hMu : M ≤ u.heap.size) => dropOld_any M X f u hu (by omega) (by omega) hil hMu)
  have hd1 : ((cs.length : Int) == 0) = false := by simpa using hcz
  have hd2 : decide ((cs.length : Int) = 0) = false := by simpa using hcz
  have hd3 : (cs.length == 0) = false := by simpa using hcz
  have hd4 : decide (cs.length = 0) = false := by simpa using hcz
  have HF := hide hf
  have HGG := hide hg
  have HNO := hide (fun h => @em_left C h)
  have HYES := hide (fun h => @em_yes C hg (by rw [hCc]; exact hcz) h)
  have HST := hide (stay_some hg hcs)
  have HPS := hide hps
  have HOK := hide hok
  have HC := hide hc
  have HFI := hide hfi
  have HCE := hide hC
  have HXM := hf.xm
  have HH := hide (And.intro d1 d2)
  have HNC := hide (node_small d5)
  have H7 := hide hv7
  have hfl16 : f.ps.length ≤ 16 := by omega
  have hfl0 : 0 < f.ps.length := by omega
  clear hfl o1 o2 o3 d1 d2 d3 d4 hv6 hr1 hr2 hnm hri hok hil hps hg hfi hfn hf hcz hc egoal hC hCL hv7
  obtain ⟨mb, hmb⟩ : ∃ b, b = movedB C := ⟨_, rfl⟩
  rw [← hmb] at HMV HNO HYES
  obtain ⟨R, hRR⟩ : ∃ R, R = emR C := ⟨_, rfl⟩
  rw [← hRR] at HNO HYES ⊢
  clear hmb hRR
  go_enter Tryz.func44, Tryz.ntmps44
  go_wp2_with fail
  refine (unhide HAM).mono ?_
  rintro e w1 ⟨bb, rfl, hbb, hb1⟩
  have B1 := hide hb1
  have F1 := hide ((unhide HF).below hb1)
  have hM1 : M ≤ w1.heap.size := Nat.le_trans hM hb1.size
  have K1 : Hid (Kp M X w w1) := Kp.of_below hb1 hM
  have HBB := hide (hbb.trans (unhide HMV))
  clear hb1 hbb HAM HMV x5
  cases bb
  · have H : Hid (R = (noCC, false)) := unhide HNO (by cases mb; rfl; exact absurd ((unhide HBB).2 rfl) (by simp))
    go_wp2
    go_ret
    exact ⟨false, rfl, unhide K1, .inl ⟨rfl, unhide H⟩⟩
  have HYS := hide (unhide HYES ((unhide HBB).1 rfl))
  clear HYES HNO HBB
  have HD1 := hide (unhide HDR w1 (unhide F1) hM1)
  clear HDR
  go_wp2_with fail
  refine (unhide HD1).mono ?_
  rintro e w2 ⟨qs, rfl, hf2, hdr, hk2⟩
  have F2 := hide hf2
  have DR := hide hdr
  have K2 := hide ((unhide K1).trans hk2)
  have hM2 : M ≤ w2.heap.size := Nat.le_trans hM1 hk2.size
  obtain ⟨x0, x1, x2, x3, x4, x5, x6, x7, x8⟩ := hf2.box.cells
  dsimp only at x0 x1 x2 x3 x4 x5 x6 x7 x8
  rw [(unhide HFI).v5] at x5
  rw [unhide H7] at x7
  have hXf := hf2.box.frozen
  have hX2 : X < w2.heap.size := by omega
  clear hf2 hdr hk2 HD1
  have HBX := hide (box3 (unhide F2) (.slice (some ⟨b2, 0, none⟩) cs.length cs.length) (.slice none 0 0) (.slice (some ⟨g2, 0, none⟩) (Ring.points cs).length c2))
  go_wp2_with fail
  go_region
  go_wp2_with fail
  obtain ⟨hfx, hkx⟩ := unhide HBX
  have F3 := hide (hfx.below ((Below.refl _ _).drew))
  have K3 := hide ((unhide K2).trans (hkx.trans (Kp.of_below ((Below.refl _ _).drew) (Nat.le_trans hM2 hkx.size))))
  clear hfx hkx HBX
  generalize (((w2.setCell ⟨X, 4, none⟩ (.slice (some ⟨b2, 0, none⟩) cs.length cs.length)).setCell ⟨X, 5, none⟩ (.slice none 0 0)).setCell ⟨X, 6, none⟩ (.slice (some ⟨g2, 0, none⟩) (Ring.points cs).length c2)).drew = U at F3 K3 ⊢
  have hMU : M ≤ U.heap.size := Nat.le_trans hM (unhide K3).size
  have hql : qs.length = f.ps.length := (unhide DR).1
  have HCP := hide (closePlaces_any M X _ b2 cs.length cs U (unhide F3) (by show 0 < qs.length; omega) (by show qs.length ≤ 1000; omega) rfl (by omega) (by omega) (Nodes.at_row ((unhide HC).of_block ((unhide K3).block b2 (by omega) (by omega)))) (unhide HNC).1 (fun p hp => (drop_core (unhide DR)).2 (unhide HFI).no p hp) (by show 0 ≤ f.lost ∧ f.lost ≤ 1000000; rw [(unhide HFI).lost]; have h := unhide HH; rw [unhide HCE] at h; exact h) hMU)
  clear x0 x1 x2 x3 x4 x5 x6 x7 x8 hXf
  refine (unhide HCP).mono ?_
  rintro e w4 ⟨rfl, hf4, hk4⟩
  have K4 := hide ((unhide K3).trans hk4)
  have HLE := hide (end_left (unhide HCE) (unhide HGG) hcs (unhide HFI) (unhide DR) (unhide HYS) hf4 ((unhide HC).of_block ((unhide K4).block b2 (by omega) (by omega))))
  clear hf4 hk4 HCP
  go_wp2
  go_ret
  exact ⟨true, rfl, unhide K4, .inr ⟨rfl, unhide HLE⟩⟩
end Fleet
end Go.Proofs.YtkodgbalhnbhcaaGreatDoor
/-
  The program's changed: a step that counts nothing.
-/
namespace Go.Proofs.YtkodgbalhnbhcaaGreatDoor
namespace Fleet
open Go.RowKit Base Store Items OwnR Keep Clus Marks Plc
set_option linter.unusedVariables false

set_option maxRecDepth 10000 in
set_option maxHeartbeats 2000000 in
theorem changed_any (R : CC × Bool) (fv : Value) (now nx lim lost : Int) (v4 v5 v6 : Option Addr) (n4 n5 n6 c4 c5 c6 : Nat) (w : World) (hfv : fv.oneCell' = true)
    (h : ∀ nb u, Below w.heap.size w u → u.cell? ⟨nb, 0, none⟩ = some fv → w.heap.size ≤ nb → Calls Tryz.prog 34 #[.agg #[.int .i64 now, .int .i64 nx, .int .i64 lim, .int .i64 lost, .slice v4 n4 c4, .slice v5 n5 c5, .slice v6 n6 c6], .func (.func 87) #[] #[.pointer (some ⟨nb, 0, none⟩)]] u (Tells3 (R.1, 0, R.2) u)) :
    Calls Tryz.prog 42 #[.agg #[.int .i64 now, .int .i64 nx, .int .i64 lim, .int .i64 lost, .slice v4 n4 c4, .slice v5 n5 c5, .slice v6 n6 c6], fv] w (Tells2 R w) := by
  have HCH := hide h
  have hcl : fv.cells = #[fv] := by cases fv <;> simp_all [Value.oneCell', Value.cells]
  have B0 := hide (bel3 w (.cells #[.int .i64 now, .int .i64 nx, .int .i64 lim, .int .i64 lost, .slice v4 n4 c4, .slice v5 n5 c5, .slice v6 n6 c6] 30) (.cells #[fv] 70) zeroB)
  have n0 : (((w.alloc (.cells #[.int .i64 now, .int .i64 nx, .int .i64 lim, .int .i64 lost, .slice v4 n4 c4, .slice v5 n5 c5, .slice v6 n6 c6] 30)).alloc (.cells #[fv] 70)).alloc zeroB).cell? ⟨w.heap.size + 1, 0, none⟩ = some fv := by
    rw [(bel1 _ zeroB).cell (p := ⟨w.heap.size + 1, 0, none⟩) (by simp)]
    have := (World.cell?_alloc_new (w.alloc (.cells #[.int .i64 now, .int .i64 nx, .int .i64 lim, .int .i64 lost, .slice v4 n4 c4, .slice v5 n5 c5, .slice v6 n6 c6] 30)) #[fv] 70 0)
    rw [World.size_alloc] at this
    rw [this]; rfl
  have CY0 : Hid (CB (((w.alloc (.cells #[.int .i64 now, .int .i64 nx, .int .i64 lim, .int .i64 lost, .slice v4 n4 c4, .slice v5 n5 c5, .slice v6 n6 c6] 30)).alloc (.cells #[fv] 70)).alloc zeroB) (w.heap.size + 2) 0 0 0 0 (.slice none 0 0) (.slice none 0 0) (.slice none 0 0)) := by
    have := CB.new ((w.alloc (.cells #[.int .i64 now, .int .i64 nx, .int .i64 lim, .int .i64 lost, .slice v4 n4 c4, .slice v5 n5 c5, .slice v6 n6 c6] 30)).alloc (.cells #[fv] 70)) 0 0 0 0 (.slice none 0 0) (.slice none 0 0) (.slice none 0 0)
    rw [World.size_alloc, World.size_alloc] at this
    exact this
  have hz0 : w.heap.size + 3 ≤ (((w.alloc (.cells #[.int .i64 now, .int .i64 nx, .int .i64 lim, .int .i64 lost, .slice v4 n4 c4, .slice v5 n5 c5, .slice v6 n6 c6] 30)).alloc (.cells #[fv] 70)).alloc zeroB).heap.size := by simp
  clear h
  go_enter Tryz.func42, Tryz.ntmps42
  go_wp2_with fail
  generalize ((w.alloc (.cells #[.int .i64 now, .int .i64 nx, .int .i64 lim, .int .i64 lost, .slice v4 n4 c4, .slice v5 n5 c5, .slice v6 n6 c6] 30)).alloc (.cells #[fv] 70)).alloc (.cells #[.int .i64 0, .int .i64 0, .int .i64 0, .int .i64 0, .slice none 0 0, .slice none 0 0, .slice none 0 0] 30) = W at B0 n0 CY0 hz0 ⊢
  refine (unhide HCH _ _ (unhide B0) n0 (by omega)).mono ?_
  rintro e w1 ⟨c, rfl, hpl, hco, hap, hb1⟩
  dsimp only at hpl
  have B1 := hide ((unhide B0).trans (hb1.mono (unhide B0).size))
  have CY1 := hide ((unhide CY0).below hb1 (by omega))
  have HPL := hide hpl
  have HCO := hide hco
  have HAP := hide hap
  have hz1 : W.heap.size ≤ w1.heap.size := hb1.size
  clear hpl hco hap hb1 n0 HCH
  unfold clV
  go_upto_region 2 with fail
  have CYA := hide ((unhide CY1).below (bel1 w1 (.cells #[.int .i64 c.now, .int .i64 c.nx, .int .i64 c.lim, .int .i64 c.lost, .slice c.na c.ns.length c.nc, .slice c.ca c.cs.length c.cc, .slice c.pa c.ps.length c.pc] 30)) (by omega))
  have CXA := hide (CB.new w1 c.now c.nx c.lim c.lost (.slice c.na c.ns.length c.nc) (.slice c.ca c.cs.length c.cc) (.slice c.pa c.ps.length c.pc))
  have BA := hide ((unhide B1).alloc (by omega) (.cells #[.int .i64 c.now, .int .i64 c.nx, .int .i64 c.lim, .int .i64 c.lost, .slice c.na c.ns.length c.nc, .slice c.ca c.cs.length c.cc, .slice c.pa c.ps.length c.pc] 30))
  have HCA := hide ((unhide HCO).below (bel1 w1 (.cells #[.int .i64 c.now, .int .i64 c.nx, .int .i64 c.lim, .int .i64 c.lost, .slice c.na c.ns.length c.nc, .slice c.ca c.cs.length c.cc, .slice c.pa c.ps.length c.pc] 30)) (Nat.le_refl _))
  generalize w1.alloc (.cells #[.int .i64 c.now, .int .i64 c.nx, .int .i64 c.lim, .int .i64 c.lost, .slice c.na c.ns.length c.nc, .slice c.ca c.cs.length c.cc, .slice c.pa c.ps.length c.pc] 30) = U at CYA CXA BA HCA ⊢
  obtain ⟨y0, y1, y2, y3, y4, y5, y6, yf, yl⟩ := (unhide CYA).cells
  obtain ⟨x0, x1, x2, x3, x4, x5, x6, xf, xl⟩ := (unhide CXA).cells
  clear CY1 B1
  go_wp2
  refine bodyPost_ret (v := .tuple #[clV c, .bool R.2]) (by simp [results, Tryz.results42, go_sem, clV, y0, y1, y2, y3, y4, y5, y6]) rfl ⟨c, rfl, unhide HPL, CO.le (B := W.heap.size) ?_ (by omega), unhide HAP, ?_⟩
  · repeat (refine CO.set ?_ (by first | (simp; done) | (simp; omega)) _)
    exact unhide HCA
  · repeat (refine Below.setCell ?_ (by first | (simp; done) | (simp; omega)) _)
    exact unhide BA
end Fleet
end Go.Proofs.YtkodgbalhnbhcaaGreatDoor
/-
  The program's EndMove, whole.
-/
namespace Go.Proofs.YtkodgbalhnbhcaaGreatDoor
namespace Fleet
open Go.RowKit Base Store Items OwnR Keep Clus Marks Plc
set_option linter.unusedVariables false

set_option maxRecDepth 10000 in
set_option maxHeartbeats 1000000 in
theorem end1_any (M X : Nat) (R : CC × Bool) (w : World) (h : Calls Tryz.prog 44 #[.pointer (some ⟨X, 0, none⟩)] w (EnEnd M X R w)) :
    Calls Tryz.prog 43 #[.pointer (some ⟨X, 0, none⟩)] w (EnEnd M X R w) := by
  have H := hide h
  clear h
  go_enter Tryz.func43, Tryz.ntmps43
  go_wp2_with fail
  refine (unhide H).mono ?_
  rintro e w1 ⟨ok, rfl, hk, hend⟩
  have HK := hide hk
  have HE := hide hend
  clear hk hend H
  go_wp2
  go_ret
  exact ⟨ok, rfl, unhide HK, unhide HE⟩
set_option maxRecDepth 10000 in
set_option maxHeartbeats 1000000 in
theorem changed1_end (M X nb : Nat) (R : CC × Bool) (w : World) (hnb : w.cell? ⟨nb, 0, none⟩ = some (.func (.func 43) #[] #[])) (h : Calls Tryz.prog 43 #[.pointer (some ⟨X, 0, none⟩)] w (EnEnd M X R w)) :
    Calls Tryz.prog 87 #[.pointer (some ⟨X, 0, none⟩), .pointer (some ⟨nb, 0, none⟩)] w (StepTo M X (R.1, 0, R.2) w) := by
  have H := hide h
  clear h
  go_enter Tryz.func87, Tryz.ntmps87
  go_wp2_with fail
  refine (unhide H).mono ?_
  rintro e w1 ⟨ok, rfl, hk, hend⟩
  have HK := hide hk
  have HE := hide hend
  clear hk hend H
  go_wp2
  go_ret2
  refine ⟨0, ok, rfl, unhide HK, ?_⟩
  rcases unhide HE with ⟨e1, e2⟩ | ⟨e1, e2⟩
  · exact .inl ⟨e1, by rw [e2]⟩
  · exact .inr ⟨e1, e2⟩

theorem end_changedBy (now nx lim lost : Int) (b1 b2 b3 : Nat) (ns cs : List Nodes.D) (L : List Pls.Pl) (nb : Nat) (w : World) (hR : CR w b1 b2 b3 ns cs L) (ln : ns.length ≤ 1048576) (fn : ∀ x ∈ ns, Nodes.Fits x) (lc : cs.length ≤ 1048576) (fc : ∀ x ∈ cs, Nodes.Fits x) (lp : L.length ≤ 1048576) (fp : ∀ x ∈ L, Pls.Fits x) (hv : Ring.Vars w) (hnb : w.cell? ⟨nb, 0, none⟩ = some (.func (.func 43) #[] #[])) :
    Calls Tryz.prog 34 #[.agg #[.int .i64 now, .int .i64 nx, .int .i64 lim, .int .i64 lost, .slice (some ⟨b1, 0, none⟩) ns.length ns.length, .slice (some ⟨b2, 0, none⟩) cs.length cs.length, .slice (some ⟨b3, 0, none⟩) L.length L.length], .func (.func 87) #[] #[.pointer (some ⟨nb, 0, none⟩)]] w (Tells3 ((emR ⟨now, nx, lim, lost, ns, cs, L.map Pls.core⟩).1, 0, (emR ⟨now, nx, lim, lost, ns, cs, L.map Pls.core⟩).2) w) := by
  refine changed_by _ now nx lim lost b1 b2 b3 ns cs L nb w hR ln fn lc fc lp fp hv (fun h => by rw [em_bad h]) (fun hg M X f u hf hX hM hfi hrg hu => ?_)
  have hRu := hR.below hu (Nat.le_refl _)
  exact changed1_end M X nb _ u ((hu.cell (p := ⟨nb, 0, none⟩) (block_lt_of_cell hnb)).trans hnb) (end1_any M X _ u (endMove_any now nx lim lost _ b2 ns cs L M X f u hg hf hM hfi hrg (Nat.lt_of_lt_of_le hR.c.lt hX) hRu.c))

set_option maxRecDepth 10000 in
set_option maxHeartbeats 2000000 in
theorem end_impl (now nx lim lost : Int) (b1 b2 b3 : Nat) (ns cs : List Nodes.D) (L : List Pls.Pl) (w : World) (hR : CR w b1 b2 b3 ns cs L) (ln : ns.length ≤ 1048576) (fn : ∀ x ∈ ns, Nodes.Fits x) (lc : cs.length ≤ 1048576) (fc : ∀ x ∈ cs, Nodes.Fits x) (lp : L.length ≤ 1048576) (fp : ∀ x ∈ L, Pls.Fits x) (hv : Ring.Vars w) :
    Calls Tryz.prog 16 #[.agg #[.int .i64 now, .int .i64 nx, .int .i64 lim, .int .i64 lost, .slice (some ⟨b1, 0, none⟩) ns.length ns.length, .slice (some ⟨b2, 0, none⟩) cs.length cs.length, .slice (some ⟨b3, 0, none⟩) L.length L.length]] w (Tells2 (emR ⟨now, nx, lim, lost, ns, cs, L.map Pls.core⟩) w) := by
  have HCH : Hid (∀ u, Below w.heap.size w u → Calls Tryz.prog 42 #[.agg #[.int .i64 now, .int .i64 nx, .int .i64 lim, .int .i64 lost, .slice (some ⟨b1, 0, none⟩) ns.length ns.length, .slice (some ⟨b2, 0, none⟩) cs.length cs.length, .slice (some ⟨b3, 0, none⟩) L.length L.length], .func (.func 43) #[] #[]] u (Tells2 (emR ⟨now, nx, lim, lost, ns, cs, L.map Pls.core⟩) u)) := fun u hu =>
    changed_any _ _ now nx lim lost _ _ _ _ _ _ _ _ _ u rfl (fun nb v hv' hn hlo => end_changedBy now nx lim lost b1 b2 b3 ns cs L nb v ((hR.below hu (Nat.le_refl _)).below hv' (Nat.le_refl _)) ln fn lc fc lp fp ((hv.below hu).below hv') hn)
  obtain ⟨R, hRR⟩ : ∃ R, R = emR ⟨now, nx, lim, lost, ns, cs, L.map Pls.core⟩ := ⟨_, rfl⟩
  rw [← hRR] at HCH ⊢
  have B0 := hide (bel2 w (.cells #[.int .i64 now, .int .i64 nx, .int .i64 lim, .int .i64 lost, .slice (some ⟨b1, 0, none⟩) ns.length ns.length, .slice (some ⟨b2, 0, none⟩) cs.length cs.length, .slice (some ⟨b3, 0, none⟩) L.length L.length] 30) zeroB)
  have CY0 : Hid (CB ((w.alloc (.cells #[.int .i64 now, .int .i64 nx, .int .i64 lim, .int .i64 lost, .slice (some ⟨b1, 0, none⟩) ns.length ns.length, .slice (some ⟨b2, 0, none⟩) cs.length cs.length, .slice (some ⟨b3, 0, none⟩) L.length L.length] 30)).alloc zeroB) (w.heap.size + 1) 0 0 0 0 (.slice none 0 0) (.slice none 0 0) (.slice none 0 0)) := by
    have := CB.new (w.alloc (.cells #[.int .i64 now, .int .i64 nx, .int .i64 lim, .int .i64 lost, .slice (some ⟨b1, 0, none⟩) ns.length ns.length, .slice (some ⟨b2, 0, none⟩) cs.length cs.length, .slice (some ⟨b3, 0, none⟩) L.length L.length] 30)) 0 0 0 0 (.slice none 0 0) (.slice none 0 0) (.slice none 0 0)
    rw [World.size_alloc] at this
    exact this
  have hz0 : w.heap.size + 2 ≤ ((w.alloc (.cells #[.int .i64 now, .int .i64 nx, .int .i64 lim, .int .i64 lost, .slice (some ⟨b1, 0, none⟩) ns.length ns.length, .slice (some ⟨b2, 0, none⟩) cs.length cs.length, .slice (some ⟨b3, 0, none⟩) L.length L.length] 30)).alloc zeroB).heap.size := by simp
  clear hR fn fc fp hv hRR
  go_enter Tryz.func16, Tryz.ntmps16
  go_wp2_with fail
  generalize (w.alloc (.cells #[.int .i64 now, .int .i64 nx, .int .i64 lim, .int .i64 lost, .slice (some ⟨b1, 0, none⟩) ns.length ns.length, .slice (some ⟨b2, 0, none⟩) cs.length cs.length, .slice (some ⟨b3, 0, none⟩) L.length L.length] 30)).alloc (.cells #[.int .i64 0, .int .i64 0, .int .i64 0, .int .i64 0, .slice none 0 0, .slice none 0 0, .slice none 0 0] 30) = W at B0 CY0 hz0 ⊢
  refine (unhide HCH _ (unhide B0)).mono ?_
  rintro e w1 ⟨c, rfl, hpl, hco, hap, hb1⟩
  have B1 := hide ((unhide B0).trans (hb1.mono (unhide B0).size))
  have CY1 := hide ((unhide CY0).below hb1 (by omega))
  have HPL := hide hpl
  have HCO := hide hco
  have HAP := hide hap
  clear hpl hco hap hb1 HCH
  obtain ⟨y0, y1, y2, y3, y4, y5, y6, yf, yl⟩ := (unhide CY1).cells
  unfold clV
  go_wp2
  refine bodyPost_ret (v := .tuple #[clV c, .bool R.2]) (by simp [results, Tryz.results16, go_sem, clV, y0, y1, y2, y3, y4, y5, y6]) rfl ⟨c, rfl, unhide HPL, CO.le (B := W.heap.size) ?_ (by omega), unhide HAP, ?_⟩
  · repeat (refine CO.set ?_ (by first | (simp; done) | (simp; omega)) _)
    exact unhide HCO
  · repeat (refine Below.setCell ?_ (by first | (simp; done) | (simp; omega)) _)
    exact unhide B1
end Fleet
end Go.Proofs.YtkodgbalhnbhcaaGreatDoor
