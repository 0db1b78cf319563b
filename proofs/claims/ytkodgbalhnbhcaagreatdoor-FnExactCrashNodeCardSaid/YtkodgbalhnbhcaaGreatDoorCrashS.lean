/-
  The model's CrashNode: a place that loses all its items.
-/
import Derived.Test.YtkodgbalhnbhcaaGreatDoorZ26
import Derived.Test.YtkodgbalhnbhcaaGreatDoorClusS
import Derived.Test.YtkodgbalhnbhcaaGreatDoorPoP
namespace Go.Proofs.YtkodgbalhnbhcaaGreatDoor
namespace Clus
open Go.RowKit Base OwnR Plc
set_option linter.unusedVariables false

/-- Which place has a name, plainly. -/
def atC (ps : List Pls.Core) (nm : ByteArray) : Option Nat := ps.findIdx? (fun x => x.name.toList == nm.toList)
theorem plN_core (L : List Pls.Pl) (nm : ByteArray) : plN L nm = atC (L.map Pls.core) nm := by
  unfold plN atC
  rw [List.findIdx?_map]
  rfl
def crashC (x : Pls.Core) : Pls.Core := ⟨x.name, x.lim, x.nx, []⟩
def crR (c : CC) (nm : ByteArray) : CC × Int × Bool :=
  if gcB c = true then match atC c.ps nm with
    | some k => (⟨c.now, c.nx, c.lim, c.lost, c.ns, c.cs, c.ps.set k (crashC (c.ps.getD k Pls.zeroC))⟩, (c.ps.getD k Pls.zeroC).its.length, true)
    | none => (noCC, 0, false)
  else (noCC, 0, false)
theorem crR_bad {c : CC} {nm : ByteArray} (h : gcB c = false) : crR c nm = (noCC, 0, false) := by simp [crR, h]
theorem crR_none {c : CC} {nm : ByteArray} (h : atC c.ps nm = none) : crR c nm = (noCC, 0, false) := by unfold crR; rw [h]; split <;> rfl
theorem crR_some {c : CC} {nm : ByteArray} {k : Nat} (hg : gcB c = true) (h : atC c.ps nm = some k) : crR c nm = ((⟨c.now, c.nx, c.lim, c.lost, c.ns, c.cs, c.ps.set k (crashC (c.ps.getD k Pls.zeroC))⟩ : CC), ((c.ps.getD k Pls.zeroC).its.length : Int), true) := by unfold crR; rw [if_pos hg, h]
/-- How CrashNode ends. -/
def CrashEnd (R : CC × Int × Bool) (w : World) (e : Ending) (w' : World) : Prop :=
  ∃ c : Cl, e = .returned (.tuple #[clV c, .int .i64 R.2.1, .bool R.2.2]) ∧ plain c = R.1 ∧ CO w' w.heap.size c ∧ Below w.heap.size w w'
theorem crash_no {R : CC × Int × Bool} {w w' : World} (h : R = (noCC, 0, false)) (hb : Below w.heap.size w w') : CrashEnd R w (.returned (.tuple #[.agg #[.int .i64 0, .int .i64 0, .int .i64 0, .int .i64 0, .slice none 0 0, .slice none 0 0, .slice none 0 0], .int .i64 0, .bool false])) w' := by
  subst h
  exact ⟨noCl, rfl, rfl, CO.no w' _, hb⟩
theorem crash_yes {R : CC × Int × Bool} {w w' : World} {c : Cl} {k : Nat} {n : Int} (h : R = (plain (crashCl c k), n, true)) (ho : CO w' w.heap.size (crashCl c k)) (hb : Below w.heap.size w w') : CrashEnd R w (.returned (.tuple #[clV c, .int .i64 n, .bool true])) w' := by
  subst h
  exact ⟨crashCl c k, by rw [crashV], rfl, ho, hb⟩
theorem CB.set0 {w : World} {X : Nat} {now nx lim lost : Int} {v4 v5 v6 : Value} (h : CB w X now nx lim lost v4 v5 v6) (v : Int) : CB (w.setCell ⟨X, 0, none⟩ (.int .i64 v)) X v nx lim lost v4 v5 v6 := by
  have h' : w.heap[X]? = _ := h
  unfold CB; simp [World.setCell, Array.getElem?_modify, h']
theorem CB.set1 {w : World} {X : Nat} {now nx lim lost : Int} {v4 v5 v6 : Value} (h : CB w X now nx lim lost v4 v5 v6) (v : Int) : CB (w.setCell ⟨X, 1, none⟩ (.int .i64 v)) X now v lim lost v4 v5 v6 := by
  have h' : w.heap[X]? = _ := h
  unfold CB; simp [World.setCell, Array.getElem?_modify, h']
theorem CB.set2 {w : World} {X : Nat} {now nx lim lost : Int} {v4 v5 v6 : Value} (h : CB w X now nx lim lost v4 v5 v6) (v : Int) : CB (w.setCell ⟨X, 2, none⟩ (.int .i64 v)) X now nx v lost v4 v5 v6 := by
  have h' : w.heap[X]? = _ := h
  unfold CB; simp [World.setCell, Array.getElem?_modify, h']
theorem CB.set3 {w : World} {X : Nat} {now nx lim lost : Int} {v4 v5 v6 : Value} (h : CB w X now nx lim lost v4 v5 v6) (v : Int) : CB (w.setCell ⟨X, 3, none⟩ (.int .i64 v)) X now nx lim v v4 v5 v6 := by
  have h' : w.heap[X]? = _ := h
  unfold CB; simp [World.setCell, Array.getElem?_modify, h']

theorem gc_nodes {C : CC} (h : gcB C = true) : C.ns.length ≤ 8 ∧ C.cs.length ≤ 8 := by
  rw [gc_eq, Bool.and_eq_true, Bool.and_eq_true] at h
  obtain ⟨_, _, _, _, g5, g6⟩ := (head_iff C).1 h.1.1
  refine ⟨(Ring.good_len g5).2, ?_⟩
  rcases g6 with g6 | g6
  · rw [g6]; simp
  · exact (Ring.good_len g6).2
theorem plI_core {L M : List Pls.Pl} {nm : ByteArray} (h : M.map Pls.core = L.map Pls.core) : plN M nm = plN L nm := by rw [plN_core, plN_core, h]
theorem crash_core {L M : List Pls.Pl} {k : Nat} (h : M.map Pls.core = L.map Pls.core) (hk : k < M.length) : (M.set k (crash (M.getD k Pls.zeroL))).map Pls.core = (L.map Pls.core).set k (crashC ((L.map Pls.core).getD k Pls.zeroC)) := by
  rw [← h, List.map_set]
  congr 1
  simp [crash, crashC, Pls.core, hk]
theorem core_its {L M : List Pls.Pl} {k : Nat} (h : M.map Pls.core = L.map Pls.core) (hk : k < M.length) : (M.getD k Pls.zeroL).its.length = ((L.map Pls.core).getD k Pls.zeroC).its.length := by
  rw [← h]
  simp [Pls.core, hk]

/-- A cluster stored into a box. -/
def st7 (w : World) (X : Nat) (now nx lim lost : Int) (v4 v5 v6 : Value) : World := ((((((w.setCell ⟨X, 0, none⟩ (.int .i64 now)).setCell ⟨X, 1, none⟩ (.int .i64 nx)).setCell ⟨X, 2, none⟩ (.int .i64 lim)).setCell ⟨X, 3, none⟩ (.int .i64 lost)).setCell ⟨X, 4, none⟩ v4).setCell ⟨X, 5, none⟩ v5).setCell ⟨X, 6, none⟩ v6
theorem CB.st7 {w : World} {X : Nat} {n0 n1 n2 n3 : Int} {u4 u5 u6 : Value} (h : CB w X n0 n1 n2 n3 u4 u5 u6) (now nx lim lost : Int) (v4 v5 v6 : Value) : CB (st7 w X now nx lim lost v4 v5 v6) X now nx lim lost v4 v5 v6 :=
  ((((((h.set0 now).set1 nx).set2 lim).set3 lost).set4 v4).set5 v5).set6 v6
theorem CB.st7o {w : World} {X Y : Nat} {n0 n1 n2 n3 : Int} {u4 u5 u6 : Value} (h : CB w Y n0 n1 n2 n3 u4 u5 u6) (hX : X ≠ Y) (now nx lim lost : Int) (v4 v5 v6 : Value) : CB (Clus.st7 w X now nx lim lost v4 v5 v6) Y n0 n1 n2 n3 u4 u5 u6 :=
  ((((((h.other (p := ⟨X, 0, none⟩) hX _).other (p := ⟨X, 1, none⟩) hX _).other (p := ⟨X, 2, none⟩) hX _).other (p := ⟨X, 3, none⟩) hX _).other (p := ⟨X, 4, none⟩) hX _).other (p := ⟨X, 5, none⟩) hX _).other (p := ⟨X, 6, none⟩) hX _
theorem below_st7 {w w' : World} {B X : Nat} (h : Below B w w') (hX : B ≤ X) (now nx lim lost : Int) (v4 v5 v6 : Value) : Below B w (st7 w' X now nx lim lost v4 v5 v6) :=
  ((((((h.setCell (p := ⟨X, 0, none⟩) hX _).setCell (p := ⟨X, 1, none⟩) hX _).setCell (p := ⟨X, 2, none⟩) hX _).setCell (p := ⟨X, 3, none⟩) hX _).setCell (p := ⟨X, 4, none⟩) hX _).setCell (p := ⟨X, 5, none⟩) hX _).setCell (p := ⟨X, 6, none⟩) hX _
theorem CO.st7 {w : World} {B X : Nat} {c : Cl} (h : CO w B c) (hX : X < B) (now nx lim lost : Int) (v4 v5 v6 : Value) : CO (st7 w X now nx lim lost v4 v5 v6) B c :=
  ((((((h.set (p := ⟨X, 0, none⟩) hX _).set (p := ⟨X, 1, none⟩) hX _).set (p := ⟨X, 2, none⟩) hX _).set (p := ⟨X, 3, none⟩) hX _).set (p := ⟨X, 4, none⟩) hX _).set (p := ⟨X, 5, none⟩) hX _).set (p := ⟨X, 6, none⟩) hX _
theorem size_st7 (w : World) (X : Nat) (now nx lim lost : Int) (v4 v5 v6 : Value) : (st7 w X now nx lim lost v4 v5 v6).heap.size = w.heap.size := by simp [st7]

set_option maxRecDepth 10000 in
set_option maxHeartbeats 2000000 in
theorem crash_spec (now nx lim lost : Int) (b1 b2 b3 : Nat) (ns cs : List Nodes.D) (L : List Pls.Pl) (nm : ByteArray) (w : World) (hR : CR w b1 b2 b3 ns cs L) (ln : ns.length ≤ 1048576) (fn : ∀ x ∈ ns, Nodes.Fits x) (lc : cs.length ≤ 1048576) (fc : ∀ x ∈ cs, Nodes.Fits x) (lp : L.length ≤ 1048576) (fp : ∀ x ∈ L, Pls.Fits x) :
    Calls Tryz.prog 9 #[.agg #[.int .i64 now, .int .i64 nx, .int .i64 lim, .int .i64 lost, .slice (some ⟨b1, 0, none⟩) ns.length ns.length, .slice (some ⟨b2, 0, none⟩) cs.length cs.length, .slice (some ⟨b3, 0, none⟩) L.length L.length], .string nm] w (CrashEnd (crR ⟨now, nx, lim, lost, ns, cs, L.map Pls.core⟩ nm) w) := by
  obtain ⟨C, hC⟩ : ∃ C : CC, C = ⟨now, nx, lim, lost, ns, cs, L.map Pls.core⟩ := ⟨_, rfl⟩
  rw [← hC]
  have hCL : C.ps = L.map Pls.core := by rw [hC]
  have HR := hide hR
  have HG := hide (fun w' (hb : Below w.heap.size w w') => good_spec now nx lim lost b1 b2 b3 ns cs L w' (hR.below hb (Nat.le_refl _)) ln fn lc fc lp fp)
  rw [← hC] at HG
  obtain ⟨R, hRR⟩ : ∃ R, R = crR C nm := ⟨_, rfl⟩
  rw [← hRR]
  obtain ⟨W, hW⟩ : ∃ W, W = (w.alloc (.cells #[.int .i64 now, .int .i64 nx, .int .i64 lim, .int .i64 lost, .slice (some ⟨b1, 0, none⟩) ns.length ns.length, .slice (some ⟨b2, 0, none⟩) cs.length cs.length, .slice (some ⟨b3, 0, none⟩) L.length L.length] 30)).alloc (.cells #[.int .i64 0, .int .i64 0, .int .i64 0, .int .i64 0, .slice none 0 0, .slice none 0 0, .slice none 0 0] 30) := ⟨_, rfl⟩
  have BW : Hid (Below w.heap.size w W) := by rw [hW]; exact bel2 w _ _
  have hzW : w.heap.size + 2 ≤ W.heap.size := by rw [hW]; simp
  have CX : Hid (CB W w.heap.size now nx lim lost (.slice (some ⟨b1, 0, none⟩) ns.length ns.length) (.slice (some ⟨b2, 0, none⟩) cs.length cs.length) (.slice (some ⟨b3, 0, none⟩) L.length L.length)) := by
    rw [hW]; exact ((bel1 (w.alloc _) _).block w.heap.size (by simp)).trans (heap_alloc_new w _)
  have CY : Hid (CB W (w.heap.size + 1) 0 0 0 0 (.slice none 0 0) (.slice none 0 0) (.slice none 0 0)) := by
    rw [hW]
    have := heap_alloc_new (w.alloc (.cells #[.int .i64 now, .int .i64 nx, .int .i64 lim, .int .i64 lost, .slice (some ⟨b1, 0, none⟩) ns.length ns.length, .slice (some ⟨b2, 0, none⟩) cs.length cs.length, .slice (some ⟨b3, 0, none⟩) L.length L.length] 30)) (.cells #[.int .i64 0, .int .i64 0, .int .i64 0, .int .i64 0, .slice none 0 0, .slice none 0 0, .slice none 0 0] 30)
    rw [World.size_alloc] at this
    exact this
  have HW := hide hW
  have HAT := hide (fun w' (hb : Below w.heap.size w w') => l7At_some now nx lim lost _ _ b3 0 L.length L nm w' (hR.below hb (Nat.le_refl _)).p.lt (fun i hi => Pls.lcell_at (hR.below hb (Nat.le_refl _)).p.row i hi) lp (some ⟨b1, 0, none⟩) ns.length ns.length (some ⟨b2, 0, none⟩) cs.length cs.length rfl rfl)
  clear hW
  cases hg : gcB C
  · have H : Hid (R = (noCC, 0, false)) := hide (hRR.trans (crR_bad hg))
    rw [hg] at HG
    clear hg hRR hC hCL hR fn fc fp HAT
    go_enter Tryz.func9, Tryz.ntmps9
    go_upto_region 1 with fail
    rw [← unhide HW]
    obtain ⟨x0, x1, x2, x3, x4, x5, x6, xf, xz⟩ := (unhide CX).cells
    go_wp2_with fail
    refine (unhide HG _ (unhide BW)).mono ?_
    rintro e w1 ⟨rfl, hb1⟩
    have B1 := hide ((unhide BW).trans (hb1.mono (unhide BW).size))
    have Y1 := hide ((unhide CY).below hb1 (by omega))
    clear hb1 x0 x1 x2 x3 x4 x5 x6 xf xz
    obtain ⟨y0, y1, y2, y3, y4, y5, y6, yf, yz⟩ := (unhide Y1).cells
    go_wp2
    refine bodyPost_ret (v := .tuple #[.agg #[.int .i64 0, .int .i64 0, .int .i64 0, .int .i64 0, .slice none 0 0, .slice none 0 0, .slice none 0 0], .int .i64 0, .bool false]) (by simp [results, Tryz.results9, go_sem, y0, y1, y2, y3, y4, y5, y6]) rfl (crash_no (unhide H) ?_)
    repeat (refine Below.setCell ?_ (by first | (simp; done) | (simp; omega)) _)
    exact unhide B1
  rw [hg] at HG
  cases hat : plN L nm with
  | none =>
    have H : Hid (R = (noCC, 0, false)) := hide (hRR.trans (crR_none (by rw [hCL, ← plN_core]; exact hat)))
    have HI : Hid (plI L nm = -1) := hide (by unfold plI; rw [hat])
    rw [unhide HI] at HAT
    clear hg hat hRR hC hCL hR fn fc fp HI
    go_enter Tryz.func9, Tryz.ntmps9
    go_upto_region 1 with fail
    rw [← unhide HW]
    obtain ⟨x0, x1, x2, x3, x4, x5, x6, xf, xz⟩ := (unhide CX).cells
    go_wp2_with fail
    refine (unhide HG _ (unhide BW)).mono ?_
    rintro e w1 ⟨rfl, hb1⟩
    have B1 := hide ((unhide BW).trans (hb1.mono (unhide BW).size))
    have Y1 := hide ((unhide CY).below hb1 (by omega))
    have X1 := hide ((unhide CX).below hb1 (by omega))
    have hz1 := hb1.size
    clear hb1 x0 x1 x2 x3 x4 x5 x6 xf xz
    obtain ⟨x0, x1, x2, x3, x4, x5, x6, xf, xz⟩ := (unhide X1).cells
    go_wp2_with fail
    refine (unhide HAT _ (unhide B1)).mono ?_
    rintro e w2 ⟨rfl, hb2⟩
    have B2 := hide ((unhide B1).trans (hb2.mono (unhide B1).size))
    have Y2 := hide ((unhide Y1).below hb2 (by omega))
    clear hb2 x0 x1 x2 x3 x4 x5 x6 xf xz
    obtain ⟨y0, y1, y2, y3, y4, y5, y6, yf, yz⟩ := (unhide Y2).cells
    go_wp2
    refine bodyPost_ret (v := .tuple #[.agg #[.int .i64 0, .int .i64 0, .int .i64 0, .int .i64 0, .slice none 0 0, .slice none 0 0, .slice none 0 0], .int .i64 0, .bool false]) (by simp [results, Tryz.results9, go_sem, y0, y1, y2, y3, y4, y5, y6]) rfl (crash_no (unhide H) ?_)
    repeat (refine Below.setCell ?_ (by first | (simp; done) | (simp; omega)) _)
    exact unhide B2
  | some k =>
    have hkL := plN_lt hat
    have HRY := hide (hRR.trans (crR_some hg (by rw [hCL, ← plN_core]; exact hat)))
    have HI : Hid (plI L nm = (k : Int)) := hide (by unfold plI; rw [hat])
    rw [unhide HI] at HAT
    obtain ⟨n8, c8⟩ := gc_nodes hg
    obtain ⟨l16, hgs⟩ := gc_stores hCL hg
    rw [hC] at n8 c8
    dsimp only at n8 c8
    have h60 : ∀ x ∈ L, x.its.length ≤ 1000 := fun x hx => by
      obtain ⟨j, hj, rfl⟩ := List.getElem_of_mem hx
      have := (gs_item (hgs j hj).1).1
      rw [List.getD_eq_getElem?_getD, List.getElem?_eq_getElem hj] at this
      simp only [Option.getD_some] at this
      omega
    have HOWN := hide (fun w' (hb : Below w.heap.size w w') => own_spec now nx lim lost b1 b2 b3 ns cs L w' (hR.below hb (Nat.le_refl _)) (by omega) (by omega) (by omega) h60)
    have HPK := hide (fun (M : List Pls.Pl) (hM : M.map Pls.core = L.map Pls.core) => (show plI M nm = (k : Int) from by unfold plI; rw [plI_core hM, hat]))
    have HC : Hid (C = ⟨now, nx, lim, lost, ns, cs, L.map Pls.core⟩) := hC
    clear hg hat hRR hC hCL hR fn fc fp HI hgs h60
    go_enter Tryz.func9, Tryz.ntmps9
    go_upto_region 1 with fail
    rw [← unhide HW]
    obtain ⟨x0, x1, x2, x3, x4, x5, x6, xf, xz⟩ := (unhide CX).cells
    go_wp2_with fail
    refine (unhide HG _ (unhide BW)).mono ?_
    rintro e w1 ⟨rfl, hb1⟩
    have B1 := hide ((unhide BW).trans (hb1.mono (unhide BW).size))
    have Y1 := hide ((unhide CY).below hb1 (by omega))
    have X1 := hide ((unhide CX).below hb1 (by omega))
    have hz1 := hb1.size
    clear hb1 x0 x1 x2 x3 x4 x5 x6 xf xz HG CX CY BW
    obtain ⟨x0, x1, x2, x3, x4, x5, x6, xf, xz⟩ := (unhide X1).cells
    go_wp2_with fail
    refine (unhide HAT _ (unhide B1)).mono ?_
    rintro e w2 ⟨rfl, hb2⟩
    have B2 := hide ((unhide B1).trans (hb2.mono (unhide B1).size))
    have Y2 := hide ((unhide Y1).below hb2 (by omega))
    have X2 := hide ((unhide X1).below hb2 (by omega))
    have hz2 := hb2.size
    clear hb2 x0 x1 x2 x3 x4 x5 x6 xf xz HAT X1 Y1 B1
    obtain ⟨x0, x1, x2, x3, x4, x5, x6, xf, xz⟩ := (unhide X2).cells
    have hk0 : ¬ (k : Int) < 0 := by omega
    go_wp2_with fail
    refine (unhide HOWN _ (unhide B2)).mono ?_
    rintro e w3 hown
    obtain ⟨a1, c1, a2, c2, a3, c3, M, rfl, hM, hco, hb3⟩ := hown.co
    clear hown
    have B3 := hide ((unhide B2).trans (hb3.mono (unhide B2).size))
    have Y3 := hide ((unhide Y2).below hb3 (by omega))
    have X3 := hide ((unhide X2).below hb3 (by omega))
    have hz3 := hb3.size
    have K3 := hide hco
    have HM := hide hM
    have hkM : k < M.length := by rw [Pls.map_len hM]; exact hkL
    have hlM : M.length ≤ 1048576 := by rw [Pls.map_len hM]; exact lp
    obtain ⟨g, rfl, hg2, hg3⟩ := hco.p.head (show 0 < M.length by omega)
    clear hb3 x0 x1 x2 x3 x4 x5 x6 xf xz HOWN X2 Y2 B2 hco hM
    obtain ⟨x0, x1, x2, x3, x4, x5, x6, xf, xz⟩ := (unhide X3).cells
    go_upto_region 4 with fail
    clear x0 x1 x2 x3 x4 x5 x6 xf xz
    obtain ⟨V, hV⟩ : ∃ V, V = st7 w3 w.heap.size now nx lim lost (.slice a1 ns.length c1) (.slice a2 cs.length c2) (.slice (some ⟨g, 0, none⟩) M.length c3) := ⟨_, rfl⟩
    have X4 := hide ((unhide X3).st7 now nx lim lost (.slice a1 ns.length c1) (.slice a2 cs.length c2) (.slice (some ⟨g, 0, none⟩) M.length c3))
    have Y4 := hide ((unhide Y3).st7o (X := w.heap.size) (by omega) now nx lim lost (.slice a1 ns.length c1) (.slice a2 cs.length c2) (.slice (some ⟨g, 0, none⟩) M.length c3))
    have K4 := hide ((unhide K3).st7 (X := w.heap.size) (by omega) now nx lim lost (.slice a1 ns.length c1) (.slice a2 cs.length c2) (.slice (some ⟨g, 0, none⟩) M.length c3))
    have B4 := hide (below_st7 (unhide B3) (Nat.le_refl _) now nx lim lost (.slice a1 ns.length c1) (.slice a2 cs.length c2) (.slice (some ⟨g, 0, none⟩) M.length c3))
    have hz4 : w3.heap.size ≤ V.heap.size := by rw [hV, size_st7]; exact Nat.le_refl _
    rw [← hV] at X4 Y4 K4 B4
    have HV := hide hV
    unfold st7 at HV
    rw [← unhide HV]
    clear hV HV X3 Y3 K3 B3
    have HA2 := hide (l7At_some now nx lim lost _ _ g 0 c3 M nm V (by omega) (fun i hi => (unhide K4).p.pl i hi) hlM a1 ns.length c1 a2 cs.length c2 rfl rfl)
    rw [unhide HPK M (unhide HM)] at HA2
    obtain ⟨x0, x1, x2, x3, x4, x5, x6, xf, xz⟩ := (unhide X4).cells
    go_wp2_with fail
    refine (unhide HA2).mono ?_
    rintro e w5 ⟨rfl, hb5⟩
    have B5 := hide ((unhide B4).trans (hb5.mono (unhide B4).size))
    have Y5 := hide ((unhide Y4).below hb5 (by omega))
    have X5 := hide ((unhide X4).below hb5 (by omega))
    have K5 := hide ((unhide K4).below hb5 (Nat.le_refl _))
    have hz5 := hb5.size
    clear hb5 x0 x1 x2 x3 x4 x5 x6 xf xz HA2 HPK X4 Y4 B4 K4
    obtain ⟨x0, x1, x2, x3, x4, x5, x6, xf, xz⟩ := (unhide X5).cells
    obtain ⟨p0, p1, p2, p3⟩ := (unhide K5).p.pl k hkM
    rw [Nat.zero_add] at p0 p1 p2 p3
    have pf := (unhide K5).p.row.frozenAt (k * 4 + 3)
    have HIL := hide (core_its (unhide HM) hkM)
    have HCC := hide (crash_core (unhide HM) hkM)
    have K6 := hide ((unhide K5).crash rfl k hkM)
    generalize hy : (M.getD k Pls.zeroL).its.length = yn at p3 HIL
    clear hy
    have hgz : g < w5.heap.size := by omega
    go_upto_region 7 with fail
    have K7 : Hid (CO (w5.setCell ⟨g, k * 4 + 1 + 2, none⟩ (.slice none 0 0)) w2.heap.size (crashCl ⟨now, nx, lim, lost, a1, c1, ns, a2, c2, cs, some ⟨g, 0, none⟩, c3, M⟩ k)) := K6
    have X7 := hide ((unhide X5).other (p := ⟨g, k * 4 + 1 + 2, none⟩) (by show g ≠ w.heap.size; omega) (.slice none 0 0))
    have Y7 := hide ((unhide Y5).other (p := ⟨g, k * 4 + 1 + 2, none⟩) (by show g ≠ w.heap.size + 1; omega) (.slice none 0 0))
    have B7 := hide ((unhide B5).setCell (p := ⟨g, k * 4 + 1 + 2, none⟩) (by show w.heap.size ≤ g; omega) (.slice none 0 0))
    clear x0 x1 x2 x3 x4 x5 x6 xf xz p0 p1 p2 p3 pf K6 X5 Y5 B5 K5 hgz
    generalize w5.setCell ⟨g, k * 4 + 1 + 2, none⟩ (.slice none 0 0) = w7 at K7 X7 Y7 B7 ⊢
    obtain ⟨x0, x1, x2, x3, x4, x5, x6, xf, xz⟩ := (unhide X7).cells
    obtain ⟨y0, y1, y2, y3, y4, y5, y6, yf, yz⟩ := (unhide Y7).cells
    have HRR : Hid (R = (plain (crashCl ⟨now, nx, lim, lost, a1, c1, ns, a2, c2, cs, some ⟨g, 0, none⟩, c3, M⟩ k), (yn : Int), true)) := by
      show R = _
      rw [unhide HRY, unhide HC]
      dsimp only
      rw [← unhide HIL, ← unhide HCC]
      rfl
    clear HRY HC HIL HCC HM
    go_wp2
    refine bodyPost_ret (v := .tuple #[.agg #[.int .i64 now, .int .i64 nx, .int .i64 lim, .int .i64 lost, .slice a1 ns.length c1, .slice a2 cs.length c2, .slice (some ⟨g, 0, none⟩) M.length c3], .int .i64 yn, .bool true]) (by simp [results, Tryz.results9, go_sem, y0, y1, y2, y3, y4, y5, y6]) rfl (crash_yes (unhide HRR) (CO.le (B := w2.heap.size) ?_ (by omega)) ?_)
    · repeat (refine CO.set ?_ (by first | (simp; done) | (simp; omega)) _)
      exact unhide K7
    · repeat (refine Below.setCell ?_ (by first | (simp; done) | (simp; omega)) _)
      exact unhide B7
end Clus
end Go.Proofs.YtkodgbalhnbhcaaGreatDoor
