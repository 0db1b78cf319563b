/-
  The model's l7Begin: a move's beginning.
-/
import Derived.Test.YtkodgbalhnbhcaaGreatDoorZ23
import Derived.Deep.RegionWith
import Derived.Deep.DeepCutAuto
namespace Go.Proofs.YtkodgbalhnbhcaaGreatDoor
namespace Beg
open Go.RowKit Base OwnR Plc Clus
set_option linter.unusedVariables false

def fresh (lim : Int) (nm : ByteArray) : Pls.Pl := ⟨nm, lim, 1, none, 0, []⟩
theorem fresh_flat (lim : Int) (W : List ByteArray) : pflat (W.map (fresh lim)) = Plc.flat lim W := by
  unfold pflat Plc.flat
  rw [List.flatMap_map]
  rfl
theorem fresh_core (ps : List Pls.Core) (lim : Int) (W : List ByteArray) : (W.map (fresh lim)).map Pls.core = W.map (lookK ps lim 0) := by
  rw [List.map_map]
  apply List.map_congr_left
  intro nm _
  rw [look_zero]
  rfl
/-- The new places in their row. -/
theorem fresh_po {w : World} {B base g n cap : Nat} {lim : Int} {W : List ByteArray} (h : w.ownsRow base 59 4 (.slice (some ⟨g, 0, none⟩) n cap) n (Plc.flat lim W)) (hn : W.length = n) (hB : B ≤ base) : PO w B (some ⟨g, 0, none⟩) n cap (W.map (fresh lim)) := by
  refine ⟨by rw [List.length_map]; exact hn, by rw [fresh_flat]; exact own_le h hB, fun x hx => ?_, fun x hx q hq => ?_⟩
  · obtain ⟨nm, _, rfl⟩ := List.mem_map.1 hx
    exact World.ownsRow_nil _ _ _ _
  · obtain ⟨nm, _, rfl⟩ := List.mem_map.1 hx
    simp [fresh, Value.ownBlock] at hq
theorem PO.put4o {w : World} {B : Nat} {a : Option Addr} {n cap g k : Nat} {M : List Pls.Pl} {y : Pls.Pl} (h : PO w B a n cap M) (hg : (Value.slice a n cap).ownBlock ≠ some g) (hi : ∀ x ∈ M, (Value.slice x.a x.its.length x.cap).ownBlock ≠ some g) : PO (put4 w g k y) B a n cap M :=
  ⟨h.len, own_put4 h.row hg k y, fun x hx => own_put4 (h.its x hx) (hi x hx) k y, h.far⟩
theorem PO.setY {w : World} {B Y : Nat} {a : Option Addr} {n cap : Nat} {M : List Pls.Pl} {n0 n1 n2 n3 : Int} {u4 u5 u6 : Value} (h : PO w B a n cap M) (hc : CB w Y n0 n1 n2 n3 u4 u5 u6) (o : Nat) (v : Value) : PO (w.setCell ⟨Y, o, none⟩ v) B a n cap M :=
  ⟨h.len, ownsRow_setCell_other h.row (a := ⟨Y, o, none⟩) (box_far h.row hc (by decide)) v, fun x hx => ownsRow_setCell_other (h.its x hx) (a := ⟨Y, o, none⟩) (box_far (h.its x hx) hc (by decide)) v, h.far⟩
theorem at_in {s : List Pls.Core} {W : List ByteArray} {z : ByteArray} (hs : s.map (·.name) = W) (hz : z ∈ W) : ∃ j, j < W.length ∧ atC s z = some j ∧ W.getD j ByteArray.empty = z := by
  cases h : atC s z with
  | some j =>
    obtain ⟨h1, h2⟩ := Fleet.at_some h
    rw [hs] at h2
    exact ⟨j, by rw [← hs, List.length_map]; exact h1, rfl, h2⟩
  | none =>
    rw [← hs] at hz
    obtain ⟨c, hc, rfl⟩ := List.mem_map.1 hz
    unfold atC at h
    have := List.findIdx?_eq_none_iff.1 h c hc
    simp at this
theorem names_look (ps : List Pls.Core) (lim : Int) (k : Nat) (W : List ByteArray) : (W.map (lookK ps lim k)).map (·.name) = W := by
  rw [List.map_map]
  have : (fun nm => (lookK ps lim k nm).name) = id := by funext nm; exact look_name ps lim k nm
  show W.map (fun nm => (lookK ps lim k nm).name) = W
  rw [this, List.map_id]
theorem put4_cell {u : World} {g b k o : Nat} {y : Pls.Pl} (hb : b ≠ g) : (put4 u g k y).cell? ⟨b, o, none⟩ = u.cell? ⟨b, o, none⟩ := by
  refine World.cell?_of_block (w := u) (a := ⟨b, o, none⟩) ?_
  unfold put4
  rw [Below.heap_setCell _ _ _ _ (show b ≠ (⟨g, k * 4 + 3, none⟩ : Addr).block from hb), Below.heap_setCell _ _ _ _ (show b ≠ (⟨g, k * 4 + 2, none⟩ : Addr).block from hb), Below.heap_setCell _ _ _ _ (show b ≠ (⟨g, k * 4 + 1, none⟩ : Addr).block from hb), Below.heap_setCell _ _ _ _ (show b ≠ (⟨g, k * 4, none⟩ : Addr).block from hb)]
/-- How l7Begin ends. -/
def BgEnd (now nx lim lost : Int) (a1 : Option Addr) (c1 : Nat) (ns nd : List Nodes.D) (ps : List Pls.Core) (B : Nat) (w : World) (e : Ending) (w' : World) : Prop :=
  ∃ (a2 : Option Addr) (k2 g k3 : Nat) (N : List Pls.Pl), e = .returned (.agg #[.int .i64 now, .int .i64 nx, .int .i64 lim, .int .i64 lost, .slice a1 ns.length c1, .slice a2 nd.length k2, .slice (some ⟨g, 0, none⟩) N.length k3]) ∧
    N.map Pls.core = (insAll (ns.map (·.name) ++ nd.map (·.name))).map (look ps lim) ∧ CO w' B ⟨now, nx, lim, lost, a1, c1, ns, a2, k2, nd, some ⟨g, 0, none⟩, k3, N⟩ ∧ Below B w w' ∧ w.heap.size ≤ w'.heap.size

set_option maxRecDepth 10000 in
set_option maxHeartbeats 4000000 in
theorem begin_spec (now nx lim lost : Int) (a1 : Option Addr) (c1 : Nat) (ns : List Nodes.D) (a2 : Option Addr) (c2 : Nat) (cs : List Nodes.D) (g0 c3 : Nat) (M : List Pls.Pl) (bn : Nat) (nd : List Nodes.D) (B : Nat) (w : World) (hB : B ≤ w.heap.size) (hco : CO w B ⟨now, nx, lim, lost, a1, c1, ns, a2, c2, cs, some ⟨g0, 0, none⟩, c3, M⟩) (hg0 : g0 < w.heap.size)
    (hn : w.rowIs bn 76 (nd.length * 2) (Nodes.icell nd)) (l1 : ns.length ≤ 8) (l2 : nd.length ≤ 8) (h2 : 0 < nd.length) (hM : M.length ≤ 16) (hr : Rising (((M.map Pls.core).map (·.name)).map toL)) (hin : ∀ i, i < M.length → (M.getD i Pls.zeroL).name ∈ insAll (ns.map (·.name) ++ nd.map (·.name))) :
    Calls Tryz.prog 48 #[.agg #[.int .i64 now, .int .i64 nx, .int .i64 lim, .int .i64 lost, .slice a1 ns.length c1, .slice a2 cs.length c2, .slice (some ⟨g0, 0, none⟩) M.length c3], .slice (some ⟨bn, 0, none⟩) nd.length nd.length] w (BgEnd now nx lim lost a1 c1 ns nd (M.map Pls.core) B w) := by
  obtain ⟨i0, hi, hz0, hz1, hz2⟩ := info_nd
  have HI := hide hi
  have HZ0 := hide hz0
  have HZ1 := hide hz1
  have HZ2 := hide hz2
  clear hi hz0 hz1 hz2
  obtain ⟨Wn, hWn⟩ : ∃ W, W = insAll (ns.map (·.name) ++ nd.map (·.name)) := ⟨_, rfl⟩
  have hWr : Rising (Wn.map toL) := by rw [hWn]; exact insAll_rising _
  have hWl : 0 < Wn.length := by
    obtain ⟨x, r, e⟩ := List.exists_cons_of_ne_nil (show nd ≠ [] from fun e => by rw [e] at h2; simp at h2)
    exact List.length_pos_of_mem (a := x.name) (by rw [hWn]; exact (insAll_mem _ _).2 (by rw [e]; simp))
  have hWm : Wn.length ≤ 16 := by
    rw [hWn]
    have := insAll_len (ns.map (·.name) ++ nd.map (·.name))
    rw [List.length_append, List.length_map, List.length_map] at this
    omega
  rw [← hWn] at hin
  have HWN := hide hWn
  have HWR := hide hWr
  have HRI := hide hr
  have HIN := hide hin
  obtain ⟨W, hW⟩ : ∃ W, W = (w.alloc (.cells #[.int .i64 now, .int .i64 nx, .int .i64 lim, .int .i64 lost, .slice a1 ns.length c1, .slice a2 cs.length c2, .slice (some ⟨g0, 0, none⟩) M.length c3] 30)).alloc (.cells #[.int .i64 0, .int .i64 0, .int .i64 0, .int .i64 0, .slice none 0 0, .slice none 0 0, .slice none 0 0] 30) := ⟨_, rfl⟩
  have BW0 : Below w.heap.size w W := by rw [hW]; exact bel2 w _ _
  have hzW : w.heap.size + 2 ≤ W.heap.size := by rw [hW]; simp
  have CX : Hid (CB W w.heap.size now nx lim lost (.slice a1 ns.length c1) (.slice a2 cs.length c2) (.slice (some ⟨g0, 0, none⟩) M.length c3)) := by
    rw [hW]; exact ((bel1 (w.alloc _) _).block w.heap.size (by simp)).trans (heap_alloc_new w _)
  have CY : Hid (CB W (w.heap.size + 1) 0 0 0 0 (.slice none 0 0) (.slice none 0 0) (.slice none 0 0)) := by
    rw [hW]
    have := heap_alloc_new (w.alloc (.cells #[.int .i64 now, .int .i64 nx, .int .i64 lim, .int .i64 lost, .slice a1 ns.length c1, .slice a2 cs.length c2, .slice (some ⟨g0, 0, none⟩) M.length c3] 30)) (.cells #[.int .i64 0, .int .i64 0, .int .i64 0, .int .i64 0, .slice none 0 0, .slice none 0 0, .slice none 0 0] 30)
    rw [World.size_alloc] at this
    exact this
  have KW := hide (hco.below BW0 (Nat.le_refl _))
  have BW : Hid (Below B w W) := BW0.mono hB
  have N1 : Hid (∀ o, ∀ j u, (nflat nd)[j]? = some u → (W.alloc o).cell? ((⟨bn, 0, none⟩ : Addr).add j) = some u) := fun o => nflat_cells (Nodes.at_row ((hn.of_block (BW0.block bn hn.lt)).of_block ((bel1 W o).block bn (Nat.lt_of_lt_of_le hn.lt BW0.size))))
  have E1 : Hid ((W.alloc (.cells #[] 76)).ownsRow W.heap.size 76 2 (.slice (some ⟨W.heap.size, 0, none⟩) 0 0) 0 []) := World.ownsRow_lit (e := 76) (size := 2) W #[] 0 (Nat.le_refl _) (by decide) rfl
  have HW := hide hW
  clear hco hn hW BW0 hWn hWr hr hin
  go_enter Tryz.func48, Tryz.ntmps48
  go_upto_region 1 with fail
  rw [← unhide HW]
  clear HW
  obtain ⟨x0, x1, x2, x3, x4, x5, x6, xf, xz⟩ := (unhide CX).cells
  go_wp2_with (at_builtin; go_loud (refine wpList_append_own _ rfl _ _ 27 rfl W.heap.size 76 i0 _ 2 24 Tryz.underlying27 (unhide HI) (unhide HZ0) (unhide HZ1) (unhide HZ2) rfl (by decide) _ _ _ rfl (unhide E1) ⟨bn, 0, none⟩ nd.length nd.length (nflat nd) rfl (nflat_len nd) (unhide N1 _) (fun u hu => nflat_one hu) ?ap1 ?ap2 ?ap3 ?_))
  case ap1 => unfold maxLen; omega
  case ap2 => omega
  intro v1 w1 hown1 hgrow1 _
  obtain ⟨an, kn, rfl⟩ := own_form hown1
  have O1 : Hid (w1.ownsRow W.heap.size 76 2 (.slice an nd.length kn) nd.length (nflat nd)) := hown1
  have B1 := hide ((bel1 W _).grown hgrow1 (by simp) (own_block (unhide E1)))
  clear hown1 hgrow1 N1 E1
  have X1 := hide ((unhide CX).below (unhide B1) xz)
  have Y1 := hide ((unhide CY).below (unhide B1) (by omega))
  have K1 := hide ((unhide KW).below (unhide B1) (Nat.le_refl _))
  have G1 := hide ((unhide BW).trans ((unhide B1).mono (by omega)))
  have hz1 := (unhide B1).size
  clear x0 x1 x2 x3 x4 x5 x6 xf xz CX CY KW BW B1
  obtain ⟨x0, x1, x2, x3, x4, x5, x6, xf, xz⟩ := (unhide X1).cells
  go_upto_region 3 with fail
  have X2 := hide ((unhide X1).set5 (.slice an nd.length kn))
  have Y2 := hide ((unhide Y1).other (p := ⟨w.heap.size, 5, none⟩) (by show w.heap.size ≠ w.heap.size + 1; omega) (.slice an nd.length kn))
  have K2 := hide ((unhide K1).box (unhide X1) 5 (.slice an nd.length kn))
  have O2 := hide (ownsRow_setCell_below (unhide O1) (a := ⟨w.heap.size, 5, none⟩) (by show w.heap.size < W.heap.size; omega) (.slice an nd.length kn))
  have G2 := hide ((unhide G1).setCell (p := ⟨w.heap.size, 5, none⟩) hB (.slice an nd.length kn))
  have hz2 : W.heap.size ≤ (w1.setCell ⟨w.heap.size, 5, none⟩ (.slice an nd.length kn)).heap.size := by simp; omega
  clear x0 x1 x2 x3 x4 x5 x6 xf xz X1 Y1 K1 O1 G1
  generalize w1.setCell ⟨w.heap.size, 5, none⟩ (.slice an nd.length kn) = w2 at X2 Y2 K2 O2 G2 hz2 ⊢
  have HPL := hide (places_any (fun i => if i = 0 then a1 else an) (fun i => if i = 0 then c1 else kn) (fun i => if i = 0 then ns else nd) lim w2 (fun i hi => by
    by_cases h0 : i = 0
    · subst h0; exact nodes_at (unhide K2).n rfl
    · simp only [if_neg h0]; exact nodes_at (unhide O2) rfl) (fun i hi => by by_cases h0 : i = 0 <;> simp [h0] <;> omega))
  have epre : pre (fun i => if i = 0 then ns else nd) 2 = ns.map (·.name) ++ nd.map (·.name) := by simp [pre]
  simp only [epre] at HPL
  rw [← unhide HWN] at HPL
  simp only [if_true, show ((1 : Nat) = 0) = False by simp, if_false] at HPL
  clear epre
  obtain ⟨x0, x1, x2, x3, x4, x5, x6, xf, xz⟩ := (unhide X2).cells
  go_wp2_with fail
  refine (unhide HPL).mono ?_
  rintro e w3 ⟨v, rfl, hown3, hb3⟩
  obtain ⟨g, k3, rfl, hgw, hr3⟩ := Keep.Row.of_owns hown3 hWl
  have hg3 : g < w3.heap.size := hr3.lt
  clear hr3
  have K3 := hide ((unhide K2).below hb3 (Nat.le_refl _))
  have X3 := hide ((unhide X2).below hb3 xz)
  have Y3 := hide ((unhide Y2).below hb3 (by omega))
  have O3 := hide (own_below (unhide O2) hb3 (Nat.le_refl _))
  have G3 := hide ((unhide G2).trans (hb3.mono (by omega)))
  have hz3 := hb3.size
  have C3 : Hid (CO w3 B ⟨now, nx, lim, lost, a1, c1, ns, an, kn, nd, some ⟨g, 0, none⟩, k3, Wn.map (fresh lim)⟩) := by
    refine ⟨(unhide K3).n, own_le (unhide O3) (by omega), ?_, ?_, ?_⟩
    · show PO w3 B (some ⟨g, 0, none⟩) (Wn.map (fresh lim)).length k3 (Wn.map (fresh lim))
      rw [List.length_map]
      exact fresh_po hown3 rfl (by omega)
    · intro q hq e
      have e' : g = q := by simpa [Value.ownBlock] using e
      have := ((unhide K2).n.lt q hq).2
      omega
    · intro q hq e
      have e' : g = q := by simpa [Value.ownBlock] using e
      have := ((unhide O2).lt q hq).2
      omega
  have hg0g : g0 ≠ g := by
    have := ((unhide K2).p.row.lt g0 rfl).2
    omega
  clear hb3 hown3 x0 x1 x2 x3 x4 x5 x6 xf xz X2 Y2 K2 O2 G2 O3 HPL
  obtain ⟨x0, x1, x2, x3, x4, x5, x6, xf, xz⟩ := (unhide X3).cells
  go_upto_region 4 with fail
  have X4 := hide ((unhide X3).set6 (.slice (some ⟨g, 0, none⟩) Wn.length k3))
  have Y4 := hide ((unhide Y3).other (p := ⟨w.heap.size, 6, none⟩) (by show w.heap.size ≠ w.heap.size + 1; omega) (.slice (some ⟨g, 0, none⟩) Wn.length k3))
  have C4 := hide ((unhide C3).box (unhide X3) 6 (.slice (some ⟨g, 0, none⟩) Wn.length k3))
  have P4 := hide (PO.setY (unhide K3).p (unhide X3) 6 (.slice (some ⟨g, 0, none⟩) Wn.length k3))
  have G4 := hide ((unhide G3).setCell (p := ⟨w.heap.size, 6, none⟩) hB (.slice (some ⟨g, 0, none⟩) Wn.length k3))
  have hz4 : w3.heap.size ≤ (w3.setCell ⟨w.heap.size, 6, none⟩ (.slice (some ⟨g, 0, none⟩) Wn.length k3)).heap.size := by simp
  clear x0 x1 x2 x3 x4 x5 x6 xf xz X3 Y3 K3 C3 G3
  generalize w3.setCell ⟨w.heap.size, 6, none⟩ (.slice (some ⟨g, 0, none⟩) Wn.length k3) = w4 at X4 Y4 C4 P4 G4 hz4 ⊢
  have hBg : B ≤ g := by omega
  have hzz4 : w.heap.size + 2 ≤ w4.heap.size := by omega
  have hgz4 : g < w4.heap.size := by omega
  have hgH : w.heap.size + 2 ≤ g := by omega
  have S4 := hide (fresh_core (M.map Pls.core) lim Wn)
  have L4 : Hid ((Wn.map (fresh lim)).length = Wn.length) := List.length_map _
  dsimp only at P4
  go_wp2_with fail
  go_loopw [24] (fun iv wr => ∃ (k : Nat) (N : List Pls.Pl), k ≤ M.length ∧ iv = .int .i64 (k : Int) ∧ Hid (N.length = Wn.length) ∧ Hid (N.map Pls.core = Wn.map (lookK (M.map Pls.core) lim k)) ∧ Hid (CO wr B ⟨now, nx, lim, lost, a1, c1, ns, an, kn, nd, some ⟨g, 0, none⟩, k3, N⟩) ∧ Hid (PO wr B (some ⟨g0, 0, none⟩) M.length c3 M) ∧ Hid (CB wr w.heap.size now nx lim lost (.slice a1 ns.length c1) (.slice an nd.length kn) (.slice (some ⟨g, 0, none⟩) Wn.length k3)) ∧ Hid (CB wr (w.heap.size + 1) 0 0 0 0 (.slice none 0 0) (.slice none 0 0) (.slice none 0 0)) ∧ Hid (Below B w wr) ∧ w4.heap.size ≤ wr.heap.size) (fun iv _ => M.length - (intOf iv).toNat)
  case atStart => exact ⟨0, Wn.map (fresh lim), Nat.zero_le _, rfl, L4, S4, C4, P4, X4, Y4, G4, Nat.le_refl _⟩
  case round =>
    clear X4 Y4 C4 P4 G4 S4 L4
    obtain ⟨k, N, hk, rfl, hNl, hNc, hK, hP, hX, hY, hbk, hzk⟩ := hrel
    by_cases hlt : k < M.length
    case neg =>
      obtain rfl : k = M.length := by omega
      obtain ⟨x0, x1, x2, x3, x4, x5, x6, xf, xz⟩ := (unhide hX).cells
      obtain ⟨y0, y1, y2, y3, y4, y5, y6, yf, yz⟩ := (unhide hY).cells
      go_wp2
      refine bodyPost_ret (v := .agg #[.int .i64 now, .int .i64 nx, .int .i64 lim, .int .i64 lost, .slice a1 ns.length c1, .slice an nd.length kn, .slice (some ⟨g, 0, none⟩) Wn.length k3]) (by simp [results, Tryz.results48, go_sem, y0, y1, y2, y3, y4, y5, y6]) rfl ⟨an, kn, g, k3, N, ?_, ?_, ?_, ?_, ?_⟩
      · rw [unhide hNl]
      · rw [← unhide HWN, unhide hNc]
        apply List.map_congr_left
        intro nm _
        unfold look
        rw [List.length_map]
      · exact (unhide hK).box7 (unhide hY) now nx lim lost (.slice a1 ns.length c1) (.slice an nd.length kn) (.slice (some ⟨g, 0, none⟩) Wn.length k3)
      · repeat (refine Below.setCell ?_ (by first | (simp; done) | (simp; omega)) _)
        exact unhide hbk
      · simp; omega
    obtain ⟨d0, d1, d2, d3⟩ := (unhide hP).pl k hlt
    rw [Nat.zero_add] at d0 d1 d2 d3
    have HXI := hide ((unhide hP).its _ (Pls.getD_mem hlt))
    have hzin := unhide HIN k hlt
    obtain ⟨j, hj, hat, hWj⟩ := at_in (s := N.map Pls.core) (by rw [unhide hNc]; exact names_look _ _ _ _) hzin
    have HST : Hid ((N.set j (M.getD k Pls.zeroL)).map Pls.core = Wn.map (lookK (M.map Pls.core) lim (k + 1))) := by
      have e1 : (M.map Pls.core).getD k Pls.zeroC = Pls.core (M.getD k Pls.zeroL) := by simp [List.getD_eq_getElem?_getD, List.getElem?_map, List.getElem?_eq_getElem hlt]
      show (N.set j (M.getD k Pls.zeroL)).map Pls.core = _
      rw [List.map_set, unhide hNc, ← e1]
      exact look_step (unhide HRI) (unhide HWR) (by simpa using hlt) hj (by rw [e1]; exact hWj)
    have hpl : plI N (M.getD k Pls.zeroL).name = (j : Int) := by unfold plI; rw [plN_core, hat]
    have hjN : j < N.length := by rw [unhide hNl]; exact hj
    have hrf : ∀ y ∈ M, (Value.slice y.a y.its.length y.cap).ownBlock ≠ some g := fun y hy => by
      have hrow := (unhide hK).p.row
      rcases hrow.2 with ⟨hv, _⟩ | ⟨q, cap, cur, hv, _, hh, _⟩
      · simp at hv
      · simp only [Value.slice.injEq, Option.some.injEq, Addr.mk.injEq, and_true] at hv
        rw [← hv.1] at hh
        exact kind_far ((unhide hP).its y hy) hh (by decide)
    have HRF := hide hrf
    have hxf := hrf _ (Pls.getD_mem hlt)
    have HXF := hide hxf
    clear hat hzin hWj hrf hxf
    generalize M.getD k Pls.zeroL = x at d0 d1 d2 d3 HXI HST hpl HXF
    have HAT := hide (fun u (hu : CO u B ⟨now, nx, lim, lost, a1, c1, ns, an, kn, nd, some ⟨g, 0, none⟩, k3, N⟩) (hgu : g < u.heap.size) => l7At_some now nx lim lost (.slice a1 ns.length c1) (.slice an nd.length kn) g 0 k3 N x.name u hgu (fun i hi => hu.p.pl i hi) (by rw [unhide hNl]; omega) a1 ns.length c1 an nd.length kn rfl rfl)
    rw [hpl, unhide hNl] at HAT
    clear hpl
    obtain ⟨x0, x1, x2, x3, x4, x5, x6, xf, xz⟩ := (unhide hX).cells
    go_upto_region 7 with fail
    have q0 : (wr.alloc (.cells #[.string x.name, .int .i64 x.lim, .int .i64 x.nx, .slice x.a x.its.length x.cap] 59)).cell? ⟨wr.heap.size, 0, none⟩ = some (.string x.name) := by rw [World.cell?_alloc_new]; rfl
    have q1 : (wr.alloc (.cells #[.string x.name, .int .i64 x.lim, .int .i64 x.nx, .slice x.a x.its.length x.cap] 59)).cell? ⟨wr.heap.size, 1, none⟩ = some (.int .i64 x.lim) := by rw [World.cell?_alloc_new]; rfl
    have q2 : (wr.alloc (.cells #[.string x.name, .int .i64 x.lim, .int .i64 x.nx, .slice x.a x.its.length x.cap] 59)).cell? ⟨wr.heap.size, 2, none⟩ = some (.int .i64 x.nx) := by rw [World.cell?_alloc_new]; rfl
    have q3 : (wr.alloc (.cells #[.string x.name, .int .i64 x.lim, .int .i64 x.nx, .slice x.a x.its.length x.cap] 59)).cell? ⟨wr.heap.size, 3, none⟩ = some (.slice x.a x.its.length x.cap) := by rw [World.cell?_alloc_new]; rfl
    have BV := hide (bel1 wr (.cells #[.string x.name, .int .i64 x.lim, .int .i64 x.nx, .slice x.a x.its.length x.cap] 59))
    have hzV : wr.heap.size < (wr.alloc (.cells #[.string x.name, .int .i64 x.lim, .int .i64 x.nx, .slice x.a x.its.length x.cap] 59)).heap.size := by simp
    generalize wr.alloc (.cells #[.string x.name, .int .i64 x.lim, .int .i64 x.nx, .slice x.a x.its.length x.cap] 59) = V at q0 q1 q2 q3 BV hzV ⊢
    obtain ⟨pb, hpb⟩ : ∃ b, b = wr.heap.size := ⟨_, rfl⟩
    rw [← hpb] at q0 q1 q2 q3 hzV ⊢
    clear d0 d1 d2 d3 x0 x1 x2 x3 x4 x5 x6 xf xz
    have XV := hide ((unhide hX).below (unhide BV) (by omega))
    have YV := hide ((unhide hY).below (unhide BV) (by omega))
    have KV := hide ((unhide hK).below (unhide BV) (Nat.le_refl _))
    have PV := hide ((unhide hP).below (unhide BV) (Nat.le_refl _))
    have IV := hide (own_below (unhide HXI) (unhide BV) (Nat.le_refl _))
    have GV := hide ((unhide hbk).trans ((unhide BV).mono (by omega)))
    have hzz : wr.heap.size ≤ V.heap.size := by omega
    have hpg : pb ≠ g := by omega
    clear hX hY hK hP HXI hbk BV hpb
    obtain ⟨x0, x1, x2, x3, x4, x5, x6, xf, xz⟩ := (unhide XV).cells
    have hgV : g < V.heap.size := by omega
    have HCV := hide (unhide HAT V.drew ((unhide KV).below (Below.refl V.heap.size V).drew (Nat.le_refl _)) hgV)
    have HSK : Hid (∀ u, Below V.heap.size V u → u.cell? ⟨w.heap.size, 0, none⟩ = some (.int .i64 now) ∧ u.cell? ⟨w.heap.size, 1, none⟩ = some (.int .i64 nx) ∧ u.cell? ⟨w.heap.size, 2, none⟩ = some (.int .i64 lim) ∧ u.cell? ⟨w.heap.size, 3, none⟩ = some (.int .i64 lost) ∧ u.cell? ⟨w.heap.size, 4, none⟩ = some (.slice a1 ns.length c1) ∧ u.cell? ⟨w.heap.size, 5, none⟩ = some (.slice an nd.length kn) ∧ u.cell? ⟨w.heap.size, 6, none⟩ = some (.slice (some ⟨g, 0, none⟩) Wn.length k3) ∧ u.cell? ⟨pb, 0, none⟩ = some (.string x.name) ∧ u.cell? ⟨pb, 1, none⟩ = some (.int .i64 x.lim) ∧ u.cell? ⟨pb, 2, none⟩ = some (.int .i64 x.nx) ∧ u.cell? ⟨pb, 3, none⟩ = some (.slice x.a x.its.length x.cap)) := fun u hu => by
      obtain ⟨z0, z1, z2, z3, z4, z5, z6, -, -⟩ := ((unhide XV).below hu (by omega)).cells
      exact ⟨z0, z1, z2, z3, z4, z5, z6, (hu.cell (p := ⟨pb, 0, none⟩) hzV).trans q0, (hu.cell (p := ⟨pb, 1, none⟩) hzV).trans q1, (hu.cell (p := ⟨pb, 2, none⟩) hzV).trans q2, (hu.cell (p := ⟨pb, 3, none⟩) hzV).trans q3⟩
    have hwg : w.heap.size ≠ g := by omega
    have HSP : Hid (∀ u, Below V.heap.size V u → (put4 u g j x).cell? ⟨w.heap.size, 0, none⟩ = some (.int .i64 now) ∧ (put4 u g j x).cell? ⟨w.heap.size, 1, none⟩ = some (.int .i64 nx) ∧ (put4 u g j x).cell? ⟨w.heap.size, 2, none⟩ = some (.int .i64 lim) ∧ (put4 u g j x).cell? ⟨w.heap.size, 3, none⟩ = some (.int .i64 lost) ∧ (put4 u g j x).cell? ⟨w.heap.size, 4, none⟩ = some (.slice a1 ns.length c1) ∧ (put4 u g j x).cell? ⟨w.heap.size, 5, none⟩ = some (.slice an nd.length kn) ∧ (put4 u g j x).cell? ⟨w.heap.size, 6, none⟩ = some (.slice (some ⟨g, 0, none⟩) Wn.length k3) ∧ (put4 u g j x).cell? ⟨pb, 0, none⟩ = some (.string x.name) ∧ (put4 u g j x).cell? ⟨pb, 1, none⟩ = some (.int .i64 x.lim) ∧ (put4 u g j x).cell? ⟨pb, 2, none⟩ = some (.int .i64 x.nx) ∧ (put4 u g j x).cell? ⟨pb, 3, none⟩ = some (.slice x.a x.its.length x.cap)) := fun u hu => by
      obtain ⟨z0, z1, z2, z3, z4, z5, z6, t0, t1, t2, t3⟩ := unhide HSK u hu
      exact ⟨(put4_cell hwg).trans z0, (put4_cell hwg).trans z1, (put4_cell hwg).trans z2, (put4_cell hwg).trans z3, (put4_cell hwg).trans z4, (put4_cell hwg).trans z5, (put4_cell hwg).trans z6, (put4_cell hpg).trans t0, (put4_cell hpg).trans t1, (put4_cell hpg).trans t2, (put4_cell hpg).trans t3⟩
    go_wp2_with fail
    go_region_held3 (fun u => u.cell? ⟨w.heap.size, 0, none⟩ = some (.int .i64 now) ∧ u.cell? ⟨w.heap.size, 1, none⟩ = some (.int .i64 nx) ∧ u.cell? ⟨w.heap.size, 2, none⟩ = some (.int .i64 lim) ∧ u.cell? ⟨w.heap.size, 3, none⟩ = some (.int .i64 lost) ∧ u.cell? ⟨w.heap.size, 4, none⟩ = some (.slice a1 ns.length c1) ∧ u.cell? ⟨w.heap.size, 5, none⟩ = some (.slice an nd.length kn) ∧ u.cell? ⟨w.heap.size, 6, none⟩ = some (.slice (some ⟨g, 0, none⟩) Wn.length k3) ∧ u.cell? ⟨pb, 0, none⟩ = some (.string x.name) ∧ u.cell? ⟨pb, 1, none⟩ = some (.int .i64 x.lim) ∧ u.cell? ⟨pb, 2, none⟩ = some (.int .i64 x.nx) ∧ u.cell? ⟨pb, 3, none⟩ = some (.slice x.a x.its.length x.cap)) (first | exact unhide HSK _ (unhide HB5) | exact unhide HSP _ (unhide HB5) | exact unhide HSK _ (Below.refl _ _) | go_keep | with_reducible assumption) (first | (go_at_call 31; refine (unhide HCV).mono ?_; rintro e w5 ⟨rfl, hb5⟩; have HB5 : Hid (Below V.heap.size V w5) := hide ((Below.refl V.heap.size V).drew.trans hb5); clear hb5; have hgz : g < w5.heap.size := Nat.lt_of_lt_of_le hgV (unhide HB5).size; have hpz : pb < w5.heap.size := Nat.lt_of_lt_of_le hzV (unhide HB5).size; obtain ⟨z0, z1, z2, z3, z4, z5, z6, t0, t1, t2, t3⟩ := unhide HSK _ (unhide HB5); have K5 := hide ((unhide KV).below (unhide HB5) (Nat.le_refl _)); obtain ⟨p0, p1, p2, p3⟩ := (unhide K5).p.pl j hjN; rw [Nat.zero_add] at p0 p1 p2 p3; have gf := fun o => (unhide K5).p.row.frozenAt o))
    have hxz : w.heap.size + 1 < V.heap.size := by omega
    have hg1 : g ≠ w.heap.size := by omega
    have hg2 : g ≠ w.heap.size + 1 := by omega
    have hVB : B ≤ V.heap.size := by omega
    have I6 := hide (own_below (unhide IV) (unhide HB5) (Nat.le_refl _))
    have K6 := hide ((unhide K5).put rfl j hjN x (unhide I6) (unhide HXF))
    have P6 := hide (PO.put4o ((unhide PV).below (unhide HB5) (Nat.le_refl _)) (k := j) (y := x) (g := g) (by simp only [Value.ownBlock, ne_eq, Option.some.injEq]; exact hg0g) (unhide HRF))
    have X6 := hide (((((((unhide XV).below (unhide HB5) (by omega)).other (p := ⟨g, j * 4, none⟩) hg1 (.string x.name)).other (p := ⟨g, j * 4 + 1, none⟩) hg1 (.int .i64 x.lim)).other (p := ⟨g, j * 4 + 2, none⟩) hg1 (.int .i64 x.nx)).other (p := ⟨g, j * 4 + 3, none⟩) hg1 (.slice x.a x.its.length x.cap)))
    have Y6 := hide (((((((unhide YV).below (unhide HB5) (by omega)).other (p := ⟨g, j * 4, none⟩) hg2 (.string x.name)).other (p := ⟨g, j * 4 + 1, none⟩) hg2 (.int .i64 x.lim)).other (p := ⟨g, j * 4 + 2, none⟩) hg2 (.int .i64 x.nx)).other (p := ⟨g, j * 4 + 3, none⟩) hg2 (.slice x.a x.its.length x.cap)))
    have G6 := hide (((((((unhide GV).trans ((unhide HB5).mono hVB)).setCell (p := ⟨g, j * 4, none⟩) hBg (.string x.name)).setCell (p := ⟨g, j * 4 + 1, none⟩) hBg (.int .i64 x.lim)).setCell (p := ⟨g, j * 4 + 2, none⟩) hBg (.int .i64 x.nx)).setCell (p := ⟨g, j * 4 + 3, none⟩) hBg (.slice x.a x.its.length x.cap)))
    have hz6 : w4.heap.size ≤ ((((w5.setCell ⟨g, j * 4, none⟩ (.string x.name)).setCell ⟨g, j * 4 + 1, none⟩ (.int .i64 x.lim)).setCell ⟨g, j * 4 + 2, none⟩ (.int .i64 x.nx)).setCell ⟨g, j * 4 + 3, none⟩ (.slice x.a x.its.length x.cap)).heap.size := by have := (unhide HB5).size; simp; omega
    have HL6 : Hid ((N.set j x).length = Wn.length) := by show _ = _; rw [List.length_set]; exact unhide hNl
    unfold put4 at K6 P6
    dsimp only [withP] at K6
    clear K5 I6 IV KV PV XV YV GV HCV HSK HSP HAT z0 z1 z2 z3 z4 z5 z6 t0 t1 t2 t3 p0 p1 p2 p3 gf q0 q1 q2 q3 x0 x1 x2 x3 x4 x5 x6 xf
    generalize (((w5.setCell ⟨g, j * 4, none⟩ (.string x.name)).setCell ⟨g, j * 4 + 1, none⟩ (.int .i64 x.lim)).setCell ⟨g, j * 4 + 2, none⟩ (.int .i64 x.nx)).setCell ⟨g, j * 4 + 3, none⟩ (.slice x.a x.its.length x.cap) = w6 at K6 P6 X6 Y6 G6 hz6 ⊢
    go_wp2
    go_roundw
    case rel => exact ⟨k + 1, _, by omega, by go_num, HL6, HST, K6, P6, X6, Y6, G6, hz6⟩
    case measure => simp [intOf]; omega
end Beg
end Go.Proofs.YtkodgbalhnbhcaaGreatDoor
