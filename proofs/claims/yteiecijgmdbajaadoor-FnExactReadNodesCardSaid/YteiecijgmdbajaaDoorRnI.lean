/-
  The program's ReadNodes: the good nodes that have this text.
-/
import Derived.Test.YteiecijgmdbajaaDoorRnK
import Derived.Test.YteiecijgmdbajaaDoorNodesI
import Derived.Test.YteiecijgmdbajaaDoorNodeW
import Derived.Maps.AppendAt
import Derived.Laws.AppendOwn
import Derived.Deep.Cut
namespace Go.Proofs.YteiecijgmdbajaaDoor
namespace Rn
open Go.RowKit Base GoodKey NumText Sp Count Marks OwnR
set_option linter.unusedVariables false

theorem info_nd : ∃ i, Tryd.prog.info? 38 = some i ∧ i.zero = some (.agg #[.string ByteArray.empty, .int .i64 0]) ∧ i.size = 2 ∧ i.bytes = 24 := by
  have h : (Tryd.prog.info? 38).map (fun i => (i.zero, i.size, i.bytes)) = some (some (.agg #[.string ByteArray.empty, .int .i64 0]), 2, 24) := by kernel_rfl
  obtain ⟨i, hi, hz⟩ := Option.map_eq_some_iff.1 h
  simp only [Prod.mk.injEq] at hz
  exact ⟨i, hi, hz.1, hz.2.1, hz.2.2⟩
/-- How ReadNodes ends. -/
def RnEnd (s : ByteArray) (w : World) (e : Ending) (w' : World) : Prop :=
  ∃ B a c l ok, e = .returned (.tuple #[.slice a (l : List Nodes.D).length c, .bool ok]) ∧ w.heap.size ≤ B ∧ w'.ownsRow B 38 2 (.slice a l.length c) l.length (NodesW.flat l) ∧ Below w.heap.size w w' ∧
    ((ok = true ∧ Rd (spc 32 (bl s)) l) ∨ (ok = false ∧ l = [] ∧ ∀ m, ¬ Rd (spc 32 (bl s)) m))
theorem rn_no {s : ByteArray} {w w' : World} (hn : ∀ m, ¬ Rd (spc 32 (bl s)) m) (hb : Below w.heap.size w w') : RnEnd s w (.returned (.tuple #[.slice none 0 0, .bool false])) w' :=
  ⟨w.heap.size, none, 0, [], false, rfl, Nat.le_refl _, World.ownsRow_nil _ _ _ _, hb, .inr ⟨rfl, rfl, hn⟩⟩
def Small (l : List Nodes.D) : Prop := ∀ x ∈ l, x.name.size ≤ 1048576
theorem Small.snoc {l : List Nodes.D} {x : Nodes.D} (h : Small l) (hx : x.name.size ≤ 1048576) : Small (l ++ [x]) := by
  intro y hy
  rcases List.mem_append.1 hy with hy | hy
  · exact h y hy
  · rw [List.mem_singleton.1 hy]; exact hx
theorem Small.fits {l : List Nodes.D} (h : Small l) : ∀ x ∈ l, Nodes.Fits x := fun x hx => by
  have := h x hx
  unfold Nodes.Fits maxLen; omega
theorem getD_bl (ws : List ByteArray) (k : Nat) : (ws.map bl).getD k [] = bl (ws.getD k ByteArray.empty) := by
  by_cases h : k < ws.length
  · simp [List.getD_eq_getElem?_getD, List.getElem?_map, List.getElem?_eq_getElem h]
  · simp [List.getD_eq_getElem?_getD, List.getElem?_map, List.getElem?_eq_none (Nat.le_of_not_lt h), bl]
theorem words_cell (w : World) (ws : List ByteArray) (t : TypeId) (i : Nat) (hi : i < ws.length) : (w.alloc (.cells (ws.map Value.string).toArray t)).cell? ⟨w.heap.size, i, none⟩ = some (.string (ws.getD i ByteArray.empty)) := by
  rw [World.cell?_alloc_new]
  simp [List.getElem?_map, List.getElem?_eq_getElem hi]
theorem two (w : World) (t : TypeId) (v0 v1 : Value) : (w.alloc (.cells #[v0, v1] t)).cell? ⟨w.heap.size, 0, none⟩ = some v0 ∧ (w.alloc (.cells #[v0, v1] t)).cell? ⟨w.heap.size, 1, none⟩ = some v1 := by
  constructor <;> (rw [World.cell?_alloc_new]; rfl)

set_option maxRecDepth 10000 in
set_option maxHeartbeats 4000000 in
theorem impl_any (s : ByteArray) (w : World) (hs : s.size ≤ 1048576) (hv : V2 w) :
    Calls Tryd.prog 6 #[.string s] w (RnEnd s w) := by
  obtain ⟨i0, hi, hz0, hz1, hz2⟩ := info_nd
  have HI := hide hi
  have HZ0 := hide hz0
  have HZ1 := hide hz1
  have HZ2 := hide hz2
  have HV := hide hv
  have HSP := hide (split_any s w hs hv)
  have hW := words_sp s
  have hmany : (spc 32 (bl s)).length ≤ s.size + 1 := by have := spc_many 32 (bl s); rw [bl_len] at this; exact this
  have HSH : Hid (∀ a ∈ wordsB s, a.size ≤ 1048576) := fun a ha => by
    have h1 := spc_short 32 (bl s) (bl a) (by rw [← hW]; exact List.mem_map_of_mem ha)
    rw [bl_len, bl_len] at h1; omega
  have HNO := hide (fun w' (hn : ∀ m, ¬ Rd (spc 32 (bl s)) m) (hb : Below w.heap.size w w') => rn_no hn hb)
  have hpos : (spc 32 (bl s)) ≠ [] := spc_ne _ _
  generalize hws : wordsB s = ws at HSP HSH hW
  rw [← hW] at hmany HNO hpos
  have HWW := hide hW
  rw [List.length_map] at hmany
  have hn1 : 0 < ws.length := by
    apply Nat.pos_of_ne_zero; intro e; exact hpos (by rw [List.length_eq_zero_iff.1 e]; rfl)
  clear hi hz0 hz1 hz2 hv hws hpos hW
  go_enter Tryd.func6, Tryd.ntmps6
  go_wp2_with fail
  refine (unhide HSP).mono ?_
  rintro e w1 ⟨rfl, hw1⟩
  have HC : Hid (∀ i, i < ws.length → w1.cell? ⟨w.heap.size, i, none⟩ = some (.string (ws.getD i ByteArray.empty))) := fun i hi => by rw [hw1]; exact words_cell w ws _ i hi
  have B1 : Hid (Below w.heap.size w w1) := by show Below _ _ _; rw [hw1]; exact bel1 w _
  have hlt1 : w.heap.size < w1.heap.size := by rw [hw1]; simp
  clear hw1 HSP
  generalize hn : ws.length = n at hmany hn1 HC
  have HN := hide hn
  clear hn
  go_wp2
  go_loopw [4, 12] (fun v iv wr => ∃ (k : Nat) (l : List Nodes.D) (va : Option Addr) (vc : Nat), k ≤ n ∧ iv = .int .i64 (k : Int) ∧ v = .slice va k vc ∧ Hid (l.length = k) ∧ Hid (Got nodeW (ws.map bl) k l) ∧ Hid (wr.ownsRow w1.heap.size 38 2 (.slice va k vc) k (NodesW.flat l)) ∧ Hid (Small l) ∧ Hid (Below w1.heap.size w1 wr)) (fun _ iv _ => n - (intOf iv).toNat)
  case atStart => exact ⟨0, [], none, 0, Nat.zero_le _, rfl, rfl, hide rfl, hide (got_start _ _), hide (World.ownsRow_nil _ _ _ _), hide (by intro x hx; simp at hx), hide (Below.refl _ _)⟩
  case round =>
    obtain ⟨k, l, va, vc, hk, rfl, rfl, hll, hgot, hown, hsm, hbel⟩ := hrel
    have hzr := (unhide hbel).size
    have BW := hide ((unhide B1).trans ((unhide hbel).mono (by omega)))
    by_cases hlt : k < n
    · have c0 := ((unhide hbel).cell (p := ⟨w.heap.size, k, none⟩) hlt1).trans (unhide HC k hlt)
      have hkl : k < (ws.map bl).length := by rw [List.length_map, unhide HN]; exact hlt
      have hxs : (ws.getD k ByteArray.empty).size ≤ 1048576 := unhide HSH _ (by
        have : k < ws.length := by rw [unhide HN]; exact hlt
        rw [List.getD_eq_getElem?_getD, List.getElem?_eq_getElem this]; simp)
      have hgd := getD_bl ws k
      have HST := hide (fun x h => (unhide hgot).step (x := x) hkl h)
      have HBD := hide (fun h => none_at hkl h)
      rw [hgd] at HST HBD
      generalize ws.getD k ByteArray.empty = x at c0 hxs HST HBD
      have hRN := readNode_any x wr hxs ((unhide HV).below (unhide BW))
      have hnw := nodeW_rnode (bl x)
      have hnm := rnode_name (bl x)
      rw [bl_len] at hnm
      rw [hnw] at HST HBD
      generalize rnode (bl x) = p at hRN HST HBD hnm
      obtain ⟨⟨nm, wt⟩, ok⟩ := p
      unfold rnV at hRN
      dsimp only at hRN HST HBD hnm
      have HRN := hide hRN
      clear hRN hnw hgd hkl
      cases ok
      · have H := hide (unhide HBD (by simp))
        clear HST HBD
        go_wp2_with fail
        refine (unhide HRN).mono ?_
        rintro e w2 ⟨rfl, hb2⟩
        have B2 := hide ((unhide BW).trans (hb2.mono (unhide BW).size))
        clear hb2
        go_wp2
        go_ret2
        exact unhide HNO _ (unhide H) ((unhide B2).alloc (unhide B2).size _)
      · have H := hide (unhide HST ⟨nm, wt⟩ (by simp))
        clear HST HBD
        have HSM := hide ((unhide hsm).snoc (x := ⟨nm, wt⟩) (by show nm.size ≤ _; omega))
        go_wp2_with fail
        refine (unhide HRN).mono ?_
        rintro e w2 ⟨rfl, hb2⟩
        have B2 := hide ((unhide hbel).trans (hb2.mono hzr))
        have O2 := hide (own_below (unhide hown) hb2 (Nat.le_refl _))
        have hz2 := (unhide B2).size
        clear hb2 HRN
        obtain ⟨k0, k1⟩ := two w2 38 (.string nm) (.int .i64 wt)
        have O3 := hide (own_below (unhide O2) (bel1 w2 (.cells #[.string nm, .int .i64 wt] 38)) (Nat.le_refl _))
        have B3 := hide ((unhide B2).alloc hz2 (.cells #[.string nm, .int .i64 wt] 38))
        go_upto_region 8 with fail
        generalize w2.alloc (.cells #[.string nm, .int .i64 wt] 38) = w3 at k0 k1 O3 B3 ⊢
        have hz3 := (unhide B3).size
        clear O2 B2 hown
        go_wp2_with (at_builtin; go_loud (refine wpList_append_own _ rfl _ _ 22 rfl w1.heap.size 38 i0 _ 2 24 Tryd.underlying22 (unhide HI) (unhide HZ0) (unhide HZ1) (unhide HZ2) rfl (by decide) _ _ _ rfl ((unhide O3).alloc _) ⟨w3.heap.size, 0, none⟩ 1 1 (NodesW.cellsOf ⟨nm, wt⟩) rfl rfl ?c1 ?c2 ?c3 ?c4 ?c5 ?_))
        case c1 => exact NodesW.news_cells w3 ⟨nm, wt⟩ _
        case c2 => exact NodesW.news_one ⟨nm, wt⟩
        case c3 => unfold maxLen; omega
        case c4 => omega
        case c5 => simp; omega
        intro v' w4 hown' hgrow _
        obtain ⟨va', vc', rfl⟩ := own_form hown'
        have O4 : Hid (w4.ownsRow w1.heap.size 38 2 (.slice va' (k + 1) vc') (k + 1) (NodesW.flat (l ++ [⟨nm, wt⟩]))) := by
          show w4.ownsRow _ _ _ _ _ _
          rw [NodesW.flat_append, NodesW.flat_one]; exact hown'
        have B4 := hide (((unhide B3).alloc hz3 (.cells #[.string nm, .int .i64 wt] 38)).grown hgrow (by simp; omega) (own_block (unhide O3)))
        have HLL : Hid ((l ++ [(⟨nm, wt⟩ : Nodes.D)]).length = k + 1) := by show List.length _ = _; rw [List.length_append, unhide hll]; rfl
        clear hown' hgrow
        go_wp2
        go_roundw
        case rel => exact ⟨k + 1, l ++ [⟨nm, wt⟩], va', vc', by omega, by go_num, rfl, HLL, H, O4, HSM, B4⟩
        case measure => simp [intOf]; omega
    · obtain rfl : k = n := by omega
      obtain ⟨r, hours, -⟩ := NodesW.own_ours (l := l) (a := va) (cap := vc) (by rw [unhide hll]; exact unhide hown)
      have hlat := NodesW.ours_at hours
      obtain ⟨b, off, rfl, hb, hc⟩ := hlat (fun e => by have := unhide hll; rw [e] at this; simp at this; omega)
      have HG := NodesM.inodes_some b off vc l wr hb hc (by rw [unhide hll]; unfold maxLen; omega) (unhide hsm).fits
      rw [unhide hll] at HG
      have HGOT : Hid (Got nodeW (ws.map bl) (ws.map bl).length l) := by show Got _ _ _ _; rw [List.length_map, unhide HN]; exact unhide hgot
      clear hours hlat hc hb
      cases hg : NodesM.gnB l
      · rw [hg] at HG
        have HG1 := hide HG
        have H := hide (end_no (unhide HGOT) hg)
        clear HG hg
        go_wp2_with fail
        refine (unhide HG1).mono ?_
        rintro e w2 ⟨rfl, hb2⟩
        have B2 := hide ((unhide BW).trans (hb2.mono (unhide BW).size))
        clear hb2
        go_wp2
        go_ret2
        exact unhide HNO _ (unhide H) (unhide B2)
      · rw [hg] at HG
        have HG1 := hide HG
        have H := hide (end_yes (unhide HGOT) hg)
        clear HG hg
        go_wp2_with fail
        refine (unhide HG1).mono ?_
        rintro e w2 ⟨rfl, hb2⟩
        have B2 := hide ((unhide BW).trans (hb2.mono (unhide BW).size))
        have O2 : Hid (w2.ownsRow w1.heap.size 38 2 (.slice (some ⟨b, off, none⟩) l.length vc) l.length (NodesW.flat l)) := by
          show w2.ownsRow _ _ _ _ _ _
          rw [unhide hll]; exact own_below (unhide hown) hb2 (Nat.le_refl _)
        clear hb2
        go_wp2
        go_ret2
        refine ⟨w1.heap.size, some ⟨b, off, none⟩, vc, l, true, ?_, by omega, unhide O2, unhide B2, .inl ⟨rfl, by rw [← unhide HWW]; exact unhide H⟩⟩
        rw [unhide hll]; rfl
end Rn
end Go.Proofs.YteiecijgmdbajaaDoor
