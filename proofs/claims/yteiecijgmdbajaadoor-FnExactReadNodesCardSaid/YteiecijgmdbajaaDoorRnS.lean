/-
  The model's ReadNodes: the good nodes that have this text.
-/
import Derived.Test.YteiecijgmdbajaaDoorRnI
import Derived.Test.YteiecijgmdbajaaDoorRnO
import Derived.Deep.RegionHeld3
import Derived.Deep.AppendLies
import Derived.WalkLawsBesides
import Derived.Outline
namespace Go.Proofs.YteiecijgmdbajaaDoor
namespace Rn
open Go.RowKit Base GoodKey NumText Sp Count Marks OwnR
set_option linter.unusedVariables false

theorem M_two {w : List UInt8} {a b : List UInt8} (h : spc 58 w = [a, b]) : nodeM w = some (mk a (mrd b)) := by unfold nodeM; rw [h]
theorem M_other {w : List UInt8} (h : (spc 58 w).length ≠ 2) : nodeM w = none := by
  unfold nodeM
  split
  · rename_i a b e; rw [e] at h; simp at h
  · rfl
theorem two_of {ws : List ByteArray} (h : ws.length = 2) : ∃ a b, ws = [a, b] := by
  match ws, h with
  | [a, b], _ => exact ⟨a, b, rfl⟩
theorem far3 {W W' w3 : World} {r : Option Nat} {bx k : Nat} {u : Value} (hb : Below W.heap.size W W') (hg : W'.grownBy w3 r) (hr : r ≠ some bx) (hlt : bx < W.heap.size) (h : W.cell? ⟨bx, k, none⟩ = some u) : w3.cell? ⟨bx, k, none⟩ = some u :=
  (World.cell?_of_block (a := ⟨bx, k, none⟩) (hg.block bx (Nat.lt_of_lt_of_le hlt hb.size) (fun e => hr e.symm))).trans ((hb.cell (p := ⟨bx, k, none⟩) hlt).trans h)

set_option maxRecDepth 10000 in
set_option maxHeartbeats 4000000 in
theorem spec_any (s : ByteArray) (w : World) (hs : s.size ≤ 1048576) :
    Calls Tryd.prog 5 #[.string s] w (RnEnd s w) := by
  obtain ⟨i0, hi, hz0, hz1, hz2⟩ := info_nd
  have HI := hide hi
  have HZ0 := hide hz0
  have HZ1 := hide hz1
  have HZ2 := hide hz2
  have HSP := hide (l1Split_any 32 32 rfl s w hs)
  have hmany : (spc 32 (bl s)).length ≤ s.size + 1 := by have := spc_many 32 (bl s); rw [bl_len] at this; exact this
  have HSH : Hid (∀ a ∈ spc 32 (bl s), a.length ≤ 1048576) := fun a ha => by
    have h1 := spc_short 32 (bl s) a ha
    rw [bl_len] at h1; omega
  have HNO := hide (fun w' (hn : ∀ m, ¬ Rd (spc 32 (bl s)) m) (hb : Below w.heap.size w w') => rn_no hn hb)
  have hpos : (spc 32 (bl s)) ≠ [] := spc_ne _ _
  clear hi hz0 hz1 hz2
  go_enter Tryd.func5, Tryd.ntmps5
  go_wp2_with fail
  refine (unhide HSP).mono ?_
  rintro e w1 ⟨rb, rc, ws, rfl, hW, hrow, hrb, hb1⟩
  have HWW := hide hW
  rw [← hW] at hmany HNO hpos HSH
  rw [List.length_map] at hmany
  have hn1 : 0 < ws.length := by
    apply Nat.pos_of_ne_zero; intro e; exact hpos (by rw [List.length_eq_zero_iff.1 e]; rfl)
  have HC : Hid (∀ i, i < ws.length → w1.cell? ⟨rb, i, none⟩ = some (.string (ws.getD i ByteArray.empty))) := fun i hi => hrow.cell hi
  have B1 := hide hb1
  have hlt1 : rb < w1.heap.size := hrow.lt
  have hz1 := hb1.size
  clear HSP hW hpos hrow hb1
  generalize hn : ws.length = n at hmany hn1 HC ⊢
  have HN := hide hn
  clear hn
  go_wp2
  go_loopw [4, 11] (fun v iv wr => ∃ (k : Nat) (l : List Nodes.D) (va : Option Addr) (vc : Nat), k ≤ n ∧ iv = .int .i64 (k : Int) ∧ v = .slice va k vc ∧ Hid (l.length = k) ∧ Hid (Got nodeM (ws.map bl) k l) ∧ Hid (wr.ownsRow w1.heap.size 38 2 (.slice va k vc) k (NodesW.flat l)) ∧ Hid (Small l) ∧ Hid (Below w1.heap.size w1 wr)) (fun _ iv _ => n - (intOf iv).toNat)
  case atStart => exact ⟨0, [], none, 0, Nat.zero_le _, rfl, rfl, hide rfl, hide (got_start _ _), hide (World.ownsRow_nil _ _ _ _), hide (by intro x hx; simp at hx), hide (Below.refl _ _)⟩
  case round =>
    obtain ⟨k, l, va, vc, hk, rfl, rfl, hll, hgot, hown, hsm, hbel⟩ := hrel
    have hzr := (unhide hbel).size
    have BW := hide ((unhide B1).trans ((unhide hbel).mono hz1))
    by_cases hlt : k < n
    · have c0 := ((unhide hbel).cell (p := ⟨rb, k, none⟩) hlt1).trans (unhide HC k hlt)
      have hkl : k < (ws.map bl).length := by rw [List.length_map, unhide HN]; exact hlt
      have hgd := getD_bl ws k
      have hxs : (ws.getD k ByteArray.empty).size ≤ 1048576 := by
        have := unhide HSH ((ws.map bl).getD k []) (by rw [List.getD_eq_getElem?_getD, List.getElem?_eq_getElem hkl]; exact List.getElem_mem _)
        rw [hgd, bl_len] at this; exact this
      have HST := hide (fun x h => (unhide hgot).step (x := x) hkl h)
      have HBD := hide (fun h => none_at hkl h)
      rw [hgd] at HST HBD
      generalize ws.getD k ByteArray.empty = x at c0 hxs HST HBD
      have HS2 := hide (fun w' => l1Split_any 58 58 rfl x w' hxs)
      have HSH2 := hide (spc_short 58 (bl x))
      clear hgd hkl
      go_wp2_with fail
      refine (unhide HS2 _).mono ?_
      rintro e w2 ⟨pb, pc, ps, rfl, hP, hprow, hpb, hb2⟩
      have B2 := hide ((unhide hbel).trans (hb2.mono hzr))
      have BW2 := hide ((unhide BW).trans (hb2.mono (unhide BW).size))
      have O2 := hide (own_below (unhide hown) hb2 (Nat.le_refl _))
      have hz2 := (unhide B2).size
      have hplt : pb < w2.heap.size := hprow.lt
      have HNE : Hid ((Value.slice va k vc).ownBlock ≠ some pb) := fun e => by have := ((unhide hown).lt _ e).2; omega
      by_cases h2 : ps.length = 2
      · obtain ⟨pa, pn, rfl⟩ := two_of h2
        have p0 : w2.cell? ⟨pb, 0, none⟩ = some (.string pa) := hprow.cell (i := 0) (by simp)
        have p1 : w2.cell? ⟨pb, 1, none⟩ = some (.string pn) := hprow.cell (i := 1) (by simp)
        have hM := M_two hP.symm
        have hpa : pa.size ≤ 1048576 := by
          have := unhide HSH2 (bl pa) (by rw [← hP]; simp)
          rw [bl_len, bl_len] at this; omega
        have hpn : pn.size ≤ 1048576 := by
          have := unhide HSH2 (bl pn) (by rw [← hP]; simp)
          rw [bl_len, bl_len] at this; omega
        have H := hide (unhide HST _ hM)
        have emk : mk (bl pa) (mrd (bl pn)) = ⟨pa, mrd (bl pn)⟩ := rfl
        rw [emk] at H
        have HRD := hide (fun w' => l1Read_any pn w' hpn)
        generalize mrd (bl pn) = wt at H HRD
        have HSM := hide ((unhide hsm).snoc (x := ⟨pa, wt⟩) hpa)
        clear hM hprow hP HST HBD hb2 h2 emk hown hpn c0
        go_wp2_with fail
        have HOWN : Hid (∀ o, (w2.alloc o).drew.ownsRow w1.heap.size 38 2 (.slice va k vc) k (NodesW.flat l)) := fun o => own_below (unhide O2) (bel1 w2 o).drew (Nat.le_refl _)
        have HSZ : Hid (∀ o, (w2.alloc o).drew.heap.size = w2.heap.size + 1) := fun o => World.size_alloc _ _
        have HBA : Hid (∀ o, Below w2.heap.size w2 (w2.alloc o).drew) := fun o => (bel1 w2 o).drew
        go_region_held3 (fun w' => w'.cell? ⟨pb, 0, none⟩ = some (.string pa) ∧ w'.cell? ⟨pb, 1, none⟩ = some (.string pn)) (first | go_keep | (refine ⟨?_, ?_⟩ <;> first | assumption | (simp [*]; done) | (simp; omega))) (first | (go_at_call 15; refine (unhide HRD _).mono ?_; rintro e w3 ⟨rfl, rfl⟩) | (refine step_append_lies _ (by rfl) _ _ _ (by rfl) w1.heap.size 38 i0 _ 2 24 Tryd.underlying22 (unhide HI) (unhide HZ0) (unhide HZ1) (unhide HZ2) rfl (by decide) _ _ _ (by rfl) (unhide HOWN _) ⟨w2.heap.size, 0, none⟩ 1 1 (NodesW.cellsOf ⟨pa, wt⟩) (by rfl) rfl (NodesW.news_cells w2 ⟨pa, wt⟩ _) (NodesW.news_one ⟨pa, wt⟩) (by omega) (by unfold maxLen; omega) (by omega) (by rw [unhide HSZ]; omega) (w2.heap.size + 1) (unhide HSZ _) ?_; intro g cap w4 hown4 hgrow hat hlt4; have q3 := far3 (unhide HBA _) hgrow (unhide HNE) hplt p0; have q4 := far3 (unhide HBA _) hgrow (unhide HNE) hplt p1))
        have O4 : Hid (w4.ownsRow w1.heap.size 38 2 (.slice (some ⟨g, 0, none⟩) (k + 1) cap) (k + 1) (NodesW.flat (l ++ [⟨pa, wt⟩]))) := by
          show w4.ownsRow _ _ _ _ _ _
          rw [NodesW.flat_append, NodesW.flat_one]; exact hown4
        have B4 := hide (((unhide B2).trans ((unhide HBA _).mono hz2)).grown hgrow (by rw [unhide HSZ]; omega) (own_block (unhide O2)))
        have HLL : Hid ((l ++ [(⟨pa, wt⟩ : Nodes.D)]).length = k + 1) := by show List.length _ = _; rw [List.length_append, unhide hll]; rfl
        clear hown4 hgrow hat q3 q4
        go_wp2
        go_roundw
        case rel => exact ⟨k + 1, l ++ [⟨pa, wt⟩], _, cap, by omega, by go_num, rfl, HLL, H, O4, HSM, B4⟩
        case measure => simp [intOf]; omega
      · have hM := M_other (w := bl x) (by rw [← hP, List.length_map]; exact h2)
        have H := hide (unhide HBD (M_none hM))
        have h2' : ¬ (ps.length : Int) = 2 := by omega
        have h2b : ((ps.length : Int) == 2) = false := by simp; omega
        have h2c : ((ps.length : Int) != 2) = true := by simp; omega
        clear hM hprow hP HST HBD hb2 h2 hown c0
        go_wp2
        go_ret2
        exact unhide HNO _ (unhide H) (unhide BW2)
    · obtain rfl : k = n := by omega
      obtain ⟨r, hours, -⟩ := NodesW.own_ours (l := l) (a := va) (cap := vc) (by rw [unhide hll]; exact unhide hown)
      have hlat := NodesW.ours_at hours
      obtain ⟨b, off, rfl, hb, hc⟩ := hlat (fun e => by have := unhide hll; rw [e] at this; simp at this; omega)
      have HG := NodesM.nodes_some b off vc l wr hb hc (by rw [unhide hll]; unfold maxLen; omega) (unhide hsm).fits
      rw [unhide hll] at HG
      have HGOT : Hid (Got nodeM (ws.map bl) (ws.map bl).length l) := by show Got _ _ _ _; rw [List.length_map, unhide HN]; exact unhide hgot
      clear hours hlat hc hb
      cases hg : NodesM.gnB l
      · rw [hg] at HG
        have HG1 := hide HG
        have H := hide (mend_no (unhide HGOT) hg)
        clear HG hg
        go_wp2_with fail
        refine (unhide HG1).mono ?_
        rintro e w2 ⟨rfl, hb2⟩
        have B2 := hide ((unhide BW).trans (hb2.mono (unhide BW).size))
        clear hb2
        go_wp2
        go_ret2
        exact unhide HNO _ (unhide H) (unhide B2)
      · rw [hg] at HG
        have HG1 := hide HG
        have H := hide (mend_yes (unhide HGOT) hg)
        clear HG hg
        go_wp2_with fail
        refine (unhide HG1).mono ?_
        rintro e w2 ⟨rfl, hb2⟩
        have B2 := hide ((unhide BW).trans (hb2.mono (unhide BW).size))
        have O2 : Hid (w2.ownsRow w1.heap.size 38 2 (.slice (some ⟨b, off, none⟩) l.length vc) l.length (NodesW.flat l)) := by
          show w2.ownsRow _ _ _ _ _ _
          rw [unhide hll]; exact own_below (unhide hown) hb2 (Nat.le_refl _)
        clear hb2
        go_wp2
        go_ret2
        refine ⟨w1.heap.size, some ⟨b, off, none⟩, vc, l, true, ?_, by omega, unhide O2, unhide B2, .inl ⟨rfl, by rw [← unhide HWW]; exact unhide H⟩⟩
        rw [unhide hll]; rfl
end Rn
end Go.Proofs.YteiecijgmdbajaaDoor
