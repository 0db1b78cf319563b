/-
  The program's (*fleet).openPlaces, also where there is no place yet.
-/
import Derived.Test.YthgcfklfpllgnaaDoorFindZ
import Derived.Deep.RegionWith
import Derived.Deep.DeepCutAuto
namespace Go.Proofs.YthgcfklfpllgnaaDoor
namespace Fleet
open Go.RowKit Base Store Items OwnR Keep Clus Plc Beg
set_option linter.unusedVariables false

set_option maxRecDepth 10000 in
set_option maxHeartbeats 4000000 in
theorem open_all : OpenSaid0 := by
  intro M X f bn nd base ps0 w hf hM hl hN hbM hbX ld hop hfr
  have HN := hide hN
  have HF := hide hf
  have HOP : Hid (OpnIs (base ++ (nd.take 0).map (·.name)) ps0 f.lim f.ps) := by
    rw [List.take_zero, List.map_nil, List.append_nil]; exact hop
  have HFR := hide hfr
  clear hN hf hop hfr
  go_enter Tryd.func31, Tryd.ntmps31
  go_wp2
  go_loopw [10] (fun i wr => ∃ (k : Nat) (a : Option Addr) (cap : Nat) (ps : List Pc), k ≤ nd.length ∧ i = .int .i64 k ∧ f.ps.length ≤ ps.length ∧ ps.length ≤ f.ps.length + k ∧ Hid (FleetAt wr M X { f with a := a, cap := cap, ps := ps }) ∧ Hid (OpnIs (base ++ (nd.take k).map (·.name)) ps0 f.lim ps) ∧ Hid (Kp M X w wr)) (fun i _ => nd.length - (intOf i).toNat)
  case atStart => exact ⟨0, f.a, f.cap, f.ps, Nat.zero_le _, rfl, Nat.le_refl _, Nat.le_refl _, HF, HOP, hide (Kp.refl _ _ _)⟩
  case round =>
    clear HF HOP
    obtain ⟨k, a, cap, ps, hk, rfl, hp1, hp2, hF, hO, hK⟩ := hrel
    by_cases hlt : k < nd.length
    case neg =>
      obtain rfl : k = nd.length := by omega
      rw [List.take_length] at hO
      go_wp2
      go_end0
      exact ⟨rfl, a, cap, ps, unhide hF, unhide hO, unhide hK⟩
    have hrow := (unhide HN).of_block ((unhide hK).block bn hbM hbX)
    obtain ⟨c0, c1⟩ := Nodes.at_row hrow k hlt
    clear hrow
    rw [Nat.zero_add] at c0 c1
    have HTK : Hid ((nd.take (k + 1)).map (·.name) = (nd.take k).map (·.name) ++ [(nd.getD k Nodes.zero).name]) := by
      show List.map _ _ = _
      rw [List.take_succ_eq_append_getElem hlt, List.map_append]
      simp [List.getD_eq_getElem?_getD, List.getElem?_eq_getElem hlt]
    generalize nd.getD k Nodes.zero = x at c0 c1 HTK
    obtain ⟨F, hFe⟩ : ∃ F : Fl, F = { f with a := a, cap := cap, ps := ps } := ⟨_, rfl⟩
    have hFl : F.lim = f.lim := by rw [hFe]
    have hFp : F.ps = ps := by rw [hFe]
    rw [← hFe] at hF
    have hO1 : OpnIs (base ++ (nd.take k).map (·.name)) ps0 f.lim F.ps := by rw [hFp]; exact unhide hO
    have HNM : Hid (Rising ((nms F).map toL)) := by
      show Rising _
      rw [hO1.nms]; exact insAll_rising _
    have HO := hide hO1
    have hpl2 : F.ps.length ≤ 1000 := by rw [hFp]; omega
    have hMr : M ≤ wr.heap.size := Nat.le_trans hM (unhide hK).size
    have BA := hide (bel1 wr (.cells #[.string x.name, .int .i64 x.weight] 42))
    have q0 : (wr.alloc (.cells #[.string x.name, .int .i64 x.weight] 42)).cell? ⟨wr.heap.size, 0, none⟩ = some (.string x.name) := by rw [World.cell?_alloc_new]; rfl
    have hbx : wr.heap.size < (wr.alloc (.cells #[.string x.name, .int .i64 x.weight] 42)).heap.size := by simp
    have FA := hide ((unhide hF).below (unhide BA))
    have KA := hide ((unhide hK).trans (Kp.of_below (unhide BA) hMr))
    have HLB : Hid (∀ q, (rowV F).ownBlock = some q → q < wr.heap.size) := fun q hq => ((unhide hF).row.lt q hq).2
    have hXb : X < wr.heap.size := (unhide hF).box.lt
    clear hO1 hO hF hK BA
    go_upto_region 3 with fail
    generalize wr.alloc (.cells #[.string x.name, .int .i64 x.weight] 42) = wa at q0 hbx FA KA ⊢
    have hMa : M ≤ wa.heap.size := by omega
    generalize wr.heap.size = bx at q0 hbx hMr HLB hXb ⊢
    have hbX2 : bx ≠ X := by omega
    have HFI := hide (find_all M X F x.name wa (unhide FA) hpl2 (unhide HNM))
    go_wp2_with fail
    refine (unhide HFI).mono ?_
    rintro e w1 ⟨rfl, hb1⟩
    have F1 := hide ((unhide FA).below hb1)
    have K1 := hide ((unhide KA).trans (Kp.of_below hb1 hMa))
    have r0 := (hb1.cell (p := ⟨bx, 0, none⟩) hbx).trans q0
    have hbx1 : bx < w1.heap.size := Nat.lt_of_lt_of_le hbx hb1.size
    have hM1 : M ≤ w1.heap.size := Nat.le_trans hMa hb1.size
    clear hb1 HFI FA KA q0 hbx hMa c0 c1
    cases hfd : fnd (nms F) x.name
    case true =>
      have HO2 : Hid (OpnIs (base ++ (nd.take (k + 1)).map (·.name)) ps0 f.lim ps) := by
        show OpnIs _ _ _ _
        rw [unhide HTK, ← List.append_assoc, ← hFp]
        exact (unhide HO).same hfd
      rw [hFe] at F1
      clear hfd HO HNM HTK
      go_wp2
      go_roundw
      case rel => exact ⟨k + 1, a, cap, ps, by omega, by go_num, hp1, by omega, F1, HO2, K1⟩
      case measure => simp [intOf]; omega
    obtain ⟨kk, hkk⟩ : ∃ kk, kk = kOf x.name (nms F) := ⟨_, rfl⟩
    have hkl : kk ≤ F.ps.length := by rw [hkk, ← nms_len]; exact kOf_le _ _
    have HNO : Hid (Beg.look ps0 f.lim x.name = ⟨x.name, f.lim, 1, []⟩) := unhide HFR _ (fun hm => fnd_no (unhide HNM) hfd (by
      rw [(unhide HO).nms, insAll_mem]
      exact List.mem_append_left _ ((insAll_mem _ _).1 hm)))
    have HO3 : Hid (∀ p : Pc, p.name = x.name → p.lim = f.lim → p.nx = 1 → p.lost = 0 → p.its = [] → OpnIs (base ++ (nd.take (k + 1)).map (·.name)) ps0 f.lim (insP kk p F.ps)) := fun p h1 h2 h3 h4 h5 => by
      rw [unhide HTK, ← List.append_assoc, hkk]
      exact (unhide HO).more hfd (by rw [unhide HNO]; unfold pcore; rw [h1, h2, h3, h5]) h4
    rw [← hkk]
    clear hkk HO HNM HTK HNO
    obtain ⟨x0, x1, x2, x3, x4, x5, x6, x7, x8⟩ := (unhide F1).box.cells
    have xf := (unhide F1).box.frozen 8
    have hX1 : X < w1.heap.size := (unhide F1).box.lt
    have HROW := hide (unhide F1).row
    have HXN : Hid ((rowV F).ownBlock ≠ some X) := fun e => by have := ((unhide F1).row.lt X e).1; have := (unhide F1).xm; omega
    have HLT : Hid (∀ q, (rowV F).ownBlock = some q → q < w1.heap.size) := fun q hq => ((unhide F1).row.lt q hq).2
    clear x0 x1 x3 x4 x5 x6 x7
    rw [hFl] at x2
    have HFE := hide hFe
    have HFP := hide hFp
    clear hFe hFp hFl
    have HNP : Hid (∀ u, Calls Tryd.prog 43 #[.string x.name, .int .i64 f.lim] u fun e w' => ∃ p : Pc, e = .returned (.pointer (some ⟨p.pb, 0, none⟩)) ∧ PcAt w' p ∧ (∀ y ∈ bks p, u.heap.size ≤ y) ∧ p.name = x.name ∧ p.lim = f.lim ∧ p.nx = 1 ∧ p.lost = 0 ∧ p.its = [] ∧ Below u.heap.size u w') := fun u => newPlace_any x.name f.lim u
    go_wp2_with fail
    go_region_law (first | (go_simp; go_at_call 43; (refine (unhide HNP _).mono ?_; rintro e w3 ⟨p, rfl, hpc, hlo, hpn, hpi, hpx, hpt, hps, hb3⟩; have HB3 := hide (bdrew hb3); have HLO : Hid (∀ b ∈ bks p, w1.heap.size ≤ b) := hide hlo; have HOI := hide (unhide HO3 p hpn hpi hpx hpt hps); have hX3 : X < w3.heap.size := Nat.lt_of_lt_of_le hX1 hb3.size; have hz3 : w1.heap.size ≤ w3.heap.size := hb3.size; have hbx3 : bx < w3.heap.size := Nat.lt_of_lt_of_le hbx1 hb3.size; have z8 := (hb3.cell (p := ⟨X, 8, none⟩) hX1).trans x8; have zf := (hb3.frozen (p := ⟨X, 8, none⟩) hX1).trans xf; have z2 := (hb3.cell (p := ⟨X, 2, none⟩) hX1).trans x2; have z0 := (hb3.cell (p := ⟨bx, 0, none⟩) hbx1).trans r0; have HSQ : Hid ((w3.alloc (.cells #[.pointer (some ⟨p.pb, 0, none⟩)] 67)).cell? ⟨X, 2, none⟩ = some (.int .i64 f.lim) ∧ (w3.alloc (.cells #[.pointer (some ⟨p.pb, 0, none⟩)] 67)).cell? ⟨bx, 0, none⟩ = some (.string x.name)) := ⟨((bel1 w3 (.cells #[.pointer (some ⟨p.pb, 0, none⟩)] 67)).cell (p := ⟨X, 2, none⟩) hX3).trans z2, ((bel1 w3 (.cells #[.pointer (some ⟨p.pb, 0, none⟩)] 67)).cell (p := ⟨bx, 0, none⟩) hbx3).trans z0⟩; have HPC := hide (hpc.keep (keeps_below (bel1 w3 (.cells #[.pointer (some ⟨p.pb, 0, none⟩)] 67))) (by simp)); have HB4 := hide ((unhide HB3).trans ((bel1 w3 (.cells #[.pointer (some ⟨p.pb, 0, none⟩)] 67)).mono hz3)); have HIN := hide (insert_all M F kk w3.heap.size p (w3.alloc (.cells #[.pointer (some ⟨p.pb, 0, none⟩)] 67)) (own_below (unhide HROW) (unhide HB4) (Nat.le_refl _)) (Nat.le_trans hM1 (unhide HB4).size) hpl2 hkl (heap_alloc_new w3 _) (fun e => by have := unhide HLT _ e; omega)); clear hpc hlo hpn hpi hpx hpt hps hb3)) | (go_simp; go_at_call 42; (refine (unhide HIN).mono ?_; rintro e w4 ⟨g, cap', rfl, hown4, hgrow, hat⟩; have e4 := (hgrow.block X (by rw [World.size_alloc]; omega) (fun e => unhide HXN e.symm)).trans ((bel1 w3 _).block X hX3); have y8 := (World.cell?_of_block (a := ⟨X, 8, none⟩) e4).trans z8; have yf := (World.frozen?_of_block (a := ⟨X, 8, none⟩) e4).trans zf; have s2 := (World.cell?_of_block (a := ⟨X, 2, none⟩) e4).trans z2; have s0 := (World.cell?_of_block (a := ⟨bx, 0, none⟩) ((hgrow.block bx (by rw [World.size_alloc]; omega) (fun e => by have := unhide HLB _ e.symm; omega)).trans ((bel1 w3 _).block bx hbx3))).trans z0; have HS4 : Hid (∀ v, (w4.setCell ⟨X, 8, none⟩ v).cell? ⟨X, 2, none⟩ = some (.int .i64 f.lim) ∧ (w4.setCell ⟨X, 8, none⟩ v).cell? ⟨bx, 0, none⟩ = some (.string x.name)) := (fun v => ⟨(cell_set8 v (.inr (by decide))).trans s2, (cell_set8 v (.inl hbX2)).trans s0⟩); have PUSH := hide (FleetAt.insert (unhide F1) hM1 (unhide HB4) (unhide HPC) (unhide HLO) hown4 hgrow hat); clear hown4 hgrow hat e4)))
    all_goals
      obtain ⟨hfn, hkn⟩ := unhide PUSH
      have FN := hide hfn
      have KN := hide ((unhide K1).trans hkn)
      clear hfn hkn PUSH
      have hpl3 : (insP kk p F.ps).length = ps.length + 1 := by rw [insP_len, unhide HFP]
      have hFe := unhide HFE
      clear HFE HFP
      subst hFe
      go_wp2
      go_roundw
      case rel => exact ⟨k + 1, _, _, _, by omega, by go_num, by rw [hpl3]; omega, by rw [hpl3]; omega, FN, HOI, KN⟩
      case measure => simp [intOf]; omega
end Fleet
end Go.Proofs.YthgcfklfpllgnaaDoor
