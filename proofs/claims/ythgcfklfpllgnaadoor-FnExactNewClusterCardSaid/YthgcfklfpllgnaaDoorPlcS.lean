/-
  The model's l7Places: fresh places for the nodes of two slices, rising by name, each once.
-/
import Derived.Test.YthgcfklfpllgnaaDoorZ3
import Derived.Test.YthgcfklfpllgnaaDoorZ4
import Derived.Deep.DeepCutAuto
import Derived.Deep.RegionWith
import Derived.Lib.QuietBelow
import Derived.BigQuiet
import Derived.Deep.QuietTactic
import Derived.Laws.AppendOwn
import Derived.Laws.OwnMore
import Derived.Lib.AppendZeros
namespace Go.Proofs.YthgcfklfpllgnaaDoor
namespace Plc
open Go.RowKit Base Marks
set_option linter.unusedVariables false

theorem info_ex : ∃ i, Tryd.prog.info? 59 = some i ∧ i.zero = some (.agg #[.string ByteArray.empty, .int .i64 0, .int .i64 0, .slice none 0 0]) ∧ i.size = 4 ∧ i.bytes = 56 := by
  have h : (Tryd.prog.info? 59).map (fun i => (i.zero, i.size, i.bytes)) = some (some (.agg #[.string ByteArray.empty, .int .i64 0, .int .i64 0, .slice none 0 0]), 4, 56) := by kernel_rfl
  obtain ⟨i, hi, hz⟩ := Option.map_eq_some_iff.1 h
  simp only [Prod.mk.injEq] at hz
  exact ⟨i, hi, hz.1, hz.2.1, hz.2.2⟩

set_option maxRecDepth 100000 in
set_option maxHeartbeats 4000000 in
theorem places_any (A : Nat → Option Addr) (C : Nat → Nat) (N : Nat → List Nodes.D) (lim : Int) (w : World) (hat : ∀ i, i < 2 → Nodes.LAt w (A i) (N i)) (hl : ∀ i, i < 2 → (N i).length ≤ 1048576) :
    Calls Tryd.prog 16 #[.slice (A 0) (N 0).length (C 0), .slice (A 1) (N 1).length (C 1), .int .i64 lim] w fun e w' => ∃ v, e = .returned v ∧ w'.ownsRow w.heap.size 59 4 v (insAll (pre N 2)).length (flat lim (insAll (pre N 2))) ∧ Below w.heap.size w w' := by
  obtain ⟨i0, hi0, hz0, hz1, hz2⟩ := info_ex
  have HI := hide hi0
  have HZ0 := hide hz0
  have HZ1 := hide hz1
  have HZ2 := hide hz2
  have HAT := hide hat
  have HL := hide hl
  clear hi0 hz0 hz1 hz2 hat hl
  obtain ⟨k0, k1⟩ := box2 w 24 (.slice (A 0) (N 0).length (C 0)) (.slice (A 1) (N 1).length (C 1))
  have HCE : Hid (∀ i, i < 2 → (w.alloc (.cells #[.slice (A 0) (N 0).length (C 0), .slice (A 1) (N 1).length (C 1)] 24)).cell? ⟨w.heap.size, i, none⟩ = some (.slice (A i) (N i).length (C i))) := fun i hi => by
    obtain rfl | rfl : i = 0 ∨ i = 1 := by omega
    · exact k0
    · exact k1
  clear k0 k1
  have B0 := hide (bel1 w (.cells #[.slice (A 0) (N 0).length (C 0), .slice (A 1) (N 1).length (C 1)] 24))
  have hs0 : w.heap.size < (w.alloc (.cells #[.slice (A 0) (N 0).length (C 0), .slice (A 1) (N 1).length (C 1)] 24)).heap.size := by simp
  go_enter Tryd.func16, Tryd.ntmps16
  go_wp2_with fail
  generalize (w.alloc (.cells #[.slice (A 0) (N 0).length (C 0), .slice (A 1) (N 1).length (C 1)] 24)) = v0 at HCE B0 hs0 ⊢
  go_loopw [7, 18] (fun ov iv wr => ∃ (i : Nat) (oa : Option Addr) (oc n : Nat), i ≤ 2 ∧ iv = .int .i64 (i : Int) ∧ ov = .slice oa n oc ∧ n ≤ i * 1048576 ∧ Hid (n = (insAll (pre N i)).length) ∧ Hid (wr.ownsRow w.heap.size 59 4 (.slice oa n oc) n (flat lim (insAll (pre N i)))) ∧ Hid (Below v0.heap.size v0 wr)) (fun _ iv _ => 2 - (intOf iv).toNat)
  case atStart => exact ⟨0, none, 0, 0, by simp, rfl, rfl, by simp, hide (by simp [insAll, pre]), hide (World.ownsRow_nil _ _ _ _), hide (Below.refl _ _)⟩
  case round =>
    obtain ⟨i, oa, oc, n, hi, rfl, rfl, hn2, hn, how, hb⟩ := hrel
    by_cases hlt : i < 2
    · have c0 : wr.cell? ⟨w.heap.size, i, none⟩ = some (.slice (A i) (N i).length (C i)) := ((unhide hb).cell (p := ⟨w.heap.size, i, none⟩) hs0).trans (unhide HCE i hlt)
      obtain ⟨wx, hname⟩ : ∃ v, v = wr := ⟨_, rfl⟩
      subst hname
      have hll := unhide HL i hlt
      have hid : decide ((i : Int) < 2) = true := by simp; omega
      have BX := hide ((unhide B0).trans ((unhide hb).mono (unhide B0).size))
      have LX := hide ((unhide HAT i hlt).below (unhide BX) (Nat.le_refl _))
      have hzx := (unhide BX).size
      have UZ : Hid (insAll (pre N i) = insAll (upto N i 0)) := by rw [upto_zero]; exact hide rfl
      rw [unhide UZ] at hn how
      clear UZ
      generalize A i = ai at c0 LX
      go_wp2_with fail
      go_loopw [7, 24] (fun ov jv wr => ∃ (q : Nat) (oa : Option Addr) (oc n : Nat), q ≤ (N i).length ∧ jv = .int .i64 (q : Int) ∧ ov = .slice oa n oc ∧ n ≤ i * 1048576 + q ∧ Hid (n = (insAll (upto N i q)).length) ∧ Hid (wr.ownsRow w.heap.size 59 4 (.slice oa n oc) n (flat lim (insAll (upto N i q)))) ∧ Hid (Below wx.heap.size wx wr)) (fun _ jv _ => (N i).length - (intOf jv).toNat)
      case atStart => exact ⟨0, oa, oc, n, Nat.zero_le _, rfl, rfl, Nat.le_trans hn2 (Nat.le_add_right _ _), hn, how, hide (Below.refl _ _)⟩
      case round =>
        obtain ⟨q, oa, oc, n, hq, rfl, rfl, hnq, hn, how, hbi⟩ := hrel
        have hzi := (unhide hbi).size
        by_cases hqt : q < (N i).length
        · obtain ⟨nb, no, ha, hnb, hnc⟩ := unhide LX (fun e => by rw [e] at hqt; simp at hqt)
          obtain ⟨d0, d1⟩ := (hnc q hqt).below (unhide hbi) hnb
          subst ha
          have HS := hide (upto_succ hqt)
          clear hnc
          generalize (N i).getD q Nodes.zero = nd at d0 d1 HS
          obtain ⟨x, wt⟩ := nd
          dsimp only at d0 d1 HS
          have hnb' : nb < wr.heap.size := Nat.lt_of_lt_of_le hnb hzi
          have HS2 : Hid (insAll (upto N i (q + 1)) = ins x (insAll (upto N i q))) := by rw [unhide HS]; exact insAll_snoc _ _
          clear HS
          generalize insAll (upto N i q) = L at hn how HS2
          have hkl := kOf_le x L
          rw [← unhide hn] at hkl
          have HKL := hide (fun j => @kOf_lt x L j)
          have HKA := hide (@kOf_at x L)
          obtain ⟨e0, e1⟩ := box2 wr 42 (.string x) (.int .i64 wt)
          have hbx : wr.heap.size < (wr.alloc (.cells #[.string x, .int .i64 wt] 42)).heap.size := by simp
          have OW1 := hide ((unhide how).alloc (.cells #[.string x, .int .i64 wt] 42))
          have B1 := hide ((unhide hbi).alloc hzi (.cells #[.string x, .int .i64 wt] 42))
          go_wp2_with fail
          generalize (wr.alloc (.cells #[.string x, .int .i64 wt] 42)) = w1 at e0 e1 hbx OW1 B1 ⊢
          generalize wr.heap.size = bx at e0 e1 hbx hnb' hzi ⊢
          clear e1 d0 d1 how hbi
          go_loopw [12] (fun kv wr => ∃ k : Nat, k ≤ kOf x L ∧ kv = .int .i64 (k : Int) ∧ Hid (Below w1.heap.size w1 wr)) (fun kv _ => kOf x L - (intOf kv).toNat)
          case atStart => exact ⟨0, Nat.zero_le _, rfl, hide (Below.refl _ _)⟩
          case round =>
            obtain ⟨k, hk, rfl, hb3⟩ := hrel
            have c2 : wr.cell? ⟨bx, 0, none⟩ = some (.string x) := ((unhide hb3).cell (p := ⟨bx, 0, none⟩) hbx).trans e0
            have OW3 := hide (OwnR.own_below (unhide OW1) (unhide hb3) (Nat.le_refl _))
            have hz3 := (unhide hb3).size
            have hbx3 : bx < wr.heap.size := Nat.lt_of_lt_of_le hbx hz3
            have B3 := hide ((unhide B1).trans ((unhide hb3).mono (unhide B1).size))
            have HBQ : Hid (∀ m, Below wr.heap.size wr (wr.drewN m)) := fun m => bel_draws (Below.refl _ _) m
            by_cases hkn : k < n
            · obtain ⟨g, cap', hf, hgb, hncap, hgl⟩ := OwnR.own_some (unhide OW3) (by omega)
              simp only [Value.slice.injEq] at hf
              obtain ⟨hf, _, rfl⟩ := hf
              subst hf
              have c1 : wr.cell? ⟨g, k * 4, none⟩ = some (.string (L.getD k ByteArray.empty)) := own_cells (unhide OW3) (flat_name lim L k (by rw [← unhide hn]; exact hkn))
              by_cases hkk : k < kOf x L
              · have hless := unhide HKL k hkk
                generalize L.getD k ByteArray.empty = y at c1 hless
                go_wp2_with fail
                go_quiet (fail)
                generalize hwq : wr.drewN _ = wq
                have hb2 : Below wr.heap.size wr wq := by rw [← hwq]; exact unhide HBQ _
                have B2 := hide ((unhide hb3).trans (hb2.mono (unhide hb3).size))
                clear hb2 hwq c1 c2 HBQ
                go_wp2
                go_roundw
                case rel => exact ⟨k + 1, by omega, by go_num, B2⟩
                case measure => simp [intOf]; omega
              · obtain rfl : k = kOf x L := by omega
                have hless := unhide HKA (by rw [← unhide hn]; exact hkn)
                by_cases hsame : L.getD (kOf x L) ByteArray.empty = x
                · have HSM : Hid (insAll (upto N i (q + 1)) = L) := (unhide HS2).trans (ins_there (by rw [← unhide hn]; exact hkn) hsame)
                  rw [hsame] at c1 hless
                  have hyy : (x.toList == x.toList) = true := by simp
                  generalize kOf x L = kk at *
                  go_wp2_with fail
                  go_quiet (fail)
                  generalize hwq : wr.drewN _ = wq
                  have hb2 : Below wr.heap.size wr wq := by rw [← hwq]; exact unhide HBQ _
                  have B2 := hide ((unhide B3).trans (hb2.mono (unhide B3).size))
                  have c1' := (hb2.cell (p := ⟨g, kk * 4, none⟩) hgl).trans c1
                  have c2' := (hb2.cell (p := ⟨bx, 0, none⟩) hbx3).trans c2
                  have OW4 := hide (OwnR.own_below (unhide OW3) hb2 (Nat.le_refl _))
                  have HBQ2 : Hid (∀ m, Below wq.heap.size wq (wq.drewN m)) := fun m => bel_draws (Below.refl _ _) m
                  clear hb2 hwq c1 c2 HBQ
                  go_wp2_with fail
                  go_quiet (fail)
                  generalize hwq : wq.drewN _ = wq2
                  have hb2 : Below wq.heap.size wq wq2 := by rw [← hwq]; exact unhide HBQ2 _
                  have B5 := hide ((unhide B2).trans (hb2.mono (unhide B2).size))
                  have OW5 := hide (OwnR.own_below (unhide OW4) hb2 (Nat.le_refl _))
                  clear hb2 hwq
                  go_wp2
                  go_roundw
                  case rel => exact ⟨q + 1, _, _, n, by omega, by go_num, rfl, by omega, by rw [unhide HSM]; exact hn, by rw [unhide HSM]; exact OW5, B5⟩
                  case measure => simp [intOf]; omega
                · have hnot : ¬ (kOf x L < L.length ∧ L.getD (kOf x L) ByteArray.empty = x) := fun h => hsame h.2
                  have HNW : Hid (insAll (upto N i (q + 1)) = L.take (kOf x L) ++ [x] ++ L.drop (kOf x L)) := (unhide HS2).trans (ins_new hnot)
                  have hxy : (L.getD (kOf x L) ByteArray.empty).toList ≠ x.toList := fun e => hsame (by
                    rw [Lib.toList_data, Lib.toList_data] at e
                    exact Go.WideShapes.bytes_inj e)
                  have hyy : ((L.getD (kOf x L) ByteArray.empty).toList == x.toList) = false := by simpa using hxy
                  generalize L.getD (kOf x L) ByteArray.empty = y at c1 hless hyy
                  have hkl2 : kOf x L ≤ L.length := kOf_le x L
                  generalize kOf x L = kk at *
                  clear hnot hxy
                  go_wp2_with fail
                  go_quiet (fail)
                  generalize hwq : wr.drewN _ = wq
                  have hb2 : Below wr.heap.size wr wq := by rw [← hwq]; exact unhide HBQ _
                  have B2 := hide ((unhide B3).trans (hb2.mono (unhide B3).size))
                  have c1' := (hb2.cell (p := ⟨g, kk * 4, none⟩) hgl).trans c1
                  have c2' := (hb2.cell (p := ⟨bx, 0, none⟩) hbx3).trans c2
                  have OW4 := hide (OwnR.own_below (unhide OW3) hb2 (Nat.le_refl _))
                  have hgl2 := Nat.lt_of_lt_of_le hgl hb2.size
                  have hbx4 := Nat.lt_of_lt_of_le hbx3 hb2.size
                  have HBQ2 : Hid (∀ m, Below wq.heap.size wq (wq.drewN m)) := fun m => bel_draws (Below.refl _ _) m
                  clear hb2 hwq c1 c2 HBQ
                  go_wp2_with fail
                  go_quiet (fail)
                  generalize hwq : wq.drewN _ = wt
                  have hb2 : Below wq.heap.size wq wt := by rw [← hwq]; exact unhide HBQ2 _
                  have B5 := hide ((unhide B2).trans (hb2.mono (unhide B2).size))
                  have OW5 := hide (OwnR.own_below (unhide OW4) hb2 (Nat.le_refl _))
                  have c2t := (hb2.cell (p := ⟨bx, 0, none⟩) hbx4).trans c2'
                  have hglt := Nat.lt_of_lt_of_le hgl2 hb2.size
                  have hbxt := Nat.lt_of_lt_of_le hbx4 hb2.size
                  clear hb2 hwq c1' c2' OW3 OW4 B2 B3 HBQ2
                  go_wp2_with (at_builtin; go_loud (refine wpList_append_own _ rfl _ _ 25 rfl wt.heap.size 59 i0 _ 4 56 Tryd.underlying25 (unhide HI) (unhide HZ0) (unhide HZ1) (unhide HZ2) rfl (by decide) _ _ _ rfl (World.ownsRow_nil _ _ _ _) ⟨g, 0, none⟩ kk oc (flat lim (L.take kk)) rfl ?c0 (news_head (unhide OW5)) (fun u hu => flat_one_cell hu) ?c3 ?c4 ?c5 ?_))
                  case c0 => rw [flat_len, List.length_take, Nat.min_eq_left hkl2]
                  case c3 => unfold maxLen; omega
                  case c4 => omega
                  case c5 => exact Nat.le_refl _
                  intro v5 w5 h5 hg5 _
                  have hb5 : Below wt.heap.size wt w5 := (Below.refl _ _).grown hg5 (Nat.le_refl _) (fun b e => by simp [Value.ownBlock] at e)
                  obtain ⟨a5, c5, rfl⟩ := OwnR.own_form h5
                  have O5 := hide h5
                  have T5 := hide hb5
                  have c25 := (hb5.cell (p := ⟨bx, 0, none⟩) hbxt).trans c2t
                  have hbx5 := Nat.lt_of_lt_of_le hbxt hb5.size
                  have hz5 := hb5.size
                  clear h5 hg5 hb5 c2t
                  go_wp2_with (at_builtin; go_loud (refine wpList_append_own _ rfl _ _ 25 rfl wt.heap.size 59 i0 _ 4 56 Tryd.underlying25 (unhide HI) (unhide HZ0) (unhide HZ1) (unhide HZ2) rfl (by decide) _ _ _ rfl ((unhide O5).alloc _) ⟨w5.heap.size, 0, none⟩ 1 1 (cellsOf lim x) rfl rfl ?c1 ?c2 ?c3 ?c4 ?c5 ?_))
                  case c1 => exact news_one w5 lim x _
                  case c2 => exact fun u hu => flat_one_cell (lim := lim) (L := [x]) (by rw [flat_one]; exact hu)
                  case c3 => unfold maxLen; omega
                  case c4 => omega
                  case c5 => simp; omega
                  intro v6 w6 h6 hg6 _
                  have T6 := hide (((unhide T5).alloc hz5 _).grown hg6 (by simp; omega) (OwnR.own_block (unhide O5)))
                  obtain ⟨a6, c6, rfl⟩ := OwnR.own_form h6
                  have O6 := hide h6
                  have OWT := hide (OwnR.own_below (unhide OW5) (unhide T6) (Nat.le_refl _))
                  have hz6 := (unhide T6).size
                  clear h6 hg6 O5 T5
                  go_wp2_with (at_builtin; go_loud (refine wpList_append_own _ rfl _ _ 25 rfl wt.heap.size 59 i0 _ 4 56 Tryd.underlying25 (unhide HI) (unhide HZ0) (unhide HZ1) (unhide HZ2) rfl (by decide) _ _ _ rfl (unhide O6) _ _ _ (flat lim (L.drop kk)) rfl ?c0 ?c1 (fun u hu => flat_one_cell hu) ?c3 ?c4 ?c5 ?_))
                  case c0 => rw [flat_len, List.length_drop, ← unhide hn]
                  case c1 => exact news_tail hkl2 (unhide OWT)
                  case c3 => unfold maxLen; omega
                  case c4 => omega
                  case c5 => omega
                  intro v7 w7 h7 hg7 _
                  have T7 := hide ((unhide T6).grown hg7 hz6 (OwnR.own_block (unhide O6)))
                  obtain ⟨a7, c7, rfl⟩ := OwnR.own_form h7
                  have hzt := (unhide B5).size
                  have O7 : Hid (w7.ownsRow w.heap.size 59 4 (.slice a7 (n + 1) c7) (n + 1) (flat lim (insAll (upto N i (q + 1))))) := by
                    rw [unhide HNW, flat_append, flat_append, flat_one, List.append_assoc]
                    rw [show kk + 1 + (n - kk) = n + 1 by omega] at h7
                    exact OwnR.own_le h7 (by omega)
                  have N7 : Hid (n + 1 = (insAll (upto N i (q + 1))).length) := by
                    refine hide ?_
                    have := unhide hn
                    rw [unhide HNW, List.length_append, List.length_append, List.length_take, List.length_drop, Nat.min_eq_left hkl2, List.length_singleton]
                    omega
                  have hnn : kk + 1 + (n - kk) = n + 1 := by omega
                  rw [hnn]
                  have B7 := hide ((unhide B5).trans ((unhide T7).mono (unhide B5).size))
                  clear h7 hg7 O6 T6 hnn
                  go_wp2
                  go_roundw
                  case rel => exact ⟨q + 1, a7, c7, n + 1, by omega, by go_num, rfl, by omega, N7, O7, B7⟩
                  case measure => simp [intOf]; omega
            · obtain rfl : k = n := by omega
              have hkn' : kOf x L = k := by omega
              have hLk : L.length = k := (unhide hn).symm
              have hnot : ¬ (kOf x L < L.length ∧ L.getD (kOf x L) ByteArray.empty = x) := fun h => by omega
              have HNW : Hid (insAll (upto N i (q + 1)) = L ++ [x]) := by
                refine hide ((unhide HS2).trans ((ins_new hnot).trans ?_))
                rw [hkn', ← hLk]; simp
              have HLK := hide hLk
              clear hnot hkn' hLk HKL HKA
              have hkk : ¬ ((k : Int) < (k : Int)) := by omega
              go_wp2_with fail
              go_quiet (fail)
              generalize hwq : wr.drewN _ = wq
              have hb2 : Below wr.heap.size wr wq := by rw [← hwq]; exact unhide HBQ _
              have B2 := hide ((unhide B3).trans (hb2.mono (unhide B3).size))
              have c2' := (hb2.cell (p := ⟨bx, 0, none⟩) hbx3).trans c2
              have OW4 := hide (OwnR.own_below (unhide OW3) hb2 (Nat.le_refl _))
              have hbx4 := Nat.lt_of_lt_of_le hbx3 hb2.size
              have HBQ2 : Hid (∀ m, Below wq.heap.size wq (wq.drewN m)) := fun m => bel_draws (Below.refl _ _) m
              clear hb2 hwq c2 HBQ
              go_wp2_with fail
              go_quiet (fail)
              generalize hwq : wq.drewN _ = wt
              have hb2 : Below wq.heap.size wq wt := by rw [← hwq]; exact unhide HBQ2 _
              have B5 := hide ((unhide B2).trans (hb2.mono (unhide B2).size))
              have OW5 := hide (OwnR.own_below (unhide OW4) hb2 (Nat.le_refl _))
              have c2t := (hb2.cell (p := ⟨bx, 0, none⟩) hbx4).trans c2'
              have hbxt := Nat.lt_of_lt_of_le hbx4 hb2.size
              clear hb2 hwq c2' OW3 OW4 B2 B3 HBQ2
              rcases (unhide OW5).2 with ⟨hv, hk0⟩ | ⟨g, cap', cur, hv, hgb, hh, hncap, _, hsz, ht⟩
              · simp only [Value.slice.injEq] at hv
                obtain ⟨rfl, rfl, rfl⟩ := hv
                have hL0 : L = [] := List.length_eq_zero_iff.1 (by have := unhide HLK; omega)
                subst hL0
                have HRUN := hide (fun ty => run_append_owned_none (P := Tryd.prog) (w := wt) wt.heap.size 25 ty 59 i0 4 Tryd.underlying25 (unhide HI) (.slice none 0 0) 0 [] (World.ownsRow_nil _ _ _ _))
                go_wp2_with (at_builtin; go_loud (refine wpList_append_own _ rfl _ _ 25 rfl wt.heap.size 59 i0 _ 4 56 Tryd.underlying25 (unhide HI) (unhide HZ0) (unhide HZ1) (unhide HZ2) rfl (by decide) _ _ _ rfl (World.ownsRow_nil _ _ _ _) ⟨wt.heap.size, 0, none⟩ 1 1 (cellsOf lim x) rfl rfl ?n1 ?n2 ?n3 ?n4 ?n5 ?_))
                case n1 => exact fun j u hj => hj
                case n2 => exact fun u hu => flat_one_cell (lim := lim) (L := [x]) (by rw [flat_one]; exact hu)
                case n3 => unfold maxLen; omega
                intro v6 w6 h6 hg6 _
                try simp only [Nat.zero_add, List.nil_append] at h6
                have T6 := hide (((Below.refl wt.heap.size wt).alloc (Nat.le_refl _) _).grown hg6 (by simp) (fun b e => by simp [Value.ownBlock] at e))
                obtain ⟨a7, c7, rfl⟩ := OwnR.own_form h6
                clear HRUN
                have HRUN := hide (fun ty => run_append_owned_none (P := Tryd.prog) (w := w6) wt.heap.size 25 ty 59 i0 4 Tryd.underlying25 (unhide HI) _ _ _ h6)
                have N7 : Hid (1 = (insAll (upto N i (q + 1))).length) := by
                  refine hide ?_
                  rw [unhide HNW, List.length_append, List.length_singleton, unhide HLK]
                have hzt := (unhide B5).size
                have O7 : Hid (w6.ownsRow w.heap.size 59 4 (.slice a7 (1) c7) (1) (flat lim (insAll (upto N i (q + 1))))) := by
                  rw [unhide HNW, flat_append, flat_one]
                  exact OwnR.own_le h6 (by omega)
                have B7 := hide ((unhide B5).trans ((unhide T6).mono (unhide B5).size))
                clear h6 hg6
                go_wp2_with (at_builtin; refine Lib.wpList_append_run _ rfl _ _ _ _ rfl _ _ rfl rfl _ _ (unhide HRUN _) ?_)
                go_roundw
                case rel => exact ⟨q + 1, a7, c7, 1, by omega, by go_num, rfl, by omega, N7, O7, B7⟩
                case measure => simp [intOf]; omega
              · simp only [Value.slice.injEq] at hv
                obtain ⟨rfl, _, rfl⟩ := hv
                have hglt : g < wt.heap.size := (Array.getElem?_eq_some_iff.1 hh).1
                clear hh hsz ht
                by_cases hcap : k < oc
                · skip
                  go_wp2_with (at_builtin; go_loud (refine wpList_append_own _ rfl _ _ 25 rfl wt.heap.size 59 i0 _ 4 56 Tryd.underlying25 (unhide HI) (unhide HZ0) (unhide HZ1) (unhide HZ2) rfl (by decide) _ _ _ rfl (World.ownsRow_nil _ _ _ _) ⟨g, 0, none⟩ k _ (flat lim L) rfl ?c0 ?c1 (fun u hu => flat_one_cell hu) ?c3 ?c4 ?c5 ?_))
                  case c0 => rw [flat_len, unhide HLK]
                  case c1 => exact fun j u hj => by rw [Go.WideShapes.add_plain, Nat.zero_add]; exact own_cells (unhide OW5) hj
                  case c3 => unfold maxLen; omega
                  case c4 => omega
                  case c5 => exact Nat.le_refl _
                  intro v5 w5 h5 hg5 _
                  have hb5 : Below wt.heap.size wt w5 := (Below.refl _ _).grown hg5 (Nat.le_refl _) (fun b e => by simp [Value.ownBlock] at e)
                  obtain ⟨a5, c5, rfl⟩ := OwnR.own_form h5
                  have O5 := hide h5
                  have T5 := hide hb5
                  have c25 := (hb5.cell (p := ⟨bx, 0, none⟩) hbxt).trans c2t
                  have hbx5 := Nat.lt_of_lt_of_le hbxt hb5.size
                  have hz5 := hb5.size
                  clear h5 hg5 hb5 c2t
                  go_wp2_with (at_builtin; go_loud (refine wpList_append_own _ rfl _ _ 25 rfl wt.heap.size 59 i0 _ 4 56 Tryd.underlying25 (unhide HI) (unhide HZ0) (unhide HZ1) (unhide HZ2) rfl (by decide) _ _ _ rfl ((unhide O5).alloc _) ⟨w5.heap.size, 0, none⟩ 1 1 (cellsOf lim x) rfl rfl ?c1 ?c2 ?c3 ?c4 ?c5 ?_))
                  case c1 => exact news_one w5 lim x _
                  case c2 => exact fun u hu => flat_one_cell (lim := lim) (L := [x]) (by rw [flat_one]; exact hu)
                  case c3 => unfold maxLen; omega
                  case c4 => omega
                  case c5 => simp; omega
                  intro v6 w6 h6 hg6 _
                  have T6 := hide (((unhide T5).alloc hz5 _).grown hg6 (by simp; omega) (OwnR.own_block (unhide O5)))
                  obtain ⟨a6, c6, rfl⟩ := OwnR.own_form h6
                  have O6 := hide h6
                  have hz6 := (unhide T6).size
                  clear h6 hg6 O5 T5
                  go_wp2_with (at_builtin; go_loud (refine wpList_append_own _ rfl _ _ 25 rfl wt.heap.size 59 i0 _ 4 56 Tryd.underlying25 (unhide HI) (unhide HZ0) (unhide HZ1) (unhide HZ2) rfl (by decide) _ _ _ rfl (unhide O6) _ _ _ [] rfl ?c0 ?c1 (fun u hu => by simp at hu) ?c3 ?c4 ?c5 ?_))
                  case c0 => simp
                  case c1 => exact fun j u hj => by simp at hj
                  case c3 => unfold maxLen; omega
                  case c4 => omega
                  case c5 => omega
                  intro v7 w7 h7 hg7 _
                  have T7 := hide ((unhide T6).grown hg7 hz6 (OwnR.own_block (unhide O6)))
                  obtain ⟨a7, c7, rfl⟩ := OwnR.own_form h7
                  have N7 : Hid (k + 1 = (insAll (upto N i (q + 1))).length) := by
                    refine hide ?_
                    rw [unhide HNW, List.length_append, List.length_singleton, unhide HLK]
                  have hzt := (unhide B5).size
                  have O7 : Hid (w7.ownsRow w.heap.size 59 4 (.slice a7 (k + 1) c7) (k + 1) (flat lim (insAll (upto N i (q + 1))))) := by
                    rw [unhide HNW, flat_append, flat_one]
                    refine OwnR.own_le ?_ (show w.heap.size ≤ wt.heap.size by omega)
                    simpa using h7
                  have B7 := hide ((unhide B5).trans ((unhide T7).mono (unhide B5).size))
                  clear h7 hg7 O6 T6
                  go_wp2
                  go_roundw
                  case rel => exact ⟨q + 1, a7, c7, k + 1, by omega, by go_num, rfl, by omega, N7, O7, B7⟩
                  case measure => simp [intOf]; omega
                · obtain rfl : k = oc := by omega
                  go_wp2_with (at_builtin; go_loud (refine wpList_append_own _ rfl _ _ 25 rfl wt.heap.size 59 i0 _ 4 56 Tryd.underlying25 (unhide HI) (unhide HZ0) (unhide HZ1) (unhide HZ2) rfl (by decide) _ _ _ rfl (World.ownsRow_nil _ _ _ _) ⟨g, 0, none⟩ k _ (flat lim L) rfl ?d0 ?d1 (fun u hu => flat_one_cell hu) ?d3 ?d4 ?d5 ?_))
                  case d0 => rw [flat_len, unhide HLK]
                  case d1 => exact fun j u hj => by rw [Go.WideShapes.add_plain, Nat.zero_add]; exact own_cells (unhide OW5) hj
                  case d3 => unfold maxLen; omega
                  case d4 => omega
                  case d5 => exact Nat.le_refl _
                  intro v5 w5 h5 hg5 _
                  have hb5 : Below wt.heap.size wt w5 := (Below.refl _ _).grown hg5 (Nat.le_refl _) (fun b e => by simp [Value.ownBlock] at e)
                  obtain ⟨a5, c5, rfl⟩ := OwnR.own_form h5
                  have O5 := hide h5
                  have T5 := hide hb5
                  have c25 := (hb5.cell (p := ⟨bx, 0, none⟩) hbxt).trans c2t
                  have hbx5 := Nat.lt_of_lt_of_le hbxt hb5.size
                  have hz5 := hb5.size
                  clear h5 hg5 hb5 c2t
                  go_wp2_with (at_builtin; go_loud (refine wpList_append_own _ rfl _ _ 25 rfl wt.heap.size 59 i0 _ 4 56 Tryd.underlying25 (unhide HI) (unhide HZ0) (unhide HZ1) (unhide HZ2) rfl (by decide) _ _ _ rfl ((unhide O5).alloc _) ⟨w5.heap.size, 0, none⟩ 1 1 (cellsOf lim x) rfl rfl ?d1 ?d2 ?d3 ?d4 ?d5 ?_))
                  case d1 => exact news_one w5 lim x _
                  case d2 => exact fun u hu => flat_one_cell (lim := lim) (L := [x]) (by rw [flat_one]; exact hu)
                  case d3 => unfold maxLen; omega
                  case d4 => omega
                  case d5 => simp; omega
                  intro v6 w6 h6 hg6 _
                  have T6 := hide (((unhide T5).alloc hz5 _).grown hg6 (by simp; omega) (OwnR.own_block (unhide O5)))
                  obtain ⟨a6, c6, rfl⟩ := OwnR.own_form h6
                  have O6 := hide h6
                  have hz6 := (unhide T6).size
                  clear h6 hg6 O5 T5
                  go_wp2_with (at_builtin; go_loud (refine wpList_append_own _ rfl _ _ 25 rfl wt.heap.size 59 i0 _ 4 56 Tryd.underlying25 (unhide HI) (unhide HZ0) (unhide HZ1) (unhide HZ2) rfl (by decide) _ _ _ rfl (unhide O6) _ _ _ [] rfl ?d0 ?d1 (fun u hu => by simp at hu) ?d3 ?d4 ?d5 ?_))
                  case d0 => simp
                  case d1 => exact fun j u hj => by simp at hj
                  case d3 => unfold maxLen; omega
                  case d4 => omega
                  case d5 => omega
                  intro v7 w7 h7 hg7 _
                  have T7 := hide ((unhide T6).grown hg7 hz6 (OwnR.own_block (unhide O6)))
                  obtain ⟨a7, c7, rfl⟩ := OwnR.own_form h7
                  have N7 : Hid (k + 1 = (insAll (upto N i (q + 1))).length) := by
                    refine hide ?_
                    rw [unhide HNW, List.length_append, List.length_singleton, unhide HLK]
                  have hzt := (unhide B5).size
                  have O7 : Hid (w7.ownsRow w.heap.size 59 4 (.slice a7 (k + 1) c7) (k + 1) (flat lim (insAll (upto N i (q + 1))))) := by
                    rw [unhide HNW, flat_append, flat_one]
                    refine OwnR.own_le ?_ (show w.heap.size ≤ wt.heap.size by omega)
                    simpa using h7
                  have B7 := hide ((unhide B5).trans ((unhide T7).mono (unhide B5).size))
                  clear h7 hg7 O6 T6
                  go_wp2
                  go_roundw
                  case rel => exact ⟨q + 1, a7, c7, k + 1, by omega, by go_num, rfl, by omega, N7, O7, B7⟩
                  case measure => simp [intOf]; omega
        · obtain rfl : q = (N i).length := by omega
          have UE : Hid (insAll (upto N i (N i).length) = insAll (pre N (i + 1))) := by rw [upto_end]; exact hide rfl
          have HN2 : Hid (n = (insAll (pre N (i + 1))).length) := by rw [← unhide UE]; exact hn
          have HO2 : Hid (wr.ownsRow w.heap.size 59 4 (.slice oa n oc) n (flat lim (insAll (pre N (i + 1))))) := by rw [← unhide UE]; exact how
          have HB2 := hide ((unhide hb).trans ((unhide hbi).mono (unhide hb).size))
          clear UE how hn
          go_wp2
          go_roundw
          case rel => exact ⟨i + 1, oa, oc, n, by omega, by go_num, rfl, by omega, HN2, HO2, HB2⟩
          case measure => simp [intOf]; omega
    · obtain rfl : i = 2 := by omega
      have HF : Hid (wr.ownsRow w.heap.size 59 4 (.slice oa n oc) (insAll (pre N 2)).length (flat lim (insAll (pre N 2)))) := by rw [← unhide hn]; exact how
      have BX := hide ((unhide B0).trans ((unhide hb).mono (unhide B0).size))
      go_wp2
      go_ret
      exact ⟨.slice oa n oc, rfl, unhide HF, unhide BX⟩
end Plc
end Go.Proofs.YthgcfklfpllgnaaDoor
