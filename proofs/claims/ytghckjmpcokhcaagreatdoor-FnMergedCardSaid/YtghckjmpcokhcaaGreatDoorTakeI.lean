/-
  The program's takeItems: each key takes its item, if it comes next.
-/
import Derived.Test.YtghckjmpcokhcaaGreatDoorMergeX
import Derived.Test.YtghckjmpcokhcaaGreatDoorRows
import Derived.Deep.QuietTactic
import Derived.BigQuiet
import Derived.Deep.RegionWith
namespace Go.Proofs.YtghckjmpcokhcaaGreatDoor
namespace Merge
open Go.RowKit Base Items Split Marks
set_option linter.unusedVariables false

set_option maxRecDepth 10000 in
set_option maxHeartbeats 1600000 in
theorem takeItems_some (tb N tcap kb ko kc pb pc g c : Nat) (a : Option Addr) (ks : List ByteArray) (P : List Nat) (its : List Itm) (F : Nat → Value) (w : World)
    (ht : RowAt w tb 33 N F) (hN : N ≤ 60) (hkl : ks.length = N) (hkb : kb < w.heap.size) (hkne : kb ≠ tb) (hkc : ∀ i, i < ks.length → w.cell? ⟨kb, ko + i, none⟩ = some (.string (ow ks i)))
    (hpb : pb < w.heap.size) (hpne : pb ≠ tb) (hpc : ∀ q, q < P.length → w.cell? ⟨pb, q, none⟩ = some (.int .i64 ((P.getD q 0 : Nat) : Int))) (hP : P.Nodup) (hPN : ∀ q, q < P.length → P.getD q 0 < N) (hPl : P.length ≤ 60)
    (hg : g < w.heap.size) (hgne : g ≠ tb) (ha : PIt w g a its) (hc : its.length ≤ c) (hl : its.length ≤ 60) :
    Calls Tryz.prog 35 #[.slice (some ⟨tb, 0, none⟩) N tcap, .slice (some ⟨kb, ko, none⟩) ks.length kc, .slice (some ⟨pb, 0, none⟩) P.length pc, .slice a its.length c] w fun e w' =>
      ∃ F', e = .returned (.bool (decide (tk ks P its = []))) ∧ RowAt w' tb 33 N F' ∧ w.grownBy w' (some tb) ∧ Did w g ks P its F F' P.length := by
  have HT := hide ht
  have HKC := hide hkc
  have HPC := hide hpc
  have HP := hide hP
  have HPN := hide hPN
  have HA := hide ha
  have HKL := hide hkl
  clear ht hkc hpc hP hPN ha hkl
  go_enter Tryz.func35, Tryz.ntmps35
  go_wp2
  go_loopw [3, 13] (fun av iv wr => ∃ (q d : Nat) (a' : Option Addr) (la c' : Nat) (F' : Nat → Value), q ≤ P.length ∧ iv = .int .i64 (q : Int) ∧ av = .slice a' la c' ∧ la ≤ c' ∧ la ≤ 60 ∧ Hid (la = its.length - d ∧ d ≤ its.length) ∧ Hid (PIt w g a' (its.drop d)) ∧ Hid (its.drop d = tk ks (P.take q) its) ∧ Hid (RowAt wr tb 33 N F') ∧ Hid (w.grownBy wr (some tb)) ∧ Hid (Did w g ks P its F F' q)) (fun _ iv _ => P.length - (intOf iv).toNat)
  case atStart => exact ⟨0, 0, a, _, c, F, Nat.zero_le _, rfl, rfl, hc, hl, hide ⟨by omega, Nat.zero_le _⟩, hide (by simpa using unhide HA), hide rfl, HT, hide (gb_refl _ _), hide (did_start _ _ _ _ _ _)⟩
  case round =>
    obtain ⟨q, d, a', la, c', F', hq, rfl, rfl, hlc, hl60, hnum, hpa, htk, hrow, hgb, hdid⟩ := hrel
    have hblk : ∀ b, b < w.heap.size → b ≠ tb → ∀ i, wr.cell? ⟨b, i, none⟩ = w.cell? ⟨b, i, none⟩ := fun b hb hne i => World.cell?_of_block (w := w) ((unhide hgb).block b hb (fun e => hne (by simpa using e)))
    have HBQ : Hid (∀ m, Below wr.heap.size wr (wr.drewN m)) := fun m => bel_draws (Below.refl _ _) m
    by_cases hlt : q < P.length
    · have cp := (hblk pb hpb hpne q).trans (unhide HPC q hlt)
      have hkN := unhide HPN q hlt
      have hkk : P.getD q 0 < ks.length := by rw [unhide HKL]; exact hkN
      have ck := (hblk kb hkb hkne (ko + P.getD q 0)).trans (unhide HKC _ hkk)
      have hm := unhide hnum
      have d0 := (unhide hrow).cell (i := P.getD q 0) hkN
      have f0 := (unhide hrow).frozen (P.getD q 0)
      have htl : tb < wr.heap.size := (unhide hrow).lt
      generalize F' (P.getD q 0) = v0 at d0
      by_cases hd : d < its.length
      · obtain ⟨o, rfl, hat, hnx⟩ := (unhide hpa).head hd
        obtain ⟨x0, _, _, _, _⟩ := id hat
        rw [← hblk g hg hgne] at x0
        have HAT := hide hat
        have HNX := hide hnx
        have hl0 : 0 < la := by omega
        have hl0' : decide (0 < la) = true := by simp; omega
        clear hat hnx
        by_cases hx : (its.getD d zero).key = ow ks (P.getD q 0)
        · obtain ⟨e1, e2⟩ := drop_hit (unhide htk) hlt hd hx
          have E1 := hide e1
          have DD := hide (did_hit (c := c') (unhide hdid) (unhide HP) hlt e2 (unhide HAT) (by omega))
          have hx' := str_eq hx
          generalize (its.getD d zero).key = y at x0 hx'
          generalize ow ks (P.getD q 0) = z at ck hx'
          generalize P.getD q 0 = k at cp hkN hkk ck d0 f0 DD
          clear hblk hx e1 e2 hm HAT hdid
          go_wp2_with fail
          go_quiet (fail)
          generalize hwq : wr.drewN _ = wq
          have hb : Below wr.heap.size wr wq := by rw [← hwq]; exact unhide HBQ _
          have d1 := (hb.cell (p := ⟨tb, k, none⟩) htl).trans d0
          have f1 := (hb.frozen (p := ⟨tb, k, none⟩) htl).trans f0
          have HROW := hide (((unhide hrow).below hb htl).set k (.slice (some ⟨g, o, none⟩) 1 c'))
          have HGB := hide (gb_set (gb_trans (unhide hgb) (gb_below (r := some tb) hb (Nat.le_refl _))) k (.slice (some ⟨g, o, none⟩) 1 c'))
          clear hb hwq d0 f0 hrow hgb cp ck x0
          go_wp2
          all_goals
            go_roundw
            case rel => exact ⟨q + 1, d + 1, _, _, _, _, by omega, by go_num, rfl, by omega, by omega, hide (by have := unhide hnum; omega), hide (pit_next (cc := c') (unhide HNX) (by have := unhide hnum; omega) _ (fun h => by first | rfl | simp [h] | omega)), E1, HROW, HGB, DD⟩
            case measure => simp [intOf]; omega
        · obtain ⟨e1, e2⟩ := drop_miss (unhide htk) hlt (fun h => hx h.2)
          have E1 := hide e1
          have DD := hide (did_miss (unhide hdid) (unhide HP) hlt e2)
          have hx' := str_ne hx
          generalize (its.getD d zero).key = y at x0 hx'
          generalize ow ks (P.getD q 0) = z at ck hx'
          generalize P.getD q 0 = k at cp hkN hkk ck
          clear hblk hx e1 e2 hm HAT hdid d0 f0
          go_wp2_with fail
          go_quiet (fail)
          generalize hwq : wr.drewN _ = wq
          have hb : Below wr.heap.size wr wq := by rw [← hwq]; exact unhide HBQ _
          have HROW := hide ((unhide hrow).below hb htl)
          have HGB := hide (gb_trans (unhide hgb) (gb_below (r := some tb) hb (Nat.le_refl _)))
          clear hb hwq hrow hgb cp ck x0
          go_wp2
          go_roundw
          case rel => exact ⟨q + 1, d, _, _, _, _, by omega, by go_num, rfl, by omega, by omega, hnum, hpa, E1, HROW, HGB, DD⟩
          case measure => simp [intOf]; omega
      · obtain ⟨e1, e2⟩ := drop_miss (unhide htk) hlt (fun h => hd h.1)
        have E1 := hide e1
        have DD := hide (did_miss (unhide hdid) (unhide HP) hlt e2)
        have hl0 : ¬ 0 < la := by omega
        have hl0' : decide (0 < la) = false := by simp; omega
        generalize P.getD q 0 = k at cp hkN hkk ck
        clear hblk e1 e2 hm hdid d0 f0
        go_wp2_with fail
        go_quiet (fail)
        generalize hwq : wr.drewN _ = wq
        have hb : Below wr.heap.size wr wq := by rw [← hwq]; exact unhide HBQ _
        have HROW := hide ((unhide hrow).below hb htl)
        have HGB := hide (gb_trans (unhide hgb) (gb_below (r := some tb) hb (Nat.le_refl _)))
        clear hb hwq hrow hgb cp ck
        go_wp2
        go_roundw
        case rel => exact ⟨q + 1, d, _, _, _, _, by omega, by go_num, rfl, by omega, by omega, hnum, hpa, E1, HROW, HGB, DD⟩
        case measure => simp [intOf]; omega
    · obtain rfl : q = P.length := by omega
      have hm := unhide hnum
      have ht := unhide htk
      rw [List.take_length] at ht
      clear hblk
      by_cases h0 : la = 0
      · have hE : Hid (decide (tk ks P its = []) = true) := by
          show decide _ = true
          rw [← ht, List.drop_eq_nil_of_le (by omega)]; rfl
        subst h0
        clear ht hm
        go_wp2
        go_ret
        exact ⟨F', by rw [unhide hE]; rfl, unhide hrow, unhide hgb, unhide hdid⟩
      · have hE : Hid (decide (tk ks P its = []) = false) := by
          show decide _ = false
          rw [← ht, decide_eq_false_iff_not, List.drop_eq_nil_iff]; omega
        have h0' : ((la : Int) == 0) = false := by simp; omega
        clear ht hm
        go_wp2
        go_ret
        exact ⟨F', by rw [unhide hE]; first | rfl | simp [h0, h0'], unhide hrow, unhide hgb, unhide hdid⟩
end Merge
end Go.Proofs.YtghckjmpcokhcaaGreatDoor
