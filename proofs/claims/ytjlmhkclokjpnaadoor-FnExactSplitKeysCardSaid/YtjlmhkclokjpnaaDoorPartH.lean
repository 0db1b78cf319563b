/-
  Contracts of the law files' helpers over parts: eqPart, eqPartS, markPartS, heldPartS.
-/
import Derived.Test.YtjlmhkclokjpnaaDoorPartZ
import Derived.Test.YtjlmhkclokjpnaaDoorStrZ
import Derived.Test.YtjlmhkclokjpnaaDoorStringZ
import Derived.Deep.RegionWith
import Derived.BigQuiet
namespace Go.Proofs.YtjlmhkclokjpnaaDoor
namespace Parts
open Go.RowKit Base Marks
set_option linter.unusedVariables false

theorem strs_of {w : World} {g n : Nat} {ks : List ByteArray} (h : RowAt w g 9 ks.length (StringsW.scell ks)) : StrsAt w (some ⟨g, 0, none⟩) ks := by
  intro _
  exact ⟨g, 0, rfl, h.lt, fun i hi => by rw [Nat.zero_add]; exact h.cell hi⟩

set_option maxRecDepth 10000 in
set_option maxHeartbeats 1000000 in
theorem eqPart_same (x y : Pt) (w : World) (hn : x.node = y.node) (hk : x.ks = y.ks) (hx : StrsAt w (some ⟨x.g, 0, none⟩) x.ks) (hy : StrsAt w (some ⟨y.g, 0, none⟩) y.ks) (hl : x.ks.length ≤ maxLen) :
    Calls Tryd.prog 38 #[.agg #[.string x.node, .slice (some ⟨x.g, 0, none⟩) x.ks.length x.cap], .agg #[.string y.node, .slice (some ⟨y.g, 0, none⟩) y.ks.length y.cap]] w fun e w' => e = .returned (.bool true) ∧ Below w.heap.size w w' := by
  obtain ⟨xn, xg, xc, xk⟩ := x
  obtain ⟨yn, yg, yc, yk⟩ := y
  dsimp only at hn hk hx hy hl ⊢
  subst hn hk
  have HE := hide (fun w' (h : Below w.heap.size w w') => Strs.eq_bel (some ⟨xg, 0, none⟩) xc xk (some ⟨yg, 0, none⟩) yc w' (hx.below h (Nat.le_refl _)) (hy.below h (Nat.le_refl _)) hl)
  clear hx hy
  go_enter Tryd.func38, Tryd.ntmps38
  go_wp2_with fail
  refine (unhide HE _ (bel2 w _ _)).mono ?_
  rintro e w1 ⟨rfl, hb1⟩
  have hb1 := hide ((bel2 w _ _).trans (hb1.mono (by simp; omega)))
  go_wp2
  go_ret
  exact ⟨rfl, unhide hb1⟩

set_option maxRecDepth 10000 in
set_option maxHeartbeats 1000000 in
theorem eqs_same (a a' : Option Addr) (cap cap' n : Nat) (p q : Nat → Pt) (w : World) (hp : RdA w a n p) (hq : RdA w a' n q) (hco : ∀ i, i < n → (p i).node = (q i).node ∧ (p i).ks = (q i).ks) (hn : n ≤ 60) (hl : ∀ i, i < n → (p i).ks.length ≤ 60) :
    Calls Tryd.prog 12 #[.slice a n cap, .slice a' n cap'] w fun e w' => e = .returned (.bool true) ∧ Below w.heap.size w w' := by
  by_cases h0 : n = 0
  · subst h0
    clear hp hq hco hl
    go_enter Tryd.func12, Tryd.ntmps12
    go_wp2
    go_loopw [5] (fun i wr => i = .int .i64 0 ∧ Hid (Below w.heap.size w wr)) (fun _ _ => 0)
    case atStart => exact ⟨rfl, hide (Below.refl _ _)⟩
    case round =>
      obtain ⟨rfl, hbel⟩ := hrel
      go_wp2
      go_ret
      exact ⟨rfl, unhide hbel⟩
  obtain ⟨g, rfl, hg⟩ := hp.resolve_left h0
  obtain ⟨g', rfl, hg'⟩ := hq.resolve_left h0
  have HP := hide hg
  have HQ := hide hg'
  have HCO := hide hco
  have HL := hide hl
  clear hp hq hco hg hg' hl
  go_enter Tryd.func12, Tryd.ntmps12
  go_wp2
  go_loopw [5] (fun i wr => ∃ k : Nat, k ≤ n ∧ i = .int .i64 k ∧ Hid (Below w.heap.size w wr)) (fun i _ => n - (intOf i).toNat)
  case atStart => exact ⟨0, Nat.zero_le _, rfl, hide (Below.refl _ _)⟩
  case round =>
    obtain ⟨k, hk, rfl, hbel⟩ := hrel
    by_cases hlt : k < n
    · have r1 := (unhide HP).below (unhide hbel)
      have r2 := (unhide HQ).below (unhide hbel)
      have c0 : wr.cell? ⟨g, k * 2, none⟩ = some (.string (p k).node) := by rw [r1.1.cell (by omega), pc0]
      have c1 : wr.cell? ⟨g, k * 2 + 1, none⟩ = some (.slice (some ⟨(p k).g, 0, none⟩) (p k).ks.length (p k).cap) := by rw [r1.1.cell (by omega), pc1]
      have d0 : wr.cell? ⟨g', k * 2, none⟩ = some (.string (q k).node) := by rw [r2.1.cell (by omega), pc0]
      have d1 : wr.cell? ⟨g', k * 2 + 1, none⟩ = some (.slice (some ⟨(q k).g, 0, none⟩) (q k).ks.length (q k).cap) := by rw [r2.1.cell (by omega), pc1]
      have hk1 := r1.1.lt
      have hk2 := r2.1.lt
      have hs1 := strs_of (n := n) (r1.2 k hlt)
      have hs2 := strs_of (n := n) (r2.2 k hlt)
      have hco := unhide HCO k hlt
      have hll := unhide HL k hlt
      have hcal := hide (eqPart_same (p k) (q k) wr.drew hco.1 hco.2 (hs1.below ((Below.refl _ _).drew) (Nat.le_refl _)) (hs2.below ((Below.refl _ _).drew) (Nat.le_refl _)) (by unfold maxLen; omega))
      generalize p k = x at c0 c1 hcal hll
      generalize q k = y at d0 d1 hcal
      clear r1 r2 hs1 hs2 hco
      go_wp2
      go_region_with (go_at_call 38; refine (unhide hcal).mono ?_; rintro e w1 ⟨rfl, hb1⟩; have hb1 := hide hb1)
      all_goals
        go_wp2
        go_roundw
        case rel => exact ⟨k + 1, by omega, by go_num, hide ((unhide hbel).drew.trans ((unhide hb1).mono (unhide hbel).size))⟩
        case measure => simp [intOf]; omega
    · go_wp2
      go_ret
      exact ⟨rfl, unhide hbel⟩

set_option maxRecDepth 10000 in
set_option maxHeartbeats 2000000 in
theorem marks_any (B : Nat) (a : Option Addr) (cap n : Nat) (p : Nat → Pt) (k : Int) (w : World) (ho : OwnA w B a n p) (hB : B ≤ w.heap.size) (hk0 : 0 < k) (hk1 : k ≤ 1000000) (hn : n ≤ 60) (hl : ∀ i, i < n → (p i).ks.length ≤ 60) :
    Calls Tryd.prog 17 #[.slice a n cap, .int .i64 k] w fun e w' => e = .returned (.int .i64 (kAt p k n)) ∧ OwnA w' B a n (markAt p k) ∧ Below B w w' := by
  by_cases h0 : n = 0
  · subst h0
    clear ho hl
    go_enter Tryd.func17, Tryd.ntmps17
    go_wp2
    go_loopw [1, 5] (fun kv i wr => i = .int .i64 0 ∧ kv = .int .i64 k ∧ Hid (w = wr)) (fun _ _ _ => 0)
    case atStart => exact ⟨rfl, rfl, hide rfl⟩
    case round =>
      obtain ⟨rfl, rfl, hw⟩ := hrel
      have hw' := unhide hw
      subst hw'
      go_wp2
      go_ret
      exact ⟨ret_int rfl, .inl rfl, Below.refl _ _⟩
  obtain ⟨g, rfl, hg, hap⟩ := ho.resolve_left h0
  have HG := hide hg
  have HAP := hide hap
  have HBD := hide (kAt_bd p k n hl)
  have HL := hide hl
  clear ho hl hg hap
  go_enter Tryd.func17, Tryd.ntmps17
  go_wp2
  go_loopw [1, 5] (fun kv iv wr => ∃ (i : Nat) (z : Int), i ≤ n ∧ 0 < z ∧ z ≤ 1000000 + 61 * i ∧ iv = .int .i64 i ∧ kv = .int .i64 z ∧ Hid (z = kAt p k i) ∧ Hid (Rd wr g n (mix p k i)) ∧ Hid (Below B w wr)) (fun _ iv _ => n - (intOf iv).toNat)
  case atStart => exact ⟨0, k, Nat.zero_le _, hk0, by omega, rfl, rfl, hide rfl, hide (unhide HG), hide (Below.refl _ _)⟩
  case round =>
    obtain ⟨i, z, hi, hz0, hz1, rfl, rfl, hz, hrd, hbel⟩ := hrel
    by_cases hlt : i < n
    · have T0 := hide (fun w => text_any z w hz0 (by omega))
      have hbd := unhide HBD (i + 1) (by omega)
      have hks := unhide HL i hlt
      have hgi := (unhide HAP).2.1 i hlt
      have hstep := hide (fun w' w1 w2 => @mix_step w' w1 w2 g n p k i B hlt)
      have hnext : Hid (z + 1 + (p i).ks.length = kAt p k (i + 1)) := by show _ = kAt p k i + 1 + _; rw [unhide hz]
      have hgB := (unhide HAP).1
      rw [← unhide hz] at hstep
      have hM := hide (fun w' (h : RowAt w' (p i).g 9 (p i).ks.length (StringsW.scell (p i).ks)) => StringsM.row_mark (p i).g (p i).cap (p i).ks.length (StringsW.scell (p i).ks) (z + 1) w' h (by omega) (by omega) (by omega))
      go_wp2_with fail
      refine (unhide T0 _).mono ?_
      rintro e w1 ⟨rfl, hb1⟩
      have r1 := (unhide hrd).below hb1
      have hB1 := hide ((unhide hbel).trans (hb1.mono (Nat.le_trans hB (unhide hbel).size)))
      have d0 : w1.cell? ⟨g, i * 2, none⟩ = some (.string (p i).node) := by rw [r1.1.cell (by omega), pc0, mix_ge (by omega)]
      have d1 : w1.cell? ⟨g, i * 2 + 1, none⟩ = some (.slice (some ⟨(p i).g, 0, none⟩) (p i).ks.length (p i).cap) := by rw [r1.1.cell (by omega), pc1, mix_ge (by omega)]
      have f0 := r1.1.frozen (i * 2)
      have hk2 : RowAt w1 (p i).g 9 (p i).ks.length (StringsW.scell (p i).ks) := by
        have := r1.2 i hlt
        rw [mix_ge (by omega)] at this; exact this
      have hk3 := hide (hk2.of_block (Below.heap_setCell w1 ⟨g, i * 2, none⟩ (.string (mtxt z.toNat)) (p i).g hgi.2))
      have d2 : (w1.setCell ⟨g, i * 2, none⟩ (.string (mtxt z.toNat))).cell? ⟨g, i * 2 + 1, none⟩ = some (.slice (some ⟨(p i).g, 0, none⟩) (p i).ks.length (p i).cap) := by
        rw [World.cell?_setCell_other _ _ _ _ (by simp)]; exact d1
      have hB2 := hide ((unhide hB1).setCell (p := ⟨g, i * 2, none⟩) hgB (.string (mtxt z.toNat)))
      have R1 := hide r1
      have hglt := r1.1.lt
      have hszz : (w1.setCell ⟨g, i * 2, none⟩ (.string (mtxt z.toNat))).heap.size = w1.heap.size := by simp [World.setCell]
      clear r1 hb1 hk2
      generalize (p i).ks.length = kl at d1 d2 hk3 hM hnext hks hstep
      generalize hgp : (p i).g = gp at d1 d2 hk3 hM hgi hstep
      generalize (p i).cap = cp at d1 d2 hM
      generalize (p i).node = nd at d0
      clear hgp
      have n1 : IntKind.i64.wrap (z + 1) = z + 1 := by rw [IntKind.wrap_i64]; omega
      go_wp2_with fail
      obtain ⟨wv, hwv⟩ : ∃ wv, wv = w1.setCell ⟨g, i * 2, none⟩ (.string (mtxt z.toNat)) := ⟨_, rfl⟩
      rw [← hwv] at hk3 hB2 hszz d2 ⊢
      have HWV := hide hwv
      clear hwv d0 d1 f0
      refine (unhide hM _ (unhide hk3)).mono ?_
      rintro e w3 ⟨rfl, hr3, hg3⟩
      have R3 := hide (unhide hstep w1 wv w3 (unhide R1) (unhide HAP) (unhide HWV) hr3 hg3)
      have hB3 := hide (below_gb (unhide hB2) hg3 (Nat.le_trans hB (unhide hB2).size) hgi.1)
      clear hr3 hg3
      go_wp2
      go_roundw
      case rel => exact ⟨i + 1, z + 1 + kl, by omega, by omega, by have := unhide hz; omega, by go_num, rfl, hnext, R3, hB3⟩
      case measure => simp [intOf]; omega
    · obtain rfl : i = n := by omega
      have HZ := hide (unhide hz)
      go_wp2
      go_ret
      refine ⟨ret_int (unhide HZ), .inr ⟨g, rfl, ?_, ?_⟩, unhide hbel⟩
      · have h := unhide hrd
        refine ⟨h.1.congr (fun j hj => ?_), fun j hj => ?_⟩
        · unfold pcell; rw [mix_lt (by omega)]
        · have := h.2 j hj; rw [mix_lt hj] at this; exact this
      · have := apart_mix (unhide HAP) k i
        exact unhide HAP

set_option maxRecDepth 10000 in
set_option maxHeartbeats 2000000 in
theorem held_any (B : Nat) (a : Option Addr) (cap n : Nat) (p : Nat → Pt) (k : Int) (w : World) (ho : OwnA w B a n (markAt p k)) (hk0 : 0 < k) (hk1 : k ≤ 1000000) (hn : n ≤ 60) (hl : ∀ i, i < n → (p i).ks.length ≤ 60) :
    Calls Tryd.prog 18 #[.slice a n cap, .int .i64 k] w fun e w' => e = .returned (.int .i64 (kAt p k n)) ∧ Below w.heap.size w w' := by
  by_cases h0 : n = 0
  · subst h0
    clear ho hl
    go_enter Tryd.func18, Tryd.ntmps18
    go_wp2
    go_loopw [1, 5] (fun kv i wr => i = .int .i64 0 ∧ kv = .int .i64 k ∧ Hid (Below w.heap.size w wr)) (fun _ _ _ => 0)
    case atStart => exact ⟨rfl, rfl, hide (Below.refl _ _)⟩
    case round =>
      obtain ⟨rfl, rfl, hbel⟩ := hrel
      go_wp2
      go_ret
      exact ⟨ret_int rfl, unhide hbel⟩
  obtain ⟨g, rfl, hg, hap⟩ := ho.resolve_left h0
  have HG := hide hg
  have HBD := hide (kAt_bd p k n hl)
  have HL := hide hl
  clear ho hl hg hap
  go_enter Tryd.func18, Tryd.ntmps18
  go_wp2
  go_loopw [1, 5] (fun kv iv wr => ∃ (i : Nat) (z : Int), i ≤ n ∧ 0 < z ∧ z ≤ 1000000 + 61 * i ∧ iv = .int .i64 i ∧ kv = .int .i64 z ∧ Hid (z = kAt p k i) ∧ Hid (Below w.heap.size w wr)) (fun _ iv _ => n - (intOf iv).toNat)
  case atStart => exact ⟨0, k, Nat.zero_le _, hk0, by omega, rfl, rfl, hide rfl, hide (Below.refl _ _)⟩
  case round =>
    obtain ⟨i, z, hi, hz0, hz1, rfl, rfl, hz, hbel⟩ := hrel
    by_cases hlt : i < n
    · have T0 := hide (fun w => text_any z w hz0 (by omega))
      have hks := unhide HL i hlt
      have hnext : Hid (z + 1 + (p i).ks.length = kAt p k (i + 1)) := by show _ = kAt p k i + 1 + _; rw [unhide hz]
      have r1 := (unhide HG).below (unhide hbel)
      have c0 : wr.cell? ⟨g, i * 2, none⟩ = some (.string (mtxt z.toNat)) := by rw [r1.1.cell (by omega), pc0, unhide hz]; rfl
      have c1 : wr.cell? ⟨g, i * 2 + 1, none⟩ = some (.slice (some ⟨(p i).g, 0, none⟩) (p i).ks.length (p i).cap) := by rw [r1.1.cell (by omega), pc1, markAt_len]; rfl
      have hrow : Hid (RowAt wr (p i).g 9 (p i).ks.length (StringsM.mcell (z + 1))) := by
        have := r1.2 i hlt
        rw [markAt_len] at this
        rw [unhide hz]
        exact this.congr (fun j hj => (markAt_cell p k i j hj).symm)
      have hglt := r1.1.lt
      have hM := hide (fun w' (h : RowAt w' (p i).g 9 (p i).ks.length (StringsM.mcell (z + 1))) => StringsM.row_held (p i).g (p i).cap (p i).ks.length (z + 1) w' h (by omega) (by omega) (by omega))
      generalize (p i).ks.length = kl at c1 hrow hM hnext hks
      generalize (p i).g = gp at c1 hrow hM
      generalize (p i).cap = cp at c1 hM
      clear r1
      have n1 : IntKind.i64.wrap (z + 1) = z + 1 := by rw [IntKind.wrap_i64]; omega
      go_wp2
      go_region_with (go_at_call 40; refine (unhide T0 _).mono ?_; rintro e w1 ⟨rfl, hb1⟩; have hc1 := fun o => hb1.cell (p := ⟨g, o, none⟩) hglt; have hb1 := hide hb1)
      all_goals
        have hrow1 := hide ((unhide hrow).below (Below.trans (Below.refl _ _).drew (unhide hb1)) (unhide hrow).lt)
        have hB1 := hide ((unhide hbel).drew.trans ((unhide hb1).mono (unhide hbel).size))
        go_wp2_with fail
        refine (unhide hM _ (unhide hrow1)).mono ?_
        rintro e w3 ⟨rfl, hb3⟩
        have hB3 := hide ((unhide hB1).trans (hb3.mono (unhide hB1).size))
        clear hb3
        have n2 : ¬ z + 1 + kl < 0 := by omega
        go_wp2
        go_roundw
        case rel => exact ⟨i + 1, z + 1 + kl, by omega, by omega, by omega, by go_num, rfl, hnext, hB3⟩
        case measure => simp [intOf]; omega
    · obtain rfl : i = n := by omega
      have HZ := hide (unhide hz)
      go_wp2
      go_ret
      exact ⟨ret_int (unhide HZ), unhide hbel⟩
end Parts
end Go.Proofs.YtjlmhkclokjpnaaDoor
