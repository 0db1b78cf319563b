/-
  The contract of the law files' markText, for every number from 1 on.
-/
import Derived.Test.YtjlmhkclokjpnaaDoorMarkZ
import Derived.Test.YtjlmhkclokjpnaaDoorRows
import Derived.Test.YtjlmhkclokjpnaaDoorStringV
import Derived.Deep.RegionWith
namespace Go.Proofs.YtjlmhkclokjpnaaDoor
namespace Marks
open Go.RowKit Base NumText
set_option linter.unusedVariables false

theorem dig_step (K k : Nat) (out : List UInt8) (hk : 0 < k) (h : Lib.decDigits K = Lib.decDigits k ++ out) :
    (10 ≤ k → Lib.decDigits K = Lib.decDigits (k / 10) ++ (UInt8.ofNat (48 + k % 10) :: out)) ∧ (k < 10 → Lib.decDigits K = UInt8.ofNat (48 + k % 10) :: out) := by
  constructor
  · intro h10
    rw [h, Lib.decDigits, dif_neg (by omega)]
    simp
  · intro h10
    rw [h, Lib.decDigits, dif_pos h10, Nat.mod_eq_of_lt h10]
    simp

theorem len_eq (b : ByteArray) : b.size = b.data.toList.length := by simp
theorem out_step (K : Nat) (hK : K < 18446744073709551616) (k : Int) (out : ByteArray) (hk : 0 < k) (h : (0 < k → Lib.decDigits K = Lib.decDigits k.toNat ++ out.data.toList) ∧ (k = 0 → Lib.decDigits K = out.data.toList)) :
    ((⟨#[UInt8.ofNat (48 + k % 10).toNat]⟩ : ByteArray) ++ out).size ≤ 20 ∧
    ((0 < k / 10 → Lib.decDigits K = Lib.decDigits (k / 10).toNat ++ ((⟨#[UInt8.ofNat (48 + k % 10).toNat]⟩ : ByteArray) ++ out).data.toList) ∧ (k / 10 = 0 → Lib.decDigits K = ((⟨#[UInt8.ofNat (48 + k % 10).toNat]⟩ : ByteArray) ++ out).data.toList)) := by
  have h2 := dig_step K k.toNat out.data.toList (by omega) (h.1 hk)
  have ec : UInt8.ofNat (48 + k % 10).toNat = UInt8.ofNat (48 + k.toNat % 10) := by rw [show (48 + k % 10).toNat = 48 + k.toNat % 10 by omega]
  have eo : ((⟨#[UInt8.ofNat (48 + k % 10).toNat]⟩ : ByteArray) ++ out).data.toList = UInt8.ofNat (48 + k.toNat % 10) :: out.data.toList := by rw [ec]; simp
  have hlen : (Lib.decDigits K).length ≤ 20 := by
    have := Lib.nDigits_le20 K hK
    rw [Lib.decDigits_eq]; simpa using this
  have esz := len_eq ((⟨#[UInt8.ofNat (48 + k % 10).toNat]⟩ : ByteArray) ++ out)
  refine ⟨?_, ?_, ?_⟩
  · rw [esz, eo]
    by_cases h10 : k.toNat < 10
    · rw [h2.2 h10] at hlen; exact hlen
    · rw [h2.1 (by omega)] at hlen
      simp only [List.length_append] at hlen
      omega
  · intro hp
    rw [eo, show (k / 10).toNat = k.toNat / 10 by omega]
    exact h2.1 (by omega)
  · intro hz
    rw [eo]
    exact h2.2 (by omega)

set_option maxRecDepth 10000 in
set_option maxHeartbeats 1000000 in
theorem text_any (K : Int) (w : World) (h0 : 0 < K) (h1 : K < 9223372036854775808) :
    Calls Tryd.prog 40 #[.int .i64 K] w fun e w' => e = .returned (.string (mtxt K.toNat)) ∧ Below w.heap.size w w' := by
  have hK : ¬ K ≤ 0 := by omega
  go_enter Tryd.func40, Tryd.ntmps40
  go_wp2
  go_loopw [0, 3] (fun kv ov wr => ∃ (k : Int) (out : ByteArray), 0 ≤ k ∧ k < 9223372036854775808 ∧ out.size ≤ 20 ∧ kv = .int .i64 k ∧ ov = .string out ∧
      Hid ((0 < k → Lib.decDigits K.toNat = Lib.decDigits k.toNat ++ out.data.toList) ∧ (k = 0 → Lib.decDigits K.toNat = out.data.toList)) ∧ Hid (Below w.heap.size w wr)) (fun kv _ _ => (intOf kv).toNat)
  case atStart => exact ⟨K, ⟨#[]⟩, by omega, h1, by decide, rfl, rfl, hide ⟨fun _ => by simp, fun h => by omega⟩, hide (Below.refl _ _)⟩
  case round =>
    obtain ⟨k, out, hk0, hk1, hos, rfl, rfl, hd, hbel⟩ := hrel
    by_cases hp : 0 < k
    · have hcv := conv1 (P := Tryd.prog) 81 9 5 (48 + k % 10) (by omega) (by omega) Tryd.underlying81 Tryd.underlying5 Tryd.underlying9
      have hzb := (unhide hbel).size
      have HO := hide (out_step K.toNat (by omega) k out hp (unhide hd))
      go_wp2
      go_roundw
      case rel => exact ⟨k / 10, _, by omega, by omega, (unhide HO).1, rfl, rfl, hide (unhide HO).2, hide ((unhide hbel).alloc hzb _)⟩
      case measure => simp [intOf]; omega
    · have HT : Hid ((⟨#[109]⟩ : ByteArray) ++ out = mtxt K.toNat) := by
        show _ = mtxt K.toNat
        unfold mtxt
        congr 1
        apply Go.WideShapes.bytes_inj
        have h := (unhide hd).2 (by omega)
        rw [← h]
        simp [txt]
      go_wp2
      go_ret
      exact ⟨ret_str (unhide HT), unhide hbel⟩
end Marks
end Go.Proofs.YtjlmhkclokjpnaaDoor
/-
  Contracts of the law files' markStringS: the marks are written into a row (written by a program of mine).
-/
namespace Go.Proofs.YtjlmhkclokjpnaaDoor
namespace StringsM
open Go.RowKit Base NumText Marks
set_option linter.unusedVariables false

set_option maxRecDepth 10000 in
set_option maxHeartbeats 2000000 in
theorem row_mark (g cap n : Nat) (f : Nat → Value) (k : Int) (w : World) (hr : RowAt w g 9 (n) f) (hk0 : 0 < k) (hk1 : k ≤ 1000000000000) (hn : n ≤ 1000000000) :
    Calls Tryd.prog 16 #[.slice (some ⟨g, 0, none⟩) n cap, .int .i64 k] w fun e w' =>
      e = .returned (.int .i64 (k + n)) ∧ RowAt w' g 9 (n) (mcell k) ∧ w.grownBy w' (some g) := by
  have HR := hide hr
  clear hr
  go_enter Tryd.func16, Tryd.ntmps16
  go_wp2
  go_loopw [1, 5] (fun kv iv wr => ∃ (i : Nat) (z : Int), i ≤ n ∧ 0 < z ∧ z ≤ 1000000000000 + n ∧ iv = .int .i64 i ∧ kv = .int .i64 z ∧ Hid (z = k + i) ∧ Hid (RowAt wr g 9 (n) (mhalf f k i)) ∧ Hid (w.grownBy wr (some g))) (fun _ iv _ => n - (intOf iv).toNat)
  case atStart => exact ⟨0, k, Nat.zero_le _, hk0, by omega, rfl, rfl, hide (by simp), hide ((unhide HR).congr (fun j _ => by simp [mhalf])), hide (gb_refl _ _)⟩
  case round =>
    obtain ⟨i, z, hi, hz0, hz1, rfl, rfl, hz, hrow, hgb⟩ := hrel
    by_cases hlt : i < n
    · have hzn : z + 1 ≤ 1000000000000 + n := by have := unhide hz; omega
      have T0 := hide (fun w => text_any (z) w (by omega) (by omega))
      have hst := hide (fun j => mhalf_step f k i j)
      rw [← unhide hz] at hst
      go_wp2_with fail
      refine (unhide T0 _).mono ?_
      rintro e w1 ⟨rfl, hb1⟩
      have r1 := (unhide hrow).below hb1 (unhide hrow).lt
      have G1 := hide (gb_trans (unhide hgb) (gb_below (r := some g) hb1 (Nat.le_refl _)))
      have d0 := r1.cell (i := i) (by omega)
      have f0 := r1.frozen (i)
      generalize (mhalf f k i (i)) = o0 at d0
      have R1 := hide r1
      clear r1 hb1
      have RE := hide ((unhide R1).set (i) (.string (mtxt (z).toNat)))
      have GE := hide (gb_set (unhide G1) (i) (.string (mtxt (z).toNat)))
      go_wp2
      go_roundw
      case rel => exact ⟨i + 1, z + 1, by omega, by omega, by omega, by go_num, rfl, hide (by have := unhide hz; omega), hide ((unhide RE).congr (fun j _ => unhide hst j)), GE⟩
      case measure => simp [intOf]; omega
    · obtain rfl : i = n := by omega
      have HZ := hide (unhide hz)
      go_wp2
      go_ret
      exact ⟨ret_int (unhide HZ), (unhide hrow).congr (fun j hj => by unfold mhalf; rw [if_pos hj]), unhide hgb⟩

set_option maxHeartbeats 400000 in
theorem mark_any (a : Option Addr) (cap n : Nat) (f : Nat → Value) (r : Option Nat) (k : Int) (w : World) (hr : Ours w a n f r) (hk0 : 0 < k) (hk1 : k ≤ 1000000000000) (hn : n ≤ 1000000000) :
    Calls Tryd.prog 16 #[.slice a n cap, .int .i64 k] w fun e w' => e = .returned (.int .i64 (k + n)) ∧ Ours w' a n (mcell k) r ∧ w.grownBy w' r := by
  rcases hr with ⟨h0, hr0⟩ | ⟨g, rfl, rfl, h⟩
  · subst h0 hr0
    go_enter Tryd.func16, Tryd.ntmps16
    go_wp2
    go_loop [1, 5] (fun kv i => i = .int .i64 0 ∧ kv = .int .i64 k) (fun _ _ => 0)
    case atStart => exact ⟨rfl, rfl⟩
    case round =>
      obtain ⟨rfl, rfl⟩ := hrel
      go_wp2
      go_ret
      exact ⟨ret_int (by simp), .inl ⟨rfl, rfl⟩, gb_refl _ _⟩
  · exact (row_mark g cap n f k w h hk0 hk1 hn).mono fun e w' ⟨he, h1, h2⟩ => ⟨he, .inr ⟨g, rfl, rfl, h1⟩, h2⟩
end StringsM
end Go.Proofs.YtjlmhkclokjpnaaDoor
/-
  The contract of the law files' heldStringS: the marks of a row are read again (written by a program of mine).
-/
namespace Go.Proofs.YtjlmhkclokjpnaaDoor
namespace StringsM
open Go.RowKit Base NumText Marks
set_option linter.unusedVariables false

set_option maxRecDepth 10000 in
set_option maxHeartbeats 2000000 in
theorem row_held (g cap n : Nat) (k : Int) (w : World) (hr : RowAt w g 9 (n) (mcell k)) (hk0 : 0 < k) (hk1 : k ≤ 1000000000000) (hn : n ≤ 1000000000) :
    Calls Tryd.prog 41 #[.slice (some ⟨g, 0, none⟩) n cap, .int .i64 k] w fun e w' => e = .returned (.int .i64 (k + n)) ∧ Below w.heap.size w w' := by
  have HR := hide hr
  clear hr
  go_enter Tryd.func41, Tryd.ntmps41
  go_wp2
  go_loopw [1, 5] (fun kv iv wr => ∃ (i : Nat) (z : Int), i ≤ n ∧ 0 < z ∧ z ≤ 1000000000000 + n ∧ iv = .int .i64 i ∧ kv = .int .i64 z ∧ Hid (z = k + i) ∧ Hid (Below w.heap.size w wr)) (fun _ iv _ => n - (intOf iv).toNat)
  case atStart => exact ⟨0, k, Nat.zero_le _, hk0, by omega, rfl, rfl, hide (by simp), hide (Below.refl _ _)⟩
  case round =>
    obtain ⟨i, z, hi, hz0, hz1, rfl, rfl, hz, hbel⟩ := hrel
    by_cases hlt : i < n
    · have hzn : z + 1 ≤ 1000000000000 + n := by have := unhide hz; omega
      have T0 := hide (fun w => text_any (z) w (by omega) (by omega))
      have hzz := unhide hz
      have row := (unhide HR).below (unhide hbel) (unhide HR).lt
      have c0 : wr.cell? ⟨g, i, none⟩ = some (.string (mtxt (z).toNat)) := by rw [row.cell (by omega), mc0 k (i) (by omega), show k + ((i : Nat) : Int) = z by omega]
      have hglt : g < wr.heap.size := row.lt
      clear row hzz
      go_wp2
      go_region_with (go_at_call 40; refine (unhide T0 _).mono ?_; rintro e w1 ⟨rfl, hb1⟩; have hc1 := fun o => hb1.cell (p := ⟨g, o, none⟩) hglt; have hb1 := hide hb1)
      all_goals
        go_wp2
        go_roundw
        case rel => exact ⟨i + 1, z + 1, by omega, by omega, by omega, by go_num, rfl, hide (by have := unhide hz; omega), hide ((unhide hbel).drew.trans ((unhide hb1).mono (unhide hbel).size))⟩
        case measure => simp [intOf]; omega
    · obtain rfl : i = n := by omega
      have HZ := hide (unhide hz)
      go_wp2
      go_ret
      exact ⟨ret_int (unhide HZ), unhide hbel⟩

set_option maxHeartbeats 400000 in
theorem held_any (a : Option Addr) (cap n : Nat) (r : Option Nat) (k : Int) (w : World) (hr : Ours w a n (mcell k) r) (hk0 : 0 < k) (hk1 : k ≤ 1000000000000) (hn : n ≤ 1000000000) :
    Calls Tryd.prog 41 #[.slice a n cap, .int .i64 k] w fun e w' => e = .returned (.int .i64 (k + n)) ∧ Below w.heap.size w w' := by
  rcases hr with ⟨h0, hr0⟩ | ⟨g, rfl, rfl, h⟩
  · subst h0 hr0
    go_enter Tryd.func41, Tryd.ntmps41
    go_wp2
    go_loop [1, 5] (fun kv i => i = .int .i64 0 ∧ kv = .int .i64 k) (fun _ _ => 0)
    case atStart => exact ⟨rfl, rfl⟩
    case round =>
      obtain ⟨rfl, rfl⟩ := hrel
      go_wp2
      go_ret
      exact ⟨ret_int (by simp), Below.refl _ _⟩
  · exact row_held g cap n k w h hk0 hk1 hn
end StringsM
end Go.Proofs.YtjlmhkclokjpnaaDoor
