/-
  The contract of the law files' markText, for every number from 1 on.
-/
import Derived.Test.YtghckjmpcokhcaaDoorMarkP
import Derived.Test.YtghckjmpcokhcaaDoorRows
namespace Go.Proofs.YtghckjmpcokhcaaDoor
namespace Marks
open Go.RowKit Base NumText
set_option linter.unusedVariables false

theorem dig_step (K k : Nat) (out : List UInt8) (hk : 0 < k) (h : Lib.decDigits K = Lib.decDigits k ++ out) :
    (10 ≤ k → Lib.decDigits K = Lib.decDigits (k / 10) ++ (UInt8.ofNat (48 + k % 10) :: out)) ∧ (k < 10 → Lib.decDigits K = UInt8.ofNat (48 + k % 10) :: out) := by
  constructor
  · intro h10
    rw [h, Lib.decDigits, dif_neg (by omega)]
    simp
  · intro h10
    rw [h, Lib.decDigits, dif_pos h10, Nat.mod_eq_of_lt h10]
    simp

theorem len_eq (b : ByteArray) : b.size = b.data.toList.length := by simp
theorem out_step (K : Nat) (hK : K < 18446744073709551616) (k : Int) (out : ByteArray) (hk : 0 < k) (h : (0 < k → Lib.decDigits K = Lib.decDigits k.toNat ++ out.data.toList) ∧ (k = 0 → Lib.decDigits K = out.data.toList)) :
    ((⟨#[UInt8.ofNat (48 + k % 10).toNat]⟩ : ByteArray) ++ out).size ≤ 20 ∧
    ((0 < k / 10 → Lib.decDigits K = Lib.decDigits (k / 10).toNat ++ ((⟨#[UInt8.ofNat (48 + k % 10).toNat]⟩ : ByteArray) ++ out).data.toList) ∧ (k / 10 = 0 → Lib.decDigits K = ((⟨#[UInt8.ofNat (48 + k % 10).toNat]⟩ : ByteArray) ++ out).data.toList)) := by
  have h2 := dig_step K k.toNat out.data.toList (by omega) (h.1 hk)
  have ec : UInt8.ofNat (48 + k % 10).toNat = UInt8.ofNat (48 + k.toNat % 10) := by rw [show (48 + k % 10).toNat = 48 + k.toNat % 10 by omega]
  have eo : ((⟨#[UInt8.ofNat (48 + k % 10).toNat]⟩ : ByteArray) ++ out).data.toList = UInt8.ofNat (48 + k.toNat % 10) :: out.data.toList := by rw [ec]; simp
  have hlen : (Lib.decDigits K).length ≤ 20 := by
    have := Lib.nDigits_le20 K hK
    rw [Lib.decDigits_eq]; simpa using this
  have esz := len_eq ((⟨#[UInt8.ofNat (48 + k % 10).toNat]⟩ : ByteArray) ++ out)
  refine ⟨?_, ?_, ?_⟩
  · rw [esz, eo]
    by_cases h10 : k.toNat < 10
    · rw [h2.2 h10] at hlen; exact hlen
    · rw [h2.1 (by omega)] at hlen
      simp only [List.length_append] at hlen
      omega
  · intro hp
    rw [eo, show (k / 10).toNat = k.toNat / 10 by omega]
    exact h2.1 (by omega)
  · intro hz
    rw [eo]
    exact h2.2 (by omega)

set_option maxRecDepth 10000 in
set_option maxHeartbeats 1000000 in
theorem text_any (K : Int) (w : World) (h0 : 0 < K) (h1 : K < 9223372036854775808) :
    Calls Tryd.prog 12 #[.int .i64 K] w fun e w' => e = .returned (.string (mtxt K.toNat)) ∧ Below w.heap.size w w' := by
  have hK : ¬ K ≤ 0 := by omega
  go_enter Tryd.func12, Tryd.ntmps12
  go_wp2
  go_loopw [0, 3] (fun kv ov wr => ∃ (k : Int) (out : ByteArray), 0 ≤ k ∧ k < 9223372036854775808 ∧ out.size ≤ 20 ∧ kv = .int .i64 k ∧ ov = .string out ∧
      Hid ((0 < k → Lib.decDigits K.toNat = Lib.decDigits k.toNat ++ out.data.toList) ∧ (k = 0 → Lib.decDigits K.toNat = out.data.toList)) ∧ Hid (Below w.heap.size w wr)) (fun kv _ _ => (intOf kv).toNat)
  case atStart => exact ⟨K, ⟨#[]⟩, by omega, h1, by decide, rfl, rfl, hide ⟨fun _ => by simp, fun h => by omega⟩, hide (Below.refl _ _)⟩
  case round =>
    obtain ⟨k, out, hk0, hk1, hos, rfl, rfl, hd, hbel⟩ := hrel
    by_cases hp : 0 < k
    · have hcv := conv1 (P := Tryd.prog) 43 9 5 (48 + k % 10) (by omega) (by omega) Tryd.underlying43 Tryd.underlying5 Tryd.underlying9
      have hzb := (unhide hbel).size
      have HO := hide (out_step K.toNat (by omega) k out hp (unhide hd))
      go_wp2
      go_roundw
      case rel => exact ⟨k / 10, _, by omega, by omega, (unhide HO).1, rfl, rfl, hide (unhide HO).2, hide ((unhide hbel).alloc hzb _)⟩
      case measure => simp [intOf]; omega
    · have HT : Hid ((⟨#[109]⟩ : ByteArray) ++ out = mtxt K.toNat) := by
        show _ = mtxt K.toNat
        unfold mtxt
        congr 1
        apply Go.WideShapes.bytes_inj
        have h := (unhide hd).2 (by omega)
        rw [← h]
        simp [txt]
      go_wp2
      go_ret
      exact ⟨ret_str (unhide HT), unhide hbel⟩
end Marks
end Go.Proofs.YtghckjmpcokhcaaDoor
