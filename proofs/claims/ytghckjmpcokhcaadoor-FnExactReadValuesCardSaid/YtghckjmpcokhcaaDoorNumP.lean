/-
  The decimal digits of a number, as plain data. No Go function is spoken of here.
-/
import Derived.Test.YtghckjmpcokhcaaDoorBase
import Derived.Lib.ItoaNum
import Derived.Lib.ItoaLen
namespace Go.Proofs.YtghckjmpcokhcaaDoor
namespace NumText
open Go.RowKit Base
set_option linter.unusedVariables false

def txt (n : Nat) : ByteArray := ⟨(Lib.decDigits n).toArray⟩

theorem txt_0 : (txt 0).size = 1 := by
  unfold txt
  rw [Lib.decDigits, dif_pos (by omega)]
  rfl
theorem txt_small (n : Int) (h0 : 0 ≤ n) (h : n < 10) : (⟨#[UInt8.ofNat (48 + n).toNat]⟩ : ByteArray) = txt n.toNat := by
  unfold txt
  rw [Lib.decDigits, dif_pos (by omega), show (48 + n).toNat = 48 + n.toNat by omega]

theorem quo10 (n : Int) (h0 : 10 ≤ n) (h : n < 9223372036854775808) : IntKind.i64.wrap (n.tdiv 10) = n / 10 := by
  rw [IntKind.wrap_i64, Int.tdiv_eq_ediv_of_nonneg (by omega)]
  omega
theorem rem10 (n : Int) (h0 : 10 ≤ n) (h : n < 9223372036854775808) : IntKind.u8.wrap (IntKind.i64.wrap (48 + n.tmod 10)) = 48 + n % 10 := by
  rw [Int.tmod_eq_emod_of_nonneg (by omega), IntKind.wrap_i64, IntKind.wrap_u8]
  omega
theorem txt_step (n : Int) (h0 : 10 ≤ n) : txt (n / 10).toNat ++ (⟨#[UInt8.ofNat (48 + n % 10).toNat]⟩ : ByteArray) = txt n.toNat := by
  unfold txt
  have e : Lib.decDigits n.toNat = Lib.decDigits (n.toNat / 10) ++ [UInt8.ofNat (48 + n.toNat % 10)] := by
    rw [Lib.decDigits, dif_neg (by omega)]
  rw [e, show (n / 10).toNat = n.toNat / 10 by omega, show (48 + n % 10).toNat = 48 + n.toNat % 10 by omega]
  apply Go.WideShapes.bytes_inj
  simp

end NumText
end Go.Proofs.YtghckjmpcokhcaaDoor
