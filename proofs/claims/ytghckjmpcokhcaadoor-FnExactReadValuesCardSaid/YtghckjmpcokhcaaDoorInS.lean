/-
  The contract of the model's l1In; what a good key is, as a plain function of its bytes.
-/
import Derived.Test.YtghckjmpcokhcaaDoorRows
import Derived.Test.YtghckjmpcokhcaaDoorBase
namespace Go.Proofs.YtghckjmpcokhcaaDoor
namespace GoodKey
open Go.RowKit Base
set_option linter.unusedVariables false

def okb (c : UInt8) : Bool := decide (33 ≤ c.toNat) && decide (c.toNat ≤ 126)
def inB (n lo hi : Int) : Bool := decide (lo ≤ n) && decide (n ≤ hi)
def gk (l : List UInt8) : Bool := inB l.length 1 30 && l.all okb

theorem take_snoc (s : ByteArray) (k : Nat) (h : k < s.size) : s.data.toList.take (k + 1) = s.data.toList.take k ++ [s[k]] := by
  rw [List.take_succ_eq_append_getElem (by simpa using h)]; rfl
theorem all_snoc (s : ByteArray) (k : Nat) (h : k < s.size) (ha : (s.data.toList.take k).all okb = true) (h1 : ¬ (s[k].toNat : Int) < 33) (h2 : ¬ 126 < (s[k].toNat : Int)) :
    (s.data.toList.take (k + 1)).all okb = true := by
  rw [take_snoc s k h, List.all_append, ha]
  simp [okb]; omega
theorem gk_bad (s : ByteArray) (k : Nat) (h : k < s.size) (hb : (s[k].toNat : Int) < 33 ∨ 126 < (s[k].toNat : Int)) : gk s.data.toList = false := by
  have hm : s[k] ∈ s.data.toList := by
    have e : s[k] = s.data.toList[k]'(by simpa using h) := rfl
    rw [e]; exact List.getElem_mem _
  have ho : okb s[k] = false := by simp [okb]; omega
  have ha : s.data.toList.all okb = false := by
    rw [List.all_eq_false]; exact ⟨_, hm, by simp [ho]⟩
  simp [gk, ha]
theorem gk_all (s : ByteArray) (k : Nat) (hk : k ≤ s.size) (h : ¬ k < s.size) (ha : (s.data.toList.take k).all okb = true) : inB s.size 1 30 = gk s.data.toList := by
  have e : s.data.toList.take k = s.data.toList := List.take_of_length_le (by simp; omega)
  rw [e] at ha
  have el : s.data.toList.length = s.size := by simp
  simp [gk, ha, el]
theorem gk_len (s : ByteArray) (h : (s.size : Int) < 1 ∨ 30 < (s.size : Int)) : gk s.data.toList = false := by
  have el : s.data.toList.length = s.size := by simp
  have e : inB s.size 1 30 = false := by simp [inB]; omega
  simp [gk, el, e]
theorem inB_true (s : ByteArray) (h1 : ¬ (s.size : Int) < 1) (h2 : ¬ 30 < (s.size : Int)) : inB s.size 1 30 = true := by simp [inB]; omega

set_option maxHeartbeats 400000 in
theorem l1In_any (n lo hi : Int) (w : World) :
    Calls Tryd.prog 15 #[.int .i64 n, .int .i64 lo, .int .i64 hi] w fun e w' => e = .returned (.bool (inB n lo hi)) ∧ w' = w := by
  by_cases h : lo ≤ n
  · go_enter Tryd.func15, Tryd.ntmps15
    go_wp2
    go_ret
    exact ⟨ret_bool (by simp [inB, h]), rfl⟩
  · go_enter Tryd.func15, Tryd.ntmps15
    go_wp2
    go_ret
    exact ⟨ret_bool (by rw [inB, decide_eq_false (by omega)]; rfl), rfl⟩

end GoodKey
end Go.Proofs.YtghckjmpcokhcaaDoor
