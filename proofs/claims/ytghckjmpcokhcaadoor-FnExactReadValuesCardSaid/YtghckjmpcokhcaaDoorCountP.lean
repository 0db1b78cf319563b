/-
  What CountText reckons, as a plain function of the bytes. No Go function is spoken of here.
-/
import Derived.Test.YtghckjmpcokhcaaDoorNumText
import Derived.Test.YtghckjmpcokhcaaDoorInS
namespace Go.Proofs.YtghckjmpcokhcaaDoor
namespace Count
open Go.RowKit Base GoodKey NumText

def digB (c : UInt8) : Bool := decide (48 ≤ c.toNat) && decide (c.toNat ≤ 57)
def val (l : List UInt8) : Int := l.foldl (fun n c => 10 * n + ((c.toNat : Int) - 48)) 0
def firstB (l : List UInt8) : Bool := match l with | c :: _ :: _ => c.toNat == 48 | _ => false
def res (v m : Int) (down : Bool) : Int := if (if down then v - m else v + m) < 0 then 0 else (if down then v - m else v + m)
def countB (l : List UInt8) (m : Int) (down : Bool) : Option ByteArray :=
  if inB l.length 1 18 = true then if firstB l = true then none else if inB m 0 1000000000 = true then if l.all digB = true then
    if 18 < (txt (res (val l) m down).toNat).size then none else some (txt (res (val l) m down).toNat) else none else none else none
def countV : Option ByteArray → Value
  | some s => .tuple #[.string s, .bool true]
  | none => .tuple #[.string ByteArray.empty, .bool false]
theorem ret_count {o p : Option ByteArray} (h : o = p) : Ending.returned (countV o) = .returned (countV p) := by rw [h]

theorem val_snoc (l : List UInt8) (c : UInt8) : val (l ++ [c]) = 10 * val l + ((c.toNat : Int) - 48) := by simp [val]
theorem val_step (s : ByteArray) (k : Nat) (h : k < s.size) : val (s.data.toList.take (k + 1)) = 10 * val (s.data.toList.take k) + ((s[k].toNat : Int) - 48) := by
  rw [take_snoc s k h, val_snoc]
theorem all_step (s : ByteArray) (k : Nat) (h : k < s.size) (ha : (s.data.toList.take k).all digB = true) (h1 : ¬ (s[k].toNat : Int) < 48) (h2 : ¬ 57 < (s[k].toNat : Int)) : (s.data.toList.take (k + 1)).all digB = true := by
  rw [take_snoc s k h, List.all_append, ha]
  simp [digB]; omega
theorem all_bad (s : ByteArray) (k : Nat) (h : k < s.size) (hb : (s[k].toNat : Int) < 48 ∨ 57 < (s[k].toNat : Int)) : s.data.toList.all digB = false := by
  have hm : s[k] ∈ s.data.toList := by
    have e : s[k] = s.data.toList[k]'(by simpa using h) := rfl
    rw [e]; exact List.getElem_mem _
  have ho : digB s[k] = false := by simp [digB]; omega
  rw [List.all_eq_false]; exact ⟨_, hm, by simp [ho]⟩
theorem val_bd (l : List UInt8) (h : l.all digB = true) : 0 ≤ val l ∧ val l < 10 ^ l.length := by
  obtain ⟨n, hn⟩ : ∃ n, l.length = n := ⟨_, rfl⟩
  induction n generalizing l with
  | zero => rw [List.length_eq_zero_iff.1 hn]; simp [val]
  | succ n ih =>
    have hne : l ≠ [] := by intro e; simp [e] at hn
    have e := List.dropLast_concat_getLast hne
    have h1 : l.dropLast.all digB = true := by
      rw [List.all_eq_true] at h ⊢
      exact fun x hx => h x (List.dropLast_subset l hx)
    have h2 : digB (l.getLast hne) = true := by rw [List.all_eq_true] at h; exact h _ (List.getLast_mem hne)
    have h3 := ih _ h1 (by simp [hn])
    have hl : l.dropLast.length = n := by simp [hn]
    have e2 : val l = 10 * val l.dropLast + (((l.getLast hne).toNat : Int) - 48) := by
      have e3 := val_snoc l.dropLast (l.getLast hne)
      rw [e] at e3
      exact e3
    simp only [digB, Bool.and_eq_true, decide_eq_true_eq] at h2
    rw [e2, hn, Int.pow_succ]
    rw [hl] at h3
    omega
theorem val_17 (l : List UInt8) (h : l.all digB = true) (hl : l.length ≤ 17) : 0 ≤ val l ∧ val l < 100000000000000000 := by
  have h1 := val_bd l h
  have h2 : (10 : Int) ^ l.length ≤ 10 ^ 17 := by
    have h3 : (10 : Nat) ^ l.length ≤ 10 ^ 17 := Nat.pow_le_pow_right (by omega) hl
    have h4 : (((10 : Nat) ^ l.length : Nat) : Int) ≤ (((10 : Nat) ^ 17 : Nat) : Int) := by omega
    simpa using h4
  have h5 : (10 : Int) ^ 17 = 100000000000000000 := by decide
  omega
theorem val_18 (l : List UInt8) (h : l.all digB = true) (hl : l.length ≤ 18) : 0 ≤ val l ∧ val l < 1000000000000000000 := by
  have h1 := val_bd l h
  have h2 : (10 : Int) ^ l.length ≤ 10 ^ 18 := by
    have h3 : (10 : Nat) ^ l.length ≤ 10 ^ 18 := Nat.pow_le_pow_right (by omega) hl
    have h4 : (((10 : Nat) ^ l.length : Nat) : Int) ≤ (((10 : Nat) ^ 18 : Nat) : Int) := by omega
    simpa using h4
  have h5 : (10 : Int) ^ 18 = 1000000000000000000 := by decide
  omega
end Count
end Go.Proofs.YtghckjmpcokhcaaDoor
