/-
  What CountText reckons, as a plain function of the bytes. No Go function is spoken of here.
-/
import Derived.Test.YtghckjmpcokhcaaGreatDoorNumText
import Derived.Test.YtghckjmpcokhcaaGreatDoorNodesZ
import Derived.Lib.AtoiTie
import Derived.Lib.AtoiAllCases
namespace Go.Proofs.YtghckjmpcokhcaaGreatDoor
namespace Count
open Go.RowKit Base GoodKey NumText

def digB (c : UInt8) : Bool := decide (48 ≤ c.toNat) && decide (c.toNat ≤ 57)
def val (l : List UInt8) : Int := l.foldl (fun n c => 10 * n + ((c.toNat : Int) - 48)) 0
def firstB (l : List UInt8) : Bool := match l with | c :: _ :: _ => c.toNat == 48 | _ => false
def res (v m : Int) (down : Bool) : Int := if (if down then v - m else v + m) < 0 then 0 else (if down then v - m else v + m)
def countB (l : List UInt8) (m : Int) (down : Bool) : Option ByteArray :=
  if inB l.length 1 18 = true then if firstB l = true then none else if inB m 0 1000000000 = true then if l.all digB = true then
    if 18 < (txt (res (val l) m down).toNat).size then none else some (txt (res (val l) m down).toNat) else none else none else none
def countV : Option ByteArray → Value
  | some s => .tuple #[.string s, .bool true]
  | none => .tuple #[.string ByteArray.empty, .bool false]
theorem ret_count {o p : Option ByteArray} (h : o = p) : Ending.returned (countV o) = .returned (countV p) := by rw [h]

theorem val_snoc (l : List UInt8) (c : UInt8) : val (l ++ [c]) = 10 * val l + ((c.toNat : Int) - 48) := by simp [val]
theorem val_step (s : ByteArray) (k : Nat) (h : k < s.size) : val (s.data.toList.take (k + 1)) = 10 * val (s.data.toList.take k) + ((s[k].toNat : Int) - 48) := by
  rw [take_snoc s k h, val_snoc]
theorem all_step (s : ByteArray) (k : Nat) (h : k < s.size) (ha : (s.data.toList.take k).all digB = true) (h1 : ¬ (s[k].toNat : Int) < 48) (h2 : ¬ 57 < (s[k].toNat : Int)) : (s.data.toList.take (k + 1)).all digB = true := by
  rw [take_snoc s k h, List.all_append, ha]
  simp [digB]; omega
theorem all_bad (s : ByteArray) (k : Nat) (h : k < s.size) (hb : (s[k].toNat : Int) < 48 ∨ 57 < (s[k].toNat : Int)) : s.data.toList.all digB = false := by
  have hm : s[k] ∈ s.data.toList := by
    have e : s[k] = s.data.toList[k]'(by simpa using h) := rfl
    rw [e]; exact List.getElem_mem _
  have ho : digB s[k] = false := by simp [digB]; omega
  rw [List.all_eq_false]; exact ⟨_, hm, by simp [ho]⟩
theorem val_bd (l : List UInt8) (h : l.all digB = true) : 0 ≤ val l ∧ val l < 10 ^ l.length := by
  obtain ⟨n, hn⟩ : ∃ n, l.length = n := ⟨_, rfl⟩
  induction n generalizing l with
  | zero => rw [List.length_eq_zero_iff.1 hn]; simp [val]
  | succ n ih =>
    have hne : l ≠ [] := by intro e; simp [e] at hn
    have e := List.dropLast_concat_getLast hne
    have h1 : l.dropLast.all digB = true := by
      rw [List.all_eq_true] at h ⊢
      exact fun x hx => h x (List.dropLast_subset l hx)
    have h2 : digB (l.getLast hne) = true := by rw [List.all_eq_true] at h; exact h _ (List.getLast_mem hne)
    have h3 := ih _ h1 (by simp [hn])
    have hl : l.dropLast.length = n := by simp [hn]
    have e2 : val l = 10 * val l.dropLast + (((l.getLast hne).toNat : Int) - 48) := by
      have e3 := val_snoc l.dropLast (l.getLast hne)
      rw [e] at e3
      exact e3
    simp only [digB, Bool.and_eq_true, decide_eq_true_eq] at h2
    rw [e2, hn, Int.pow_succ]
    rw [hl] at h3
    omega
theorem val_17 (l : List UInt8) (h : l.all digB = true) (hl : l.length ≤ 17) : 0 ≤ val l ∧ val l < 100000000000000000 := by
  have h1 := val_bd l h
  have h2 : (10 : Int) ^ l.length ≤ 10 ^ 17 := by
    have h3 : (10 : Nat) ^ l.length ≤ 10 ^ 17 := Nat.pow_le_pow_right (by omega) hl
    have h4 : (((10 : Nat) ^ l.length : Nat) : Int) ≤ (((10 : Nat) ^ 17 : Nat) : Int) := by omega
    simpa using h4
  have h5 : (10 : Int) ^ 17 = 100000000000000000 := by decide
  omega
theorem val_18 (l : List UInt8) (h : l.all digB = true) (hl : l.length ≤ 18) : 0 ≤ val l ∧ val l < 1000000000000000000 := by
  have h1 := val_bd l h
  have h2 : (10 : Int) ^ l.length ≤ 10 ^ 18 := by
    have h3 : (10 : Nat) ^ l.length ≤ 10 ^ 18 := Nat.pow_le_pow_right (by omega) hl
    have h4 : (((10 : Nat) ^ l.length : Nat) : Int) ≤ (((10 : Nat) ^ 18 : Nat) : Int) := by omega
    simpa using h4
  have h5 : (10 : Int) ^ 18 = 1000000000000000000 := by decide
  omega
end Count
end Go.Proofs.YtghckjmpcokhcaaGreatDoor
/-
  What readNumber reads: decimal numerals without needless noughts, as plain data; and what the program's CountText reckons. No Go function is spoken of here.
-/
namespace Go.Proofs.YtghckjmpcokhcaaGreatDoor
namespace Count
open Go.RowKit Base GoodKey NumText
set_option linter.unusedVariables false

def plainB (l : List UInt8) : Bool := inB l.length 1 18 && !firstB l && l.all digB
def rdB (l : List UInt8) (most : Int) : Option Int := match Lib.atoiAll l with | .ok v => if 0 ≤ v ∧ v ≤ most ∧ Lib.itoa v = l then some v else none | _ => none

theorem dig_byte {c : UInt8} (h : digB c = true) : UInt8.ofNat (48 + (c.toNat - 48)) = c := by
  simp only [digB, Bool.and_eq_true, decide_eq_true_eq] at h
  rw [show 48 + (c.toNat - 48) = c.toNat by omega]
  simp
/-- A digit that is not 0 ahead. -/
def headNZ : List UInt8 → Prop
  | c :: _ => c.toNat ≠ 48
  | [] => False
theorem val_pos {l : List UInt8} (h : l.all digB = true) (hz : headNZ l) : 1 ≤ val l := by
  obtain ⟨n, hn⟩ : ∃ n, l.length = n := ⟨_, rfl⟩
  induction n generalizing l with
  | zero => rw [List.length_eq_zero_iff.1 hn] at hz; exact hz.elim
  | succ n ih =>
    have hne : l ≠ [] := by intro e; simp [e] at hn
    obtain ⟨r, c, rfl⟩ : ∃ r c, l = r ++ [c] := ⟨l.dropLast, l.getLast hne, (List.dropLast_concat_getLast hne).symm⟩
    rw [List.all_append, Bool.and_eq_true] at h
    have hc : digB c = true := by simpa using h.2
    simp only [digB, Bool.and_eq_true, decide_eq_true_eq] at hc
    rw [val_snoc]
    cases r with
    | nil => simp only [List.nil_append, headNZ] at hz; simp [val]; omega
    | cons d r' =>
      have := ih h.1 (by simpa [headNZ] using hz) (by simpa using hn)
      omega
theorem canon {l : List UInt8} (h : l.all digB = true) (hz : l.length = 1 ∨ headNZ l) (hne : l ≠ []) : Lib.decDigits (val l).toNat = l := by
  obtain ⟨n, hn⟩ : ∃ n, l.length = n := ⟨_, rfl⟩
  induction n generalizing l with
  | zero => exact absurd (List.length_eq_zero_iff.1 hn) hne
  | succ n ih =>
    obtain ⟨r, c, rfl⟩ : ∃ r c, l = r ++ [c] := ⟨l.dropLast, l.getLast hne, (List.dropLast_concat_getLast hne).symm⟩
    rw [List.all_append, Bool.and_eq_true] at h
    have hcb : digB c = true := by simpa using h.2
    have hc := hcb
    simp only [digB, Bool.and_eq_true, decide_eq_true_eq] at hc
    rw [val_snoc]
    cases r with
    | nil =>
      have e : (10 * val [] + ((c.toNat : Int) - 48)).toNat = c.toNat - 48 := by simp [val]; omega
      rw [e, Lib.decDigits_one (by omega), dig_byte hcb]
      rfl
    | cons d r' =>
      have hnz : headNZ (d :: r') := by
        rcases hz with e | e
        · simp at e
        · simpa [headNZ] using e
      have hp := val_pos h.1 hnz
      have ih' := ih h.1 (.inr hnz) (by simp) (by simpa using hn)
      generalize val (d :: r') = v at hp ih'
      have e1 : (10 * v + ((c.toNat : Int) - 48)).toNat = 10 * v.toNat + (c.toNat - 48) := by omega
      rw [e1, Lib.decDigits, dif_neg (by omega), show (10 * v.toNat + (c.toNat - 48)) / 10 = v.toNat by omega, show (10 * v.toNat + (c.toNat - 48)) % 10 = c.toNat - 48 by omega, ih', dig_byte hcb]
theorem dig_ofNat {d : Nat} (h : d < 10) : digB (UInt8.ofNat (48 + d)) = true ∧ (UInt8.ofNat (48 + d)).toNat = 48 + d := by
  have e : (UInt8.ofNat (48 + d)).toNat = 48 + d := by rw [UInt8.toNat_ofNat']; omega
  refine ⟨?_, e⟩
  unfold digB
  rw [e, decide_eq_true (show 48 ≤ 48 + d by omega), decide_eq_true (show 48 + d ≤ 57 by omega)]
  rfl
theorem dec_props (n : Nat) : (Lib.decDigits n).all digB = true ∧ val (Lib.decDigits n) = n ∧ Lib.decDigits n ≠ [] ∧ (10 ≤ n → headNZ (Lib.decDigits n)) ∧ (1 ≤ n → headNZ (Lib.decDigits n)) := by
  induction n using Nat.strongRecOn with
  | ind n ih =>
    by_cases h : n < 10
    · rw [Lib.decDigits_one h]
      obtain ⟨h1, h2⟩ := dig_ofNat h
      refine ⟨by show (digB _ && true) = true; rw [h1]; rfl, by show (10 * 0 + (((UInt8.ofNat (48 + n)).toNat : Int) - 48)) = n; rw [h2]; omega, by simp, fun hh => by omega, fun hh => ?_⟩
      simp only [headNZ]
      omega
    · rw [Lib.decDigits, dif_neg h]
      obtain ⟨i1, i2, i3, i4, i5⟩ := ih (n / 10) (by omega)
      obtain ⟨h1, h2⟩ := dig_ofNat (show n % 10 < 10 by omega)
      have hh : headNZ (Lib.decDigits (n / 10) ++ [UInt8.ofNat (48 + n % 10)]) := by
        have h5 := i5 (by omega)
        cases e : Lib.decDigits (n / 10) with
        | nil => exact absurd e i3
        | cons d r => rw [e] at h5; simpa [headNZ] using h5
      refine ⟨by rw [List.all_append, i1]; show (true && (digB _ && true)) = true; rw [h1]; rfl, ?_, by simp, fun _ => hh, fun _ => hh⟩
      rw [val_snoc, i2, h2]
      omega
theorem nDigits_low (n : Nat) (h : 1 ≤ n) : 10 ^ (Lib.nDigits n - 1) ≤ n := by
  induction n using Nat.strongRecOn with
  | ind n ih =>
    by_cases h10 : n < 10
    · rw [Lib.nDigits_small h10]; simpa using h
    · rw [Lib.nDigits_big h10, Nat.add_sub_cancel]
      have i := ih (n / 10) (by omega) (by omega)
      have hp := Lib.nDigits_pos (n / 10)
      obtain ⟨k, hk⟩ : ∃ k, Lib.nDigits (n / 10) = k + 1 := ⟨Lib.nDigits (n / 10) - 1, by omega⟩
      rw [hk] at i ⊢
      rw [Nat.add_sub_cancel] at i
      rw [Nat.pow_succ]
      omega
theorem nDigits_18 (n : Nat) : Lib.nDigits n ≤ 18 ↔ n < 1000000000000000000 := by
  have e18 : (10 : Nat) ^ 18 = 1000000000000000000 := by decide
  constructor
  · intro h
    have h1 := Lib.lt_pow_nDigits n
    have h2 : (10 : Nat) ^ Lib.nDigits n ≤ 10 ^ 18 := Nat.pow_le_pow_right (by omega) h
    omega
  · intro h
    by_cases hn : 1 ≤ n
    · have h1 := nDigits_low n hn
      by_cases h2 : Lib.nDigits n ≤ 18
      · exact h2
      · have h3 : (10 : Nat) ^ 18 ≤ 10 ^ (Lib.nDigits n - 1) := Nat.pow_le_pow_right (by omega) (by omega)
        omega
    · rw [Lib.nDigits_small (by omega)]; omega
theorem txt_18 (n : Nat) : 18 < (txt n).size ↔ 999999999999999999 < n := by
  have e : (txt n).size = Lib.nDigits n := by
    show (Lib.decDigits n).toArray.size = _
    rw [← Lib.decDigits_length n]; simp
  rw [e]
  have := nDigits_18 n
  omega
theorem plain_dec {n : Nat} (h : n < 1000000000000000000) : plainB (Lib.decDigits n) = true := by
  obtain ⟨h1, h2, h3, h4, h5⟩ := dec_props n
  have hl := Lib.decDigits_length n
  have h18 := (nDigits_18 n).2 h
  have hp := Lib.nDigits_pos n
  unfold plainB
  rw [h1]
  have hf : firstB (Lib.decDigits n) = false := by
    by_cases h10 : n < 10
    · rw [Lib.decDigits_one h10]; rfl
    · have := h4 (by omega)
      cases e : Lib.decDigits n with
      | nil => rfl
      | cons c r =>
        rw [e] at this
        cases r with
        | nil => rfl
        | cons d r' => simp only [firstB]; simpa [headNZ] using this
  rw [hf]
  simp [inB]
  omega
theorem decFrom_val : ∀ (l : List UInt8) (acc : Nat), l.all digB = true → Lib.decFrom acc l = some (l.foldl (fun n c => n * 10 + (c.toNat - 48)) acc)
  | [], acc, _ => rfl
  | c :: r, acc, h => by
    simp only [List.all_cons, Bool.and_eq_true] at h
    have hc := h.1
    simp only [digB, Bool.and_eq_true, decide_eq_true_eq] at hc
    rw [Lib.decFrom]
    have e : Lib.digitVal c = some (c.toNat - 48) := by unfold Lib.digitVal; rw [if_pos hc]
    rw [e]
    exact decFrom_val r _ h.2
theorem fold_val : ∀ (l : List UInt8) (acc : Nat), l.all digB = true → ((l.foldl (fun n c => n * 10 + (c.toNat - 48)) acc : Nat) : Int) = l.foldl (fun n c => 10 * n + ((c.toNat : Int) - 48)) (acc : Int)
  | [], acc, _ => rfl
  | c :: r, acc, h => by
    simp only [List.all_cons, Bool.and_eq_true] at h
    have hc := h.1
    simp only [digB, Bool.and_eq_true, decide_eq_true_eq] at hc
    rw [List.foldl_cons, List.foldl_cons, fold_val r _ h.2]
    congr 1
    omega
theorem atoi_plain {l : List UInt8} (h : plainB l = true) : Lib.atoiAll l = .ok (val l) := by
  unfold plainB at h
  simp only [inB, Bool.and_eq_true, decide_eq_true_eq] at h
  obtain ⟨⟨⟨h1, h2⟩, _⟩, h3⟩ := h
  rw [Lib.atoiAll_short l (by omega)]
  cases l with
  | nil => simp at h1
  | cons c r =>
    have hc := h3
    simp only [List.all_cons, Bool.and_eq_true] at hc
    have hd := hc.1
    simp only [digB, Bool.and_eq_true, decide_eq_true_eq] at hd
    have n45 : (c == 45) = false := by
      rw [beq_eq_false_iff_ne]; intro e; rw [e] at hd; simp at hd
    have n43 : (c == 43) = false := by
      rw [beq_eq_false_iff_ne]; intro e; rw [e] at hd; simp at hd
    show Lib.NumEnd.ofOption (if (c == 45) = true then (Lib.decNat r).map (fun (m : Nat) => -(m : Int)) else if (c == 43) = true then (Lib.decNat r).map (fun (m : Nat) => (m : Int)) else (Lib.decNat (c :: r)).map (fun (m : Nat) => (m : Int))) = _
    rw [n45, n43]
    have e : Lib.decNat (c :: r) = some ((c :: r).foldl (fun n c => n * 10 + (c.toNat - 48)) 0) := by
      unfold Lib.decNat
      rw [if_neg (by simp)]
      exact decFrom_val _ 0 h3
    simp only [Bool.false_eq_true, if_false, e, Option.map_some]
    have ef := fold_val (c :: r) 0 h3
    rw [ef]
    rfl
theorem rd_eq (l : List UInt8) : rdB l 999999999999999999 = if plainB l = true then some (val l) else none := by
  by_cases h : plainB l = true
  · rw [if_pos h]
    unfold rdB
    rw [atoi_plain h]
    have hp := h
    unfold plainB at hp
    simp only [inB, Bool.and_eq_true, decide_eq_true_eq] at hp
    obtain ⟨⟨⟨h1, h2⟩, h4⟩, h3⟩ := hp
    have hv := val_18 l h3 (by omega)
    have hne : l ≠ [] := by intro e; rw [e] at h1; simp at h1
    have hz : l.length = 1 ∨ headNZ l := by
      cases l with
      | nil => exact absurd rfl hne
      | cons c r =>
        cases r with
        | nil => left; rfl
        | cons d r' => right; simp only [firstB] at h4; simpa [headNZ] using h4
    have hi : Lib.itoa (val l) = l := by
      unfold Lib.itoa
      rw [if_neg (by omega)]
      exact canon h3 hz hne
    simp only
    rw [if_pos ⟨by omega, by omega, hi⟩]
  · rw [if_neg h]
    unfold rdB
    cases e : Lib.atoiAll l with
    | ok v =>
      simp only
      rw [if_neg]
      rintro ⟨h0, h1, h2⟩
      apply h
      unfold Lib.itoa at h2
      rw [if_neg (by omega)] at h2
      rw [← h2]
      exact plain_dec (by omega)
    | «syntax» => rfl
    | range => rfl
/-- What the program's CountText hands back. -/
theorem count_eq (l : List UInt8) (m : Int) (down : Bool) : countB l m down = match rdB l 999999999999999999 with
    | some v => if inB m 0 1000000000 = true then if 999999999999999999 < res v m down then none else some (txt (res v m down).toNat) else none
    | none => none := by
  rw [rd_eq]
  unfold countB
  by_cases h1 : inB l.length 1 18 = true
  · by_cases h2 : firstB l = true
    · have : ¬ plainB l = true := by unfold plainB; simp [h2]
      rw [if_pos h1, if_pos h2, if_neg this]
    · by_cases h3 : l.all digB = true
      · have hp : plainB l = true := by unfold plainB; rw [h1, h3]; simp at h2; simp [h2]
        rw [if_pos h1, if_neg h2, if_pos hp]
        simp only
        by_cases h4 : inB m 0 1000000000 = true
        · rw [if_pos h4, if_pos h3, if_pos h4]
          have hr : 0 ≤ res (val l) m down := by unfold res; split <;> omega
          have ht := txt_18 (res (val l) m down).toNat
          by_cases h5 : 999999999999999999 < res (val l) m down
          · rw [if_pos h5, if_pos (ht.2 (by omega))]
          · rw [if_neg h5, if_neg (fun e => by have := ht.1 e; omega)]
        · rw [if_neg h4, if_neg h4]
      · have : ¬ plainB l = true := by unfold plainB; rw [Bool.eq_false_iff.2 h3]; simp
        rw [if_pos h1, if_neg h2, if_neg this]
        simp only [if_neg h3]
        split <;> rfl
  · have : ¬ plainB l = true := by unfold plainB; rw [Bool.eq_false_iff.2 h1]; simp
    rw [if_neg h1, if_neg this]
end Count
end Go.Proofs.YtghckjmpcokhcaaGreatDoor
