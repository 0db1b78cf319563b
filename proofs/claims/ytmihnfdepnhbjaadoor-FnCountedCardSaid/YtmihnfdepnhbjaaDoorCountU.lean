/-
  A number counted up and down again by as much is the number. No Go function is spoken of here.
-/
import Derived.Test.YtmihnfdepnhbjaaDoorReadP
namespace Go.Proofs.YtmihnfdepnhbjaaDoor
namespace Count
open Go.RowKit Base GoodKey NumText

theorem rd_some {l : List UInt8} {most v : Int} (h : rdB l most = some v) : 0 ≤ v ∧ v ≤ most ∧ Lib.itoa v = l := by
  unfold rdB at h
  split at h
  · split at h
    · rename_i hc
      rw [Option.some.inj h] at hc
      exact hc
    · simp at h
  · simp at h
theorem rd_txt {n : Nat} (h : n < 1000000000000000000) : rdB (txt n).data.toList 999999999999999999 = some (n : Int) := by
  have e : (txt n).data.toList = Lib.decDigits n := by simp [txt]
  rw [e, rd_eq, if_pos (plain_dec h), (dec_props n).2.1]
theorem up_down {s : ByteArray} {m : Int} {t : ByteArray} (h : countB s.data.toList m false = some t) : countB t.data.toList m true = some s := by
  rw [count_eq] at h
  cases e : rdB s.data.toList 999999999999999999 with
  | none => rw [e] at h; simp at h
  | some v =>
    rw [e] at h
    simp only at h
    by_cases hm : inB m 0 1000000000 = true
    · rw [if_pos hm] at h
      have hm2 : 0 ≤ m ∧ m ≤ 1000000000 := by unfold inB at hm; simpa using hm
      obtain ⟨h0, h1, h2⟩ := rd_some e
      have hr : res v m false = v + m := by
        unfold res
        simp only [Bool.false_eq_true, if_false]
        rw [if_neg (by omega)]
      rw [hr] at h
      by_cases hb : 999999999999999999 < v + m
      · rw [if_pos hb] at h; simp at h
      · rw [if_neg hb] at h
        have ht : t = txt (v + m).toNat := (Option.some.inj h).symm
        rw [count_eq, ht, rd_txt (by omega)]
        simp only
        have hr2 : res (((v + m).toNat : Nat) : Int) m true = v := by
          unfold res
          simp only [if_true]
          rw [if_neg (by omega)]
          omega
        rw [if_pos hm, hr2, if_neg (by omega)]
        have h3 : Lib.decDigits v.toNat = s.data.toList := by
          unfold Lib.itoa at h2
          rw [if_neg (by omega)] at h2
          exact h2
        have : txt v.toNat = s := by
          unfold txt
          rw [h3]
        rw [this]
    · rw [if_neg hm] at h; simp at h
/-- Where it can't be counted up nothing is told. -/
theorem down_any (o : Option ByteArray) : countV o = .tuple #[.string (o.getD ByteArray.empty), .bool o.isSome] := by cases o <;> rfl
end Count
end Go.Proofs.YtmihnfdepnhbjaaDoor
