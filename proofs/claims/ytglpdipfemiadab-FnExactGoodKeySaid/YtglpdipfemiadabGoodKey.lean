/-
  FnExactGoodKey returns true for every string: the program's GoodKey answers as the model's GoodKey does. No condition.
-/
import Derived.Test.YtglpdipfemiadabRows
import Derived.WalkKit
import Derived.ProofKit
import Derived.OpenShut
import Derived.ShutString
namespace Go.Proofs.Ytglpdipfemiadab
namespace GoodKey
open Go.ChangeShapes Go.WideShapes Go.ChangeAt Go.RowKit
open Go.ChangeMaps (open_string shut_string)
set_option linter.unusedVariables false

def okb (c : UInt8) : Bool := decide (33 ≤ c.toNat) && decide (c.toNat ≤ 126)
def inB (n lo hi : Int) : Bool := decide (lo ≤ n) && decide (n ≤ hi)
def gk (l : List UInt8) : Bool := inB l.length 1 30 && l.all okb

theorem hide {p : Prop} (h : p) : Hid p := h
theorem unhide {p : Prop} (h : Hid p) : p := h
theorem ret_bool {a b : Bool} (h : a = b) : Ending.returned (.bool a) = .returned (.bool b) := by rw [h]
theorem take_snoc (s : ByteArray) (k : Nat) (h : k < s.size) : s.data.toList.take (k + 1) = s.data.toList.take k ++ [s[k]] := by
  rw [List.take_succ_eq_append_getElem (by simpa using h)]; rfl
theorem all_snoc (s : ByteArray) (k : Nat) (h : k < s.size) (ha : (s.data.toList.take k).all okb = true) (h1 : ¬ (s[k].toNat : Int) < 33) (h2 : ¬ 126 < (s[k].toNat : Int)) :
    (s.data.toList.take (k + 1)).all okb = true := by
  rw [take_snoc s k h, List.all_append, ha]
  simp [okb]; omega
theorem gk_bad (s : ByteArray) (k : Nat) (h : k < s.size) (hb : (s[k].toNat : Int) < 33 ∨ 126 < (s[k].toNat : Int)) : gk s.data.toList = false := by
  have hm : s[k] ∈ s.data.toList := by
    have e : s[k] = s.data.toList[k]'(by simpa using h) := rfl
    rw [e]; exact List.getElem_mem _
  have ho : okb s[k] = false := by simp [okb]; omega
  have ha : s.data.toList.all okb = false := by
    rw [List.all_eq_false]; exact ⟨_, hm, by simp [ho]⟩
  simp [gk, ha]
theorem gk_all (s : ByteArray) (k : Nat) (hk : k ≤ s.size) (h : ¬ k < s.size) (ha : (s.data.toList.take k).all okb = true) : inB s.size 1 30 = gk s.data.toList := by
  have e : s.data.toList.take k = s.data.toList := List.take_of_length_le (by simp; omega)
  rw [e] at ha
  have el : s.data.toList.length = s.size := by simp
  simp [gk, ha, el]
theorem gk_len (s : ByteArray) (h : (s.size : Int) < 1 ∨ 30 < (s.size : Int)) : gk s.data.toList = false := by
  have el : s.data.toList.length = s.size := by simp
  have e : inB s.size 1 30 = false := by simp [inB]; omega
  simp [gk, el, e]
theorem inB_true (s : ByteArray) (h1 : ¬ (s.size : Int) < 1) (h2 : ¬ 30 < (s.size : Int)) : inB s.size 1 30 = true := by simp [inB]; omega

theorem own : ownKnob Try.prog.godebug = none := by kernel_rfl

set_option maxHeartbeats 400000 in
theorem l1In_any (n lo hi : Int) (w : World) :
    Calls Try.prog 6 #[.int .i64 n, .int .i64 lo, .int .i64 hi] w fun e w' => e = .returned (.bool (inB n lo hi)) ∧ w' = w := by
  by_cases h : lo ≤ n
  · go_enter Try.func6, Try.ntmps6
    go_wp2
    go_ret
    exact ⟨ret_bool (by simp [inB, h]), rfl⟩
  · go_enter Try.func6, Try.ntmps6
    go_wp2
    go_ret
    exact ⟨ret_bool (by rw [inB, decide_eq_false (by omega)]; rfl), rfl⟩

set_option maxHeartbeats 400000 in
theorem spec_any (s : ByteArray) (w : World) (hs : s.size ≤ maxLen) :
    Calls Try.prog 4 #[.string s] w fun e w' => e = .returned (.bool (gk s.data.toList)) ∧ w' = w := by
  unfold maxLen at hs
  go_enter Try.func4, Try.ntmps4
  go_wp2
  go_loop [3] (fun i => ∃ k : Nat, k ≤ s.size ∧ i = .int .i64 k ∧ Hid ((s.data.toList.take k).all okb = true)) (fun i => s.size - (intOf i).toNat)
  case atStart => exact ⟨0, Nat.zero_le _, rfl, hide rfl⟩
  case round =>
    obtain ⟨k, hk, rfl, ha⟩ := hrel
    by_cases hlt : k < s.size
    · by_cases h1 : (s[k].toNat : Int) < 33
      · have H := hide (gk_bad s k hlt (.inl h1))
        go_wp2
        go_ret
        exact ⟨ret_bool (unhide H).symm, rfl⟩
      · by_cases h2 : 126 < (s[k].toNat : Int)
        · have H := hide (gk_bad s k hlt (.inr h2))
          go_wp2
          go_ret
          exact ⟨ret_bool (unhide H).symm, rfl⟩
        · have H := hide (all_snoc s k hlt (unhide ha) h1 h2)
          go_wp2
          go_round
          case rel => exact ⟨k + 1, by omega, by go_num, H⟩
          case measure => simp [intOf]; omega
    · have H := hide (gk_all s k hk hlt (unhide ha))
      go_wp2_with (go_at_call 6; refine (l1In_any _ _ _ _).mono ?_; rintro e w' ⟨rfl, rfl⟩)
      go_ret
      exact ⟨ret_bool (unhide H), rfl⟩

set_option maxHeartbeats 400000 in
theorem impl_any (s : ByteArray) (w : World) (hs : s.size ≤ maxLen) :
    Calls Try.prog 5 #[.string s] w fun e w' => e = .returned (.bool (gk s.data.toList)) ∧ w' = w := by
  unfold maxLen at hs
  by_cases g1 : (s.size : Int) < 1
  · have H := hide (gk_len s (.inl g1))
    go_enter Try.func5, Try.ntmps5
    go_wp2
    go_ret
    exact ⟨ret_bool (unhide H).symm, rfl⟩
  by_cases g2 : 30 < (s.size : Int)
  · have H := hide (gk_len s (.inr g2))
    go_enter Try.func5, Try.ntmps5
    go_wp2
    go_ret
    exact ⟨ret_bool (unhide H).symm, rfl⟩
  have HT := hide (inB_true s g1 g2)
  go_enter Try.func5, Try.ntmps5
  go_wp2
  go_loop [14] (fun i => ∃ k : Nat, k ≤ s.size ∧ i = .int .i64 k ∧ Hid ((s.data.toList.take k).all okb = true)) (fun i => s.size - (intOf i).toNat)
  case atStart => exact ⟨0, Nat.zero_le _, rfl, hide rfl⟩
  case round =>
    obtain ⟨k, hk, rfl, ha⟩ := hrel
    by_cases hlt : k < s.size
    · by_cases h1 : (s[k].toNat : Int) < 33
      · have H := hide (gk_bad s k hlt (.inl h1))
        go_wp2
        go_ret
        exact ⟨ret_bool (unhide H).symm, rfl⟩
      · by_cases h2 : 126 < (s[k].toNat : Int)
        · have H := hide (gk_bad s k hlt (.inr h2))
          go_wp2
          go_ret
          exact ⟨ret_bool (unhide H).symm, rfl⟩
        · have H := hide (all_snoc s k hlt (unhide ha) h1 h2)
          go_wp2
          go_round
          case rel => exact ⟨k + 1, by omega, by go_num, H⟩
          case measure => simp [intOf]; omega
    · have H := hide (gk_all s k hk hlt (unhide ha))
      go_wp2
      go_ret
      exact ⟨ret_bool (by rw [← unhide H]; exact (unhide HT).symm), rfl⟩

set_option maxHeartbeats 400000 in
theorem walk (a0 : ByteArray) (w0 : a0.size ≤ maxLen) (w : World) :
    Calls Try.prog 3 #[.string a0] w fun e w' => e = .returned (.bool true) ∧ Grown w w' := by
  by_cases h : 1048576 < (a0.size : Int)
  · go_enter Try.func3, Try.ntmps3
    go_wp2
    go_ret
    exact ⟨rfl, Grown.refl _⟩
  · cases hb : gk a0.data.toList
    all_goals
      have HB := hide hb
      clear hb
      go_enter Try.func3, Try.ntmps3
      go_wp2_with fail
      refine (spec_any _ _ w0).mono ?_
      rintro e w1 ⟨rfl, rfl⟩
      rw [unhide HB]
      go_wp2_with fail
      refine (impl_any _ _ w0).mono ?_
      rintro e w1 ⟨rfl, rfl⟩
      rw [unhide HB]
      go_wp2
      go_ret
      exact ⟨rfl, Grown.refl _⟩

set_option maxRecDepth 100000 in
theorem lifted (os : Os) (started : os.Started) (H : Type) (enc : TypeId × Value → H) :
    ReturnsInHanded {} Try.checked os 3 .any (Rows.fnExactGoodKeySpec.pre6 enc Try.prog Try.f3 Rows.fnExactGoodKeyRow.domain false) (Rows.fnExactGoodKeySpec.post enc Try.prog Try.f3 false true false false) := by
  refine returnsInHanded_of_change (C := Try.checked) own started (by kernel_rfl) Try.func3
    (ChangeSpec.witness6 (enc := enc) (C := Try.checked) false ⟨#[], #[.string ByteArray.empty], []⟩ 8 (by kernel_rfl) (by kernel_rfl) (by kernel_rfl) (by kernel_rfl)) ?_
  intro W base args ds gs before hval0 hW hcnd _
  have hval : ∀ (j : Nat) t v, Try.f3.params[j]? = some t → args[j]? = some v → Value.okWide Try.prog W .any base t v := hval0
  have hW' := hW
  obtain ⟨p, q, hA0, hV, rfl, hfz, hnd⟩ := hW
  have hA : DataW.TrodAll enc Try.prog W 0 (fun _ => true) true Try.f3.params.toList args.toList ds p := hA0
  rw [Try.params3] at hA hval
  obtain ⟨v0, vs0, d0, ds0, p0, q0, hargs, rfl, rfl, h0, r0⟩ := trodAll_cons hA
  obtain ⟨rfl, rfl, rfl⟩ := trodAll_nil r0
  obtain rfl : args = #[v0] := by cases args; simp_all
  obtain ⟨rfl, rfl⟩ := trodVars_none hV
  obtain ⟨a0, rfl, rfl, rfl, w0⟩ := open_string Try.underlying9 (hval 0 9 v0 rfl rfl) h0
  clear hA0 hval0
  simp only [List.append_nil] at hW'
  refine (walk a0 w0 W).mono fun e W' ⟨he, hg⟩ => ?_
  subst he
  exact ⟨_, rfl, post_of_same (pa := []) (pv := []) hW' (fun _ _ _ => (trodAll_cons_mk (shut_bool Try.underlying4 _) trodAll_mk0)) (fun sp _ => (trodAll_cons_mk (shut_string Try.underlying9 w0) trodAll_mk0)) (fun _ _ => rfl) rfl
    (hg.frame _) hg.2.1 (ok_one (by kernel_rfl) rfl (okWide_bool_mk Try.underlying4 _))⟩

theorem over : Rows.fnExactGoodKeyRow.holds Try.pinned (OpenSpec.ofChange Rows.fnExactGoodKeySpec) :=
  OpenClaim.holds_of_wide 3 Try.f3 rfl rfl rfl rfl rfl rfl rfl ⟨rfl, rfl, rfl, rfl, rfl⟩ rfl rfl rfl rfl rfl (by kernel_rfl) Try.func3 (by kernel_rfl)
    (of_decide_eq_true (by kernel_rfl)) (by unfold Func.isWrapper; first | (rw [if_pos (by decide +kernel)]; kernel_rfl) | (rw [if_neg (by decide +kernel)]; exact ⟨rfl, rfl⟩))
    (fun os started H enc _ => lifted os started H enc)
end GoodKey

theorem goodKey_holds : Rows.FnExactGoodKeySaid := GoodKey.over
end Go.Proofs.Ytglpdipfemiadab
