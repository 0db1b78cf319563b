/-
  Contracts of cmp.Compare at texts and at numbers of 32 bits, and of the program's comparePoints: the order of the points.
-/
import Derived.Test.YtjlmhkclokjpnaaDoorRingP
import Derived.Test.YtjlmhkclokjpnaaDoorRows
import Derived.WalkLawsBesides
import Derived.Laws.StructEq
namespace Go.Proofs.YtjlmhkclokjpnaaDoor
namespace Ring
open Go.RowKit Base Points
set_option linter.unusedVariables false

set_option maxRecDepth 10000 in
set_option maxHeartbeats 400000 in
theorem nanS (x : ByteArray) (w : World) : Calls Tryd.prog 104 #[.string x] w fun e w' => e = .returned (.bool false) ∧ w' = w := by
  go_enter Tryd.func104, Tryd.ntmps104
  go_wp2
  go_ret
  exact ⟨by simp, rfl⟩
set_option maxRecDepth 10000 in
set_option maxHeartbeats 400000 in
theorem nanU (x : Int) (w : World) : Calls Tryd.prog 97 #[.int .u32 x] w fun e w' => e = .returned (.bool false) ∧ w' = w := by
  go_enter Tryd.func97, Tryd.ntmps97
  go_wp2
  go_ret
  exact ⟨by simp, rfl⟩

def cmpI (a b : Int) : Int := if a < b then -1 else if b < a then 1 else 0
def cmpS (a b : ByteArray) : Int := if Op.bytesLess a.toList b.toList then -1 else if Op.bytesLess b.toList a.toList then 1 else 0
theorem lt_tri {x y : List UInt8} (h1 : Op.bytesLess x y = false) (h2 : (x == y) = false) : Op.bytesLess y x = true := by
  rw [bytesLess_lt] at *
  simp only [decide_eq_false_iff_not, beq_eq_false_iff_ne, decide_eq_true_eq] at *
  by_cases h : y < x
  · exact h
  · exact absurd (List.le_antisymm (List.not_lt.1 h) (List.not_lt.1 h1)) h2
theorem lt_self (x : List UInt8) : Op.bytesLess x x = false := by rw [bytesLess_lt]; simp [List.lt_irrefl]

set_option maxRecDepth 10000 in
set_option maxHeartbeats 400000 in
theorem compareU (a b : Int) (w : World) : Calls Tryd.prog 87 #[.int .u32 a, .int .u32 b] w fun e w' => e = .returned (.int .i64 (cmpI a b)) ∧ w' = w := by
  by_cases h1 : a < b
  · go_enter Tryd.func87, Tryd.ntmps87
    go_wp2_with (go_at_call 97; refine (nanU _ _).mono ?_; rintro e w' ⟨rfl, rfl⟩)
    go_ret
    exact ⟨ret_int (by unfold cmpI; rw [if_pos h1]), rfl⟩
  by_cases h2 : b < a
  · go_enter Tryd.func87, Tryd.ntmps87
    go_wp2_with (go_at_call 97; refine (nanU _ _).mono ?_; rintro e w' ⟨rfl, rfl⟩)
    go_ret
    exact ⟨ret_int (by unfold cmpI; rw [if_neg (by omega), if_pos h2]), rfl⟩
  go_enter Tryd.func87, Tryd.ntmps87
  go_wp2_with (go_at_call 97; refine (nanU _ _).mono ?_; rintro e w' ⟨rfl, rfl⟩)
  go_ret
  exact ⟨ret_int (by unfold cmpI; rw [if_neg (by omega), if_neg (by omega)]), rfl⟩
set_option maxRecDepth 10000 in
set_option maxHeartbeats 400000 in
theorem compareS (a b : ByteArray) (w : World) : Calls Tryd.prog 96 #[.string a, .string b] w fun e w' => e = .returned (.int .i64 (cmpS a b)) ∧ w' = w := by
  cases h1 : Op.bytesLess a.toList b.toList
  · cases h2 : (a.toList == b.toList)
    · have H := hide (lt_tri h1 h2)
      have H1 := hide h1
      go_enter Tryd.func96, Tryd.ntmps96
      go_wp2_with (go_at_call 104; refine (nanS _ _).mono ?_; rintro e w' ⟨rfl, rfl⟩)
      go_ret
      exact ⟨ret_int (by unfold cmpS; rw [unhide H, unhide H1]; rfl), rfl⟩
    · have H : Hid (cmpS a b = 0) := by
        show cmpS a b = 0
        unfold cmpS
        rw [eq_of_beq h2, lt_self]; rfl
      go_enter Tryd.func96, Tryd.ntmps96
      go_wp2_with (go_at_call 104; refine (nanS _ _).mono ?_; rintro e w' ⟨rfl, rfl⟩)
      go_ret
      exact ⟨ret_int (unhide H).symm, rfl⟩
  · have H1 := hide h1
    go_enter Tryd.func96, Tryd.ntmps96
    go_wp2_with (go_at_call 104; refine (nanS _ _).mono ?_; rintro e w' ⟨rfl, rfl⟩)
    go_ret
    exact ⟨ret_int (by unfold cmpS; rw [unhide H1]; rfl), rfl⟩

theorem eqPt (p q : Int) (m n : ByteArray) (w : World) : (Op.equalIn 10000 115 (.agg #[.int .u32 p, .string m]) (.agg #[.int .u32 q, .string n])).run Tryd.prog w = .ok (p == q && m.toList == n.toList) w := by
  have u1 := Tryd.underlying112
  have u2 := Tryd.underlying9
  have hS : Tryd.prog.underlying 115 = some (.struct (Tryd.prog.fieldsOf 115)) := by kernel_rfl
  have hp : Tryd.prog.stoodInHeld 115 = false := by kernel_rfl
  rw [show (10000 : Nat) = 9999 + 1 from rfl, run_equalIn_agg w 9999 115 _ _ hS hp]
  simp only [Program.fieldsOf, Tryd.underlying115]
  go_simp
  by_cases h1 : p = q <;> by_cases h2 : m.toList = n.toList <;> simp [h1, h2]

/-- What comparePoints answers. -/
def cmpN (a b : D) : Int := if less a b then -1 else if less b a then 1 else 0
theorem cmpN_le (a b : D) : decide (cmpN a b ≤ 0) = le a b := by
  unfold cmpN le
  cases h1 : less a b
  · cases h2 : less b a <;> simp
  · rw [less_asymm h1]; simp
theorem cmpN_bd (a b : D) : -1 ≤ cmpN a b ∧ cmpN a b ≤ 1 := by
  unfold cmpN
  split
  · omega
  · split <;> omega
theorem cmpN_self (a : D) : cmpN a a = 0 := by unfold cmpN; rw [less_irrefl]; rfl
theorem cmpN_name {p : Int} {m n : ByteArray} : cmpN ⟨p, m⟩ ⟨p, n⟩ = cmpS m n := by
  simp [cmpN, cmpS, less, Lib.toList_data]
theorem cmpN_pos {p q : Int} {m n : ByteArray} (h : p ≠ q) : cmpN ⟨p, m⟩ ⟨q, n⟩ = cmpI p q := by
  have h1 : ¬ q = p := fun e => h e.symm
  simp [cmpN, cmpI, less, h, h1]

set_option maxRecDepth 10000 in
set_option maxHeartbeats 1000000 in
theorem compare_any (x y : D) (w : World) : Calls Tryd.prog 83 #[.agg #[.int .u32 x.pos, .string x.name], .agg #[.int .u32 y.pos, .string y.name]] w fun e w' => e = .returned (.int .i64 (cmpN x y)) ∧ Below w.heap.size w w' := by
  obtain ⟨p, m⟩ := x
  obtain ⟨q, n⟩ := y
  have he := fun w => eqPt p q m n w
  by_cases hp : p = q
  · subst hp
    cases hn : (m.toList == n.toList)
    · have H := hide (@cmpN_name p m n)
      have hpp : (p == p) = true := by simp
      go_enter Tryd.func83, Tryd.ntmps83
      go_wp2_with (go_at_call 96; refine (compareS _ _ _).mono ?_; rintro e w' ⟨rfl, rfl⟩)
      go_ret
      exact ⟨ret_int (unhide H).symm, bel2 w _ _⟩
    · have hmn : m = n := by
        apply Go.WideShapes.bytes_inj
        rw [← Lib.toList_data, ← Lib.toList_data]; exact eq_of_beq hn
      subst hmn
      have H := hide (cmpN_self ⟨p, m⟩)
      have hpp : (p == p) = true := by simp
      go_enter Tryd.func83, Tryd.ntmps83
      go_wp2
      go_ret
      exact ⟨ret_int (unhide H).symm, bel2 w _ _⟩
  · have H := hide (@cmpN_pos p q m n hp)
    have hpq : (p == q) = false := by simp [hp]
    clear hp
    go_enter Tryd.func83, Tryd.ntmps83
    go_wp2_with (go_at_call 87; refine (compareU _ _ _).mono ?_; rintro e w' ⟨rfl, rfl⟩)
    go_ret
    exact ⟨ret_int (unhide H).symm, bel2 w _ _⟩
end Ring
end Go.Proofs.YtjlmhkclokjpnaaDoor
