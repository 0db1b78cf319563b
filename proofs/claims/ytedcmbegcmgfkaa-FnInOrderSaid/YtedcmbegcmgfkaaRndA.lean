/-
  The program's round: where a slot lies (at), and one more slot (open).
-/
import Derived.Test.YtedcmbegcmgfkaaRndM
import Derived.BigQuiet
import Derived.Deep.QuietTactic
import Derived.Deep.RegionWith
import Derived.WalkLawsBesides
namespace Go.Proofs.Ytedcmbegcmgfkaa
namespace Rnd
open Go.RowKit Base Slots Sess Marks
set_option linter.unusedVariables false

set_option maxRecDepth 10000 in
set_option maxHeartbeats 1000000 in
theorem at_any (b i fi : Nat) (nx : Int) (l : List D) (w : World) (h : RAt w b nx fi l) (hi : i < 30) :
    Calls Try.prog 20 #[.pointer (some ⟨b, 0, none⟩), .int .i64 i] w fun e w' => e = .returned (.pointer (some ⟨b, pos fi i, none⟩)) ∧ ∃ n, w' = w.drewN n := by
  have c1 := h.c1
  have hf := h.fi_lt
  have hp : pos fi i = 3 + (fi + i) % 30 * 3 := rfl
  have hm : (fi + i) % 30 < 30 := Nat.mod_lt _ (by omega)
  have he : ((fi : Int) + (i : Int)) % 30 = (((fi + i) % 30 : Nat) : Int) := by omega
  have hw : IntKind.i64.wrap ((fi : Int) + (i : Int)) = (fi : Int) + (i : Int) := by rw [IntKind.wrap_i64]; omega
  generalize (fi + i) % 30 = m at hp hm he
  generalize pos fi i = p at hp ⊢
  subst hp
  clear h
  go_enter Try.func20, Try.ntmps20
  go_wp2
  go_quiet (fail)
  go_wp2
  go_ret
  exact ⟨rfl, _, rfl⟩
theorem RAt.drews {w : World} {b fi : Nat} {nx : Int} {l : List D} (h : RAt w b nx fi l) (n : Nat) : RAt (w.drewN n) b nx fi l := h.of_block rfl

set_option maxRecDepth 10000 in
set_option maxHeartbeats 1000000 in
theorem open_no (b fi : Nat) (nx : Int) (l : List D) (w : World) (h : RAt w b nx fi l) (hn : l.length = 30 ∨ nx = 1000000) :
    Calls Try.prog 12 #[.pointer (some ⟨b, 0, none⟩)] w fun e w' => e = .returned (.tuple #[.int .i64 0, .bool false]) ∧ w' = w := by
  have c0 := h.c0
  have c2 := h.c2
  by_cases h3 : l.length = 30
  · rw [h3] at c2
    go_enter Try.func12, Try.ntmps12
    go_wp2
    go_ret2
    exact ⟨rfl, rfl⟩
  · have h4 : nx = 1000000 := by omega
    subst h4
    have h3' : ((l.length : Int) == 30) = false := beq_eq_false_iff_ne.2 (by omega)
    go_enter Try.func12, Try.ntmps12
    go_wp2
    go_ret2
    exact ⟨rfl, rfl⟩

set_option maxRecDepth 10000 in
set_option maxHeartbeats 1000000 in
theorem open_ok (b fi : Nat) (nx : Int) (l : List D) (w : World) (h : RAt w b nx fi l) (hl : l.length < 30) (h0 : 0 ≤ nx) (h1 : nx < 1000000) :
    Calls Try.prog 12 #[.pointer (some ⟨b, 0, none⟩)] w fun e w' =>
      e = .returned (.tuple #[.int .i64 nx, .bool true]) ∧ RAt w' b (nx + 1) fi (l ++ [⟨nx, false, ByteArray.empty⟩]) ∧ w.grownBy w' (some b) := by
  have c0 := h.c0
  have c2 := h.c2
  have hlt := h.lt
  have hfz := h.frozen
  have HA := hide (fun w (h : RAt w b nx fi l) => at_any b l.length fi nx l w h hl)
  have hp := pos_ge fi l.length
  have hq := pos_lt fi l.length
  obtain ⟨v0, d0⟩ := h.some (pos fi l.length) (by omega)
  obtain ⟨v1, d1⟩ := h.some (pos fi l.length + 1) (by omega)
  obtain ⟨v2, d2⟩ := h.some (pos fi l.length + 2) (by omega)
  have HS := hide (fun n => (h.drews n).snoc (id := nx) hl (nx + 1))
  have HR := hide h
  have HG : Hid (∀ n v0 v1 v2 v3 v4, w.grownBy ((((((w.drewN n).setCell ⟨b, pos fi l.length, none⟩ v0).setCell ⟨b, pos fi l.length + 1, none⟩ v1).setCell ⟨b, pos fi l.length + 2, none⟩ v2).setCell ⟨b, 2, none⟩ v3).setCell ⟨b, 0, none⟩ v4) (some b)) :=
    fun n v0 v1 v2 v3 v4 => gb_set (gb_set (gb_set (gb_set (gb_set (gb_below (r := some b) (bel_draws (Below.refl _ w) n) (Nat.le_refl _)) _ _) _ _) _ _) _ _) _ _
  generalize pos fi l.length = p at hp hq d0 d1 d2 HA HS HG
  have n0 : ¬ p = 0 := by omega
  have n2 : ¬ p = 2 := by omega
  have n3 : ¬ p + 1 = 0 := by omega
  have n4 : ¬ p + 1 = 2 := by omega
  have n5 : ¬ p + 2 = 0 := by omega
  have n6 : ¬ p + 2 = 2 := by omega
  have h3' : ((l.length : Int) == 30) = false := beq_eq_false_iff_ne.2 (by omega)
  have h4' : (nx == 1000000) = false := beq_eq_false_iff_ne.2 (by omega)
  clear h
  go_enter Try.func12, Try.ntmps12
  go_wp2_with fail
  refine (unhide HA _ (unhide HR)).mono ?_
  rintro e w1 ⟨rfl, n, rfl⟩
  go_wp2
  go_ret2
  exact ⟨rfl, unhide HS n, unhide HG n _ _ _ _ _⟩
end Rnd
end Go.Proofs.Ytedcmbegcmgfkaa
