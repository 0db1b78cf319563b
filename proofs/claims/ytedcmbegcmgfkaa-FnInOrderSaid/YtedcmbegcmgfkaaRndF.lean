/-
  The program's finish: a slot is closed, and what is done at the front goes out.
-/
import Derived.Test.YtedcmbegcmgfkaaRndG
namespace Go.Proofs.Ytedcmbegcmgfkaa
namespace Rnd
open Go.RowKit Base Slots Sess Marks
set_option linter.unusedVariables false

structure Fin where
  l : List D
  s : ByteArray
  ok : Bool
def finR (l : List D) (id : Int) (ans : ByteArray) : Fin := if ans.size ≤ 3000 ∧ anyB l id = true then ⟨popL (closeL l id ans), popS (closeL l id ans), true⟩ else ⟨l, ByteArray.empty, false⟩
theorem fin_long {l : List D} {id : Int} {ans : ByteArray} (h : ¬ ans.size ≤ 3000) : finR l id ans = ⟨l, ByteArray.empty, false⟩ := by unfold finR; rw [if_neg (fun q => h q.1)]
theorem fin_none {l : List D} {id : Int} {ans : ByteArray} (h : ∀ i, i < l.length → hitB id (l.getD i zero) = false) : finR l id ans = ⟨l, ByteArray.empty, false⟩ := by
  unfold finR; rw [if_neg (fun q => by rw [any_none h] at q; simp at q)]
theorem fin_hit {l : List D} {id : Int} {ans : ByteArray} {i : Nat} (h : ans.size ≤ 3000) (hi : i < l.length) (hh : hitB id (l.getD i zero) = true) : finR l id ans = ⟨popL (closeL l id ans), popS (closeL l id ans), true⟩ := by
  unfold finR; rw [if_pos ⟨h, any_hit hi hh⟩]
def FinEnd (T : Fin) (b : Nat) (nx : Int) (w : World) (e : Ending) (w' : World) : Prop := e = .returned (.tuple #[.string T.s, .bool T.ok]) ∧ (∃ fi', RAt w' b nx fi' T.l) ∧ w.grownBy w' (some b)

set_option maxRecDepth 10000 in
set_option maxHeartbeats 2000000 in
theorem finish_any (b fi : Nat) (nx : Int) (l : List D) (id : Int) (ans : ByteArray) (w : World) (h : RAt w b nx fi l) (hri : Rising l) (hsm : Small l) :
    Calls Try.prog 14 #[.pointer (some ⟨b, 0, none⟩), .int .i64 id, .string ans] w (FinEnd (finR l id ans) b nx w) := by
  have hlt := h.lt
  have hlen := h.len
  have c2 := h.c2
  have HR := hide h
  by_cases g1 : 3000 < (ans.size : Int)
  · rw [fin_long (by omega)]
    clear h
    go_enter Try.func14, Try.ntmps14
    go_wp2
    go_ret2
    exact ⟨rfl, ⟨fi, unhide HR⟩, gb_refl _ _⟩
  have HNO := hide (@fin_none l id ans)
  have HHI := hide (fun i => @fin_hit l id ans i (by omega))
  have HSH := hide (fun w' i (h' : RAt w' b nx fi l) => RAt.shuts (id := id) (ans := ans) (i := i) h' hri)
  have HSM := hide (close_small hsm id (ans := ans) (by omega))
  have HA := hide (fun (k : Nat) (hk : k < 30) w (h : RAt w b nx fi l) => at_any b k fi nx l w h hk)
  generalize finR l id ans = T at HNO HHI ⊢
  clear h hri hsm
  go_enter Try.func14, Try.ntmps14
  go_wp2
  clear c2
  go_loopw [17] (fun iv wr => ∃ k : Nat, k ≤ l.length ∧ iv = .int .i64 k ∧ Hid (∀ j, j < k → hitB id (l.getD j zero) = false) ∧ Hid (RAt wr b nx fi l) ∧ Hid (w.grownBy wr (some b))) (fun iv _ => l.length - (intOf iv).toNat)
  case atStart => exact ⟨0, Nat.zero_le _, rfl, hide (fun j hj => absurd hj (by omega)), HR, hide (gb_refl _ _)⟩
  case round =>
    obtain ⟨k, hk, rfl, hno, R1, G1⟩ := hrel
    by_cases hkl : k < l.length
    · obtain ⟨d0, d1, d2⟩ := (unhide R1).slot k hkl
      have hbw := (unhide R1).lt
      have hff := (unhide R1).frozen
      have HH := hide (unhide HHI k)
      have HS := hide (fun w' h' => unhide HSH w' k h' hkl)
      have hstep : Hid (hitB id (l.getD k zero) = false → ∀ j, j < k + 1 → hitB id (l.getD j zero) = false) := fun hf j hj => by
        by_cases e : j = k
        · rw [e]; exact hf
        · exact unhide hno j (by omega)
      have HP := pos_lt fi k
      generalize l.getD k zero = x at d0 d1 d2 HH HS hstep
      generalize hpf : pos fi k = pf at d0 d1 d2 HS HP
      have HPF := hide hpf
      clear hpf
      obtain ⟨xi, xd, xa⟩ := x
      dsimp only at d0 d1 d2
      have hA1 := fun w (h : RAt w b nx fi l) => unhide HA k (by omega) w h
      rw [unhide HPF] at hA1
      have HA1 := hide hA1
      clear hA1
      by_cases q : xi = id
      · cases xd
        · have hh : hitB id ⟨xi, false, xa⟩ = true := by simp [hitB, q]
          have HT : Hid (T = _) := hide (unhide HH hkl hh)
          have HS1 := hide (fun w' h' => unhide HS w' h' hh)
          clear HH HS hstep hh
          have q' : (xi == id) = true := by simp [q]
          have HT' := unhide HT
          subst HT'
          go_wp2_with fail
          refine (unhide HA1 _ (unhide R1)).mono ?_
          rintro e w1 ⟨rfl, n, hw1⟩
          have R2 : Hid (RAt w1 b nx fi l) := by rw [hw1]; exact (unhide R1).drews n
          have G2 : Hid (w.grownBy w1 (some b)) := by rw [hw1]; exact gb_bel (unhide G1) (bel_draws (Below.refl w.heap.size wr) n) (Nat.le_refl _)
          have e0 : w1.cell? ⟨b, pf, none⟩ = some (.int .i64 xi) := by rw [hw1]; exact d0
          have e1 : w1.cell? ⟨b, pf + 1, none⟩ = some (.bool false) := by rw [hw1]; exact d1
          have e2 : w1.cell? ⟨b, pf + 2, none⟩ = some (.string xa) := by rw [hw1]; exact d2
          have ef : ∀ o, w1.frozen? ⟨b, o, none⟩ = false := (unhide R2).frozen
          clear hw1 d0 d1 d2 hff R1 G1
          have R3 := hide (unhide HS1 _ (unhide R2))
          have G3 := hide (gb_set (gb_set (unhide G2) (pf + 1) (.bool true)) (pf + 2) (.string ans))
          go_wp2_with fail
          generalize (w1.setCell ⟨b, pf + 1, none⟩ (.bool true)).setCell ⟨b, pf + 2, none⟩ (.string ans) = w3 at R3 G3 ⊢
          clear e0 e1 e2 ef R2 G2
          refine (goOut_any b fi nx (closeL l id ans) _ (unhide R3) (unhide HSM)).mono ?_
          rintro e w4 ⟨rfl, ⟨fi4, hR4⟩, hG4⟩
          have R4 := hide hR4
          have G4 := hide (gb_trans (unhide G3) hG4)
          clear hR4 hG4
          go_wp2
          go_ret2
          exact ⟨rfl, ⟨fi4, unhide R4⟩, unhide G4⟩
        · have hno' := hide (unhide hstep (by simp [hitB]))
          have q' : (xi == id) = true := by simp [q]
          clear HH HS hstep
          go_wp2_with fail
          refine (unhide HA1 _ (unhide R1)).mono ?_
          rintro e w1 ⟨rfl, n, rfl⟩
          go_wp2
          go_roundw
          case rel => exact ⟨k + 1, by omega, by go_num, hno', hide ((unhide R1).drews n), hide (gb_bel (unhide G1) (bel_draws (Below.refl w.heap.size wr) n) (Nat.le_refl _))⟩
          case measure => simp [intOf]; omega
      · have hno' := hide (unhide hstep (by simp [hitB, q]))
        have q' : (xi == id) = false := by simp [q]
        clear HH HS hstep
        go_wp2_with fail
        refine (unhide HA1 _ (unhide R1)).mono ?_
        rintro e w1 ⟨rfl, n, rfl⟩
        go_wp2
        go_roundw
        case rel => exact ⟨k + 1, by omega, by go_num, hno', hide ((unhide R1).drews n), hide (gb_bel (unhide G1) (bel_draws (Below.refl w.heap.size wr) n) (Nat.le_refl _))⟩
        case measure => simp [intOf]; omega
    · obtain rfl : k = l.length := by omega
      have HT := hide (unhide HNO (unhide hno))
      have HT' := unhide HT
      subst HT'
      go_wp2
      go_ret2
      exact ⟨rfl, ⟨fi, unhide R1⟩, unhide G1⟩
end Rnd
end Go.Proofs.Ytedcmbegcmgfkaa
