/-
  The program's goOut: what is done at the front goes, its answers one behind the other.
-/
import Derived.Test.YtedcmbegcmgfkaaRndA
import Derived.Test.YtedcmbegcmgfkaaBld
import Derived.Deep.DeepCutAuto
namespace Go.Proofs.Ytedcmbegcmgfkaa
namespace Rnd
open Go.RowKit Base Slots Sess Marks
set_option linter.unusedVariables false

def lenOf (w : World) (b : Nat) : Nat := match w.cell? ⟨b, 2, none⟩ with
  | some (.int _ n) => n.toNat
  | _ => 0
theorem lenOf_eq {w : World} {b fi : Nat} {nx : Int} {l : List D} (h : RAt w b nx fi l) : lenOf w b = l.length := by
  unfold lenOf; rw [h.c2]; simp
theorem RAt.gb {w w' : World} {b fi : Nat} {nx : Int} {l : List D} {r : Option Nat} (h : RAt w b nx fi l) (hg : w.grownBy w' r) (hne : Option.some b ≠ r) : RAt w' b nx fi l := h.of_block (hg.block b h.lt hne)
theorem gb_bel {w w1 w2 : World} {r : Option Nat} {B : Nat} (h : w.grownBy w1 r) (hb : Below B w1 w2) (hB : w.heap.size ≤ B) : w.grownBy w2 r :=
  ⟨hb.os.trans h.os, hb.tape.trans h.tape, hb.output.trans h.output, Nat.le_trans h.size hb.size, fun k hk hne => (hb.block k (Nat.lt_of_lt_of_le hk hB)).trans (h.block k hk hne)⟩
theorem acc_list (acc s : ByteArray) : acc.data.toList ++ s.data.toList = (acc ++ s).data.toList := by simp
theorem acc_back (acc : ByteArray) : (⟨acc.data.toList.toArray⟩ : ByteArray) = acc := by
  apply Go.WideShapes.bytes_inj
  simp
theorem app_assoc (a b c : ByteArray) : a ++ (b ++ c) = a ++ b ++ c := (ByteArray.append_assoc).symm
theorem app_empty (a : ByteArray) : a ++ ByteArray.empty = a := by simp

set_option maxRecDepth 10000 in
set_option maxHeartbeats 2000000 in
theorem goOut_any (b fi : Nat) (nx : Int) (l : List D) (w : World) (h : RAt w b nx fi l) (hsm : Small l) :
    Calls Try.prog 23 #[.pointer (some ⟨b, 0, none⟩)] w fun e w' =>
      e = .returned (.string (popS l)) ∧ (∃ fi', RAt w' b nx fi' (popL l)) ∧ w.grownBy w' (some b) := by
  have hlt := h.lt
  have HR := hide h
  have HSM := hide hsm
  have hlen := h.len
  have HF : Hid (Bld.IsB w.heap.size w.heap.size [] (w.alloc (.cells #[.pointer none, .slice none 0 0] 63))) := Bld.fresh w
  clear h hsm
  go_enter Try.func23, Try.ntmps23
  go_wp2
  go_loopw [4] (fun _ wr => ∃ (l' : List D) (fi' : Nat) (acc : ByteArray), l'.length ≤ 30 ∧ acc.size + 3000 * l'.length ≤ 90000 ∧ Hid (RAt wr b nx fi' l') ∧ Hid (Small l') ∧ Hid (Bld.IsB w.heap.size w.heap.size acc.data.toList wr) ∧ Hid (popS l = acc ++ popS l') ∧ Hid (popL l = popL l') ∧ Hid (w.grownBy wr (some b))) (fun _ wr => lenOf wr b)
  case atStart => exact ⟨l, fi, ByteArray.empty, hlen, by simp; omega, hide ((unhide HR).below (bel1 w _) hlt), HSM, HF, hide (by simp), hide rfl, hide (gb_below (bel1 w _) (Nat.le_refl _))⟩
  case round =>
    obtain ⟨l', fi', acc, hl', hacc, R1, S1, I1, P1, L1, G1⟩ := hrel
    have hbw := (unhide R1).lt
    have hBz := (unhide I1).lt.2
    cases l' with
    | nil =>
      have c2 := (unhide R1).c2
      have hP : Hid (popS l = acc) := (unhide P1).trans (app_empty acc)
      have hL : Hid (RAt wr b nx fi' (popL l)) := by rw [unhide L1]; exact unhide R1
      clear P1 L1
      go_wp2_with fail
      refine (Bld.string_any w.heap.size w.heap.size _ _ (unhide I1) (by omega)).mono ?_
      rintro e w2 ⟨rfl, hb2⟩
      rw [acc_back, ← unhide hP]
      have R2 := hide ((unhide hL).below hb2 hlt)
      have G2 := hide (gb_bel (unhide G1) hb2 (Nat.le_refl _))
      go_wp2
      go_ret
      exact ⟨rfl, ⟨fi', unhide R2⟩, unhide G2⟩
    | cons x r =>
      have c2 := (unhide R1).c2
      rw [List.length_cons] at c2 hl' hacc
      have hpos : (0 : Int) < ((r.length + 1 : Nat) : Int) := by omega
      have hpos' : decide ((0 : Int) < ((r.length + 1 : Nat) : Int)) = true := decide_eq_true hpos
      have hx : x.answer.size ≤ 3000 := unhide S1 0 (by simp)
      have SR : Hid (Small r) := fun i hi => unhide S1 (i + 1) (by simpa using hi)
      have HA := hide (fun w (h : RAt w b nx fi' (x :: r)) => at_any b 0 fi' nx (x :: r) w h (by omega))
      obtain ⟨d0, d1, d2⟩ := (unhide R1).slot 0 (by simp)
      rw [show (x :: r).getD 0 zero = x from rfl] at d0 d1 d2
      generalize hpf : pos fi' 0 = pf at d0 d1 d2 HA
      clear hpf
      obtain ⟨xi, xd, xa⟩ := x
      dsimp only at d0 d1 d2 hx
      cases xd
      · have hP : Hid (popS l = acc) := (unhide P1).trans (by rw [(pop_cons_open (x := ⟨xi, false, xa⟩) (r := r) rfl).2]; exact app_empty acc)
        have hL : Hid (∀ n, RAt (wr.drewN n) b nx fi' (popL l)) := fun n => by rw [unhide L1, (pop_cons_open (x := ⟨xi, false, xa⟩) (r := r) rfl).1]; exact (unhide R1).drews n
        have I2 := hide (fun n => (unhide I1).gb (gb_below (r := none) (bel_draws (Below.refl _ wr) n) (Nat.le_refl _)) (by simp))
        have G2 := hide (fun n => gb_bel (unhide G1) (bel_draws (Below.refl w.heap.size wr) n) (Nat.le_refl _))
        clear P1 L1
        go_wp2_with fail
        refine (unhide HA _ (unhide R1)).mono ?_
        rintro e w1 ⟨rfl, n, rfl⟩
        go_wp2_with fail
        refine (Bld.string_any w.heap.size w.heap.size _ _ (unhide I2 n) (by exact Nat.le_of_lt hBz)).mono ?_
        rintro e w2 ⟨rfl, hb2⟩
        rw [acc_back, ← unhide hP]
        have R2 := hide ((unhide hL n).below hb2 hlt)
        have G3 := hide (gb_bel (unhide G2 n) hb2 (Nat.le_refl _))
        go_wp2
        go_ret
        exact ⟨rfl, ⟨fi', unhide R2⟩, unhide G3⟩
      · have hP : Hid (popS l = (acc ++ xa) ++ popS r) := (unhide P1).trans (by rw [(pop_cons_done (x := ⟨xi, true, xa⟩) (r := r) rfl).2]; exact app_assoc _ _ _)
        have hL : Hid (popL l = popL r) := (unhide L1).trans (pop_cons_done (x := ⟨xi, true, xa⟩) (r := r) rfl).1
        have hM : Hid (lenOf wr b = r.length + 1) := lenOf_eq (unhide R1)
        clear P1 L1
        go_wp2_with fail
        refine (unhide HA _ (unhide R1)).mono ?_
        rintro e w1 ⟨rfl, n, hw1⟩
        have R2 : Hid (RAt w1 b nx fi' (⟨xi, true, xa⟩ :: r)) := by rw [hw1]; exact (unhide R1).drews n
        have I2 : Hid (Bld.IsB w.heap.size w.heap.size acc.data.toList w1) := by rw [hw1]; exact (unhide I1).gb (gb_below (r := none) (bel_draws (Below.refl _ wr) n) (Nat.le_refl _)) (by simp)
        have G2 : Hid (w.grownBy w1 (some b)) := by rw [hw1]; exact gb_bel (unhide G1) (bel_draws (Below.refl w.heap.size wr) n) (Nat.le_refl _)
        have e1 : w1.cell? ⟨b, pf + 1, none⟩ = some (.bool true) := by rw [hw1]; exact d1
        have e2 : w1.cell? ⟨b, pf + 2, none⟩ = some (.string xa) := by rw [hw1]; exact d2
        clear hw1 d0 d1 d2 c2
        go_wp2_with fail
        refine (unhide HA _ (unhide R2)).mono ?_
        rintro e w3 ⟨rfl, m, hw3⟩
        have R3 : Hid (RAt w3 b nx fi' (⟨xi, true, xa⟩ :: r)) := by rw [hw3]; exact (unhide R2).drews m
        have I3 : Hid (Bld.IsB w.heap.size w.heap.size acc.data.toList w3) := by rw [hw3]; exact (unhide I2).gb (gb_below (r := none) (bel_draws (Below.refl _ w1) m) (Nat.le_refl _)) (by simp)
        have G3 : Hid (w.grownBy w3 (some b)) := by rw [hw3]; exact gb_bel (unhide G2) (bel_draws (Below.refl w.heap.size w1) m) (Nat.le_refl _)
        have e3 : w3.cell? ⟨b, pf + 2, none⟩ = some (.string xa) := by rw [hw3]; exact e2
        clear hw3 e1 e2
        have hal : acc.data.toList.length = acc.size := by simp
        go_wp2_with fail
        refine (Bld.write_any w.heap.size w.heap.size acc.data.toList xa _ (unhide I3) (by omega) (unhide G3).size).mono ?_
        rintro e w4 ⟨rfl, hI4, hb4⟩
        rw [acc_list] at hI4
        have R4 := hide ((unhide R3).below hb4 hlt)
        have G4 := hide (gb_bel (unhide G3) hb4 (Nat.le_refl _))
        have I4 := hide hI4
        clear hI4 hb4 e3 I3 G3 R3 I2 G2 R2
        have c1 := (unhide R4).c1
        have c2 := (unhide R4).c2
        have ff := (unhide R4).frozen
        rw [List.length_cons] at c2
        obtain ⟨m', hm'⟩ : ∃ m', m' = (fi' + 1) % 30 := ⟨_, rfl⟩
        have he : ((fi' : Int) + 1) % 30 = (m' : Int) := by omega
        have hfi := (unhide R4).fi_lt
        have R5 := hide (unhide R4).tail
        rw [← hm'] at R5
        clear hm'
        have I5 := hide ((unhide I4).gb (gb_set (gb_set (gb_refl w4 (some b)) 1 (.int .i64 (m' : Int))) 2 (.int .i64 r.length)) (fun k e => by simp at e; omega))
        have G5 := hide (gb_set (gb_set (unhide G4) 1 (.int .i64 (m' : Int))) 2 (.int .i64 r.length))
        have hM5 := hide (lenOf_eq (unhide R5))
        have hsz : (acc ++ xa).size + 3000 * r.length ≤ 90000 := by rw [ByteArray.size_append]; omega
        go_wp2
        go_roundw
        case rel => exact ⟨r, m', acc ++ xa, by omega, hsz, R5, SR, I5, hP, hL, G5⟩
        case measure => rw [unhide hM]; exact Nat.lt_of_le_of_lt (Nat.le_of_eq (unhide hM5)) (Nat.lt_succ_self _)
end Rnd
end Go.Proofs.Ytedcmbegcmgfkaa
