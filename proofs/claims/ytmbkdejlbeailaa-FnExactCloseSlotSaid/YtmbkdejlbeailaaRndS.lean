/-
  The program's session(): the round's slots in a row of its own, texts copied.
-/
import Derived.Test.YtmbkdejlbeailaaRndA
import Derived.Test.YtmbkdejlbeailaaSessB
import Derived.Test.YtmbkdejlbeailaaCloneS
import Derived.Deep.DeepCutAuto
namespace Go.Proofs.Ytmbkdejlbeailaa
namespace Rnd
open Go.RowKit Base Slots Sess Marks OwnR SlotsW
set_option linter.unusedVariables false

set_option maxRecDepth 10000 in
set_option maxHeartbeats 2000000 in
theorem session_any (b fi : Nat) (nx : Int) (l : List D) (w : World) (h : RAt w b nx fi l) (hsm : Small l) :
    Calls Try.prog 38 #[.pointer (some ⟨b, 0, none⟩)] w fun e w' =>
      ∃ a c, e = .returned (.agg #[.int .i64 nx, .slice a l.length c]) ∧ OwnV w' w.heap.size (.slice a l.length c) l ∧ Below w.heap.size w w' := by
  obtain ⟨i0, hi, hz0, hz1, hz2⟩ := info_ex
  have HI := hide hi
  have HZ0 := hide hz0
  have HZ1 := hide hz1
  have HZ2 := hide hz2
  have hlt := h.lt
  have hlen := h.len
  have c0 := h.c0
  have c2 := h.c2
  have HR := hide (fun w' (hb : Below w.heap.size w w') => h.below hb hlt)
  have HA := hide (fun (k : Nat) (hk : k < 30) w (h : RAt w b nx fi l) => at_any b k fi nx l w h hk)
  have HT := hide (take_snoc l)
  have HSM := hide hsm
  clear hi hz0 hz1 hz2 h hsm
  go_enter Try.func38, Try.ntmps38
  go_wp2
  clear c2 c0
  go_loopw [15] (fun iv wr => ∃ (k : Nat) (v : Value), k ≤ l.length ∧ iv = .int .i64 k ∧ Hid (OwnV wr (w.heap.size + 2) v (l.take k)) ∧ Hid (Bx wr w.heap.size 0 (.slice none 0 0)) ∧ Hid (Bx wr (w.heap.size + 1) nx v) ∧ Hid (Below w.heap.size w wr)) (fun iv _ => l.length - (intOf iv).toNat)
  case atStart =>
    refine ⟨0, _, Nat.zero_le _, rfl, hide (own_nil _ _), hide ((bx_new w _ _).below (bel1 _ _) (by simp)), hide ?_, hide (bel2 w _ _)⟩
    have := bx_new (w.alloc (.cells #[.int .i64 0, .slice none 0 0] 29)) nx (.slice none 0 0)
    rw [World.size_alloc] at this
    exact this
  case round =>
    obtain ⟨k, v, hk, rfl, hown, hbx, hby, hbel⟩ := hrel
    by_cases hkl : k < l.length
    · have R1 := hide (unhide HR _ (unhide hbel))
      obtain ⟨d0, d1, d2⟩ := (unhide R1).slot k hkl
      have ht := hide (unhide HT k hkl)
      have hsz := unhide HSM k hkl
      have hn : (l.take k).length ≤ 30 := Nat.le_trans (List.length_take_le' k l) hlen
      generalize l.getD k zero = x at d0 d1 d2 ht hsz
      generalize l.take k = kept at hown ht hn
      obtain ⟨xi, xd, xa⟩ := x
      dsimp only at d0 d1 d2 hsz
      go_wp2_with fail
      refine (unhide HA k (by omega) _ (unhide R1)).mono ?_
      rintro e w1 ⟨rfl, n, hw1⟩
      have hQ : Below wr.heap.size wr w1 := by rw [hw1]; exact bel_draws (Below.refl _ _) n
      have hB1 := hide ((unhide hbel).trans (hQ.mono (unhide hbel).size))
      have hO1 := hide ((unhide hown).below hQ (Nat.le_refl _))
      have hX1 := hide ((unhide hbx).below hQ (unhide hbx).2.2.2)
      have hY1 := hide ((unhide hby).below hQ (unhide hby).2.2.2)
      have hz1 : wr.heap.size ≤ w1.heap.size := hQ.size
      have e0 : w1.cell? ⟨b, pos fi k, none⟩ = some (.int .i64 xi) := by rw [hw1]; exact d0
      have e1 : w1.cell? ⟨b, pos fi k + 1, none⟩ = some (.bool xd) := by rw [hw1]; exact d1
      have e2 : w1.cell? ⟨b, pos fi k + 2, none⟩ = some (.string xa) := by rw [hw1]; exact d2
      have hbw1 : b < w1.heap.size := by have := (unhide R1).lt; omega
      have hyz : w.heap.size + 1 < w1.heap.size := (unhide hY1).2.2.2
      clear hw1 d0 d1 d2 hown hbx hby hbel hQ R1
      go_wp2_with fail
      refine (CloneS.clone_any xa _ (by omega)).mono ?_
      rintro e w2 ⟨rfl, hb2⟩
      rw [World.size_alloc] at hb2
      have hb2' := (bel1 w1 (.cells #[.int .i64 xi, .bool xd, .string xa] 55)).trans (hb2.mono (by omega))
      have hz2 : w1.heap.size + 1 ≤ w2.heap.size := by have := hb2.size; simp at this; omega
      have o0 : w2.cell? ⟨w1.heap.size, 0, none⟩ = some (.int .i64 xi) := by rw [hb2.cell (p := ⟨w1.heap.size, 0, none⟩) (by simp)]; go_simp
      have o1 : w2.cell? ⟨w1.heap.size, 1, none⟩ = some (.bool xd) := by rw [hb2.cell (p := ⟨w1.heap.size, 1, none⟩) (by simp)]; go_simp
      have o2 : w2.cell? ⟨w1.heap.size, 2, none⟩ = some (.string xa) := by rw [hb2.cell (p := ⟨w1.heap.size, 2, none⟩) (by simp)]; go_simp
      have of : ∀ o, w2.frozen? ⟨w1.heap.size, o, none⟩ = false := fun o => by rw [hb2.frozen (p := ⟨w1.heap.size, o, none⟩) (by simp)]; go_simp
      have hoz : w1.heap.size < w2.heap.size := by omega
      have HB2 := hide hb2'
      clear hb2 hb2' e0 e1 e2
      go_upto_region 7 with fail
      have p0 : (w2.setCell ⟨w1.heap.size, 2, none⟩ (.string xa)).cell? ⟨w1.heap.size, 0, none⟩ = some (.int .i64 xi) := by go_simp
      have p1 : (w2.setCell ⟨w1.heap.size, 2, none⟩ (.string xa)).cell? ⟨w1.heap.size, 1, none⟩ = some (.bool xd) := by go_simp
      have p2 : (w2.setCell ⟨w1.heap.size, 2, none⟩ (.string xa)).cell? ⟨w1.heap.size, 2, none⟩ = some (.string xa) := by go_simp
      have hS := (unhide HB2).setCell (p := ⟨w1.heap.size, 2, none⟩) (Nat.le_refl _) (.string xa)
      have hX4 := hide ((unhide hX1).below hS (by omega))
      have hY4 := hide ((unhide hY1).below hS (by omega))
      have hB4 := hide ((unhide hB1).trans (hS.mono (by omega)))
      have hO4 := hide ((unhide hO1).below hS (Nat.le_refl _))
      have hz4 : w1.heap.size < (w2.setCell ⟨w1.heap.size, 2, none⟩ (.string xa)).heap.size := by simp [World.setCell]; omega
      generalize w2.setCell ⟨w1.heap.size, 2, none⟩ (.string xa) = w4 at p0 p1 p2 hX4 hY4 hB4 hO4 hz4 ⊢
      clear hS o0 o1 o2 of hX1 hY1 hB1 hO1 HB2 hoz hz2
      obtain ⟨y0, y1, yf, yz⟩ := unhide hY4
      have yz' : w.heap.size + 2 ≤ w4.heap.size := by omega
      go_wp2_with (at_builtin; go_loud (refine wpList_append_own _ rfl _ _ 27 rfl (w.heap.size + 2) 55 i0 _ 3 32 Try.underlying27 (unhide HI) (unhide HZ0) (unhide HZ1) (unhide HZ2) rfl (by decide) _ _ _ rfl ((unhide hO4).alloc _) ⟨w4.heap.size, 0, none⟩ 1 1 (cellsOf ⟨xi, xd, xa⟩) rfl rfl ?c1 ?c2 ?c3 ?c4 ?c5 ?_))
      case c1 => exact news_cells w4 ⟨xi, xd, xa⟩ _
      case c2 => exact news_one ⟨xi, xd, xa⟩
      case c3 => unfold maxLen; omega
      case c4 => omega
      case c5 => simp; omega
      intro v' w5 hown' hgrow _
      obtain ⟨a6, c6, hv6⟩ := own_form hown'
      subst hv6
      have O5 := hide (own_snoc (kept' := kept ++ [⟨xi, xd, xa⟩]) hown' rfl)
      have B5 := hide (((unhide hB4).alloc (by omega) _).grown hgrow (by simp; omega) (fun g e => by have := own_block (unhide hO4) g e; omega))
      have X5 := hide (((unhide hX4).below (bel1 w4 _) (by omega)).gb hgrow (fun e => by have := own_block (unhide hO4) _ e.symm; omega))
      have Y5 := hide (((unhide hY4).below (bel1 w4 _) (by omega)).gb hgrow (fun e => by have := own_block (unhide hO4) _ e.symm; omega))
      clear hown' hgrow y0 y1 yf yz hO4 hB4 hX4 hY4 p0 p1 p2
      obtain ⟨y0, y1, yf, yz⟩ := unhide Y5
      have X6 := hide ((unhide X5).other (p := ⟨w.heap.size + 1, 1, none⟩) (by simp) (.slice a6 (kept.length + 1) c6))
      have Y6 := hide ((unhide Y5).set1 (.slice a6 (kept.length + 1) c6))
      have B6 := hide ((unhide B5).setCell (p := ⟨w.heap.size + 1, 1, none⟩) (by simp) (.slice a6 (kept.length + 1) c6))
      have O6 := hide (OwnV.set (unhide O5) (p := ⟨w.heap.size + 1, 1, none⟩) (by simp) (.slice a6 (kept.length + 1) c6))
      go_wp2
      go_roundw
      case rel => exact ⟨k + 1, _, by omega, by go_num, hide (by rw [unhide ht]; exact unhide O6), X6, Y6, B6⟩
      case measure => simp [intOf]; omega
    · obtain rfl : k = l.length := by omega
      rw [List.take_length] at hown
      obtain ⟨a, c, rfl⟩ := (unhide hown).form
      obtain ⟨x0, x1, xf, xz⟩ := unhide hbx
      obtain ⟨y0, y1, yf, yz⟩ := unhide hby
      go_wp2
      refine bodyPost_ret (v := .agg #[.int .i64 nx, .slice a l.length c]) (by simp [results, Try.results38, go_sem, x0, x1]) rfl ⟨a, c, rfl, ?_, ?_⟩
      · refine OwnV.le (B := w.heap.size + 2) ?_ (by omega)
        repeat (refine OwnV.set ?_ (by first | (simp; done) | (simp; omega)) _)
        exact unhide hown
      · repeat (refine Below.setCell ?_ (by first | (simp; done) | (simp; omega)) _)
        exact unhide hbel
end Rnd
end Go.Proofs.Ytmbkdejlbeailaa
