/-
  The model's l5Close: the slots with that id are closed, in a row of the call's own; what is done at the front goes.
-/
import Derived.Test.YtedcmbegcmgfkaaCloseP
import Derived.Test.YtedcmbegcmgfkaaOpenS
namespace Go.Proofs.Ytedcmbegcmgfkaa
namespace Sess
open Go.RowKit Base Slots Marks OwnR SlotsW Rnd
set_option linter.unusedVariables false

theorem app_assoc (a b c : ByteArray) : a ++ (b ++ c) = a ++ b ++ c := (ByteArray.append_assoc).symm
theorem app_empty (a : ByteArray) : a ++ ByteArray.empty = a := by simp
theorem gt_free {g H : Nat} (h : H + 2 ≤ g) : ¬ g = H ∧ ¬ H = g ∧ ¬ g = H + 1 ∧ ¬ H + 1 = g := by omega

def lenS (w : World) (H : Nat) : Nat := match w.cell? ⟨H, 1, none⟩ with
  | some (.slice _ n _) => n
  | _ => 0
theorem lenS_eq {w : World} {H : Nat} {n : Int} {a : Option Addr} {m c : Nat} (h : Bx w H n (.slice a m c)) : lenS w H = m := by unfold lenS; rw [h.2.1]
theorem sl_len {a : Option Addr} {n m c : Nat} (h : n = m) : Value.slice a n c = .slice a m c := by rw [h]

set_option maxRecDepth 10000 in
set_option maxHeartbeats 4000000 in
theorem l5Close_any (nx : Int) (a : Option Addr) (n cap : Nat) (l : List D) (id : Int) (ans : ByteArray) (w : World) (hs : Src w a n cap l) (hl : l.length ≤ 100) (hsm : Small l) (hans : ans.size ≤ 3000) :
    Calls Try.prog 18 #[.agg #[.int .i64 nx, .slice a n cap], .int .i64 id, .string ans] w fun e w' =>
      ∃ g o c, e = .returned (.tuple #[.agg #[.int .i64 nx, .slice (some ⟨g, o, none⟩) (popL (closeL l id ans)).length c], .string (popS (closeL l id ans)), .bool (anyB l id)]) ∧ Rst w' g o c (popL (closeL l id ans)) ∧ w.heap.size ≤ g ∧ Below w.heap.size w w' := by
  obtain ⟨L, hL⟩ : ∃ L, L = closeL l id ans := ⟨_, rfl⟩
  obtain ⟨AF, hAF⟩ : ∃ AF, AF = anyB l id := ⟨_, rfl⟩
  rw [← hL, ← hAF]
  have HL := hide hL
  have HAF := hide hAF
  clear hL hAF
  obtain ⟨W, hW⟩ : ∃ W, W = (w.alloc (.cells #[.int .i64 nx, .slice a n cap] 52)).alloc (.cells #[.int .i64 0, .slice none 0 0] 52) := ⟨_, rfl⟩
  have hBW : Below w.heap.size w W := by rw [hW]; exact bel2 w _ _
  have hzW : w.heap.size + 2 ≤ W.heap.size := by rw [hW]; simp
  have hX : Bx W w.heap.size nx (.slice a n cap) := by rw [hW]; exact (bx_new w nx _).below (bel1 _ _) (by simp)
  have hY : Bx W (w.heap.size + 1) 0 (.slice none 0 0) := by
    rw [hW]
    have := bx_new (w.alloc (.cells #[.int .i64 nx, .slice a n cap] 52)) 0 (.slice none 0 0)
    rw [World.size_alloc] at this
    exact this
  have hn := hs.len
  have hn100 : n ≤ 100 := by omega
  have hS := hs.below hBW (Nat.le_refl _)
  have E1 : Hid (OwnV (W.alloc (.cells #[] 41)) W.heap.size (.slice (some ⟨W.heap.size, 0, none⟩) 0 0) []) := row_empty W (Nat.le_refl _)
  have S1 : Hid (Src (W.alloc (.cells #[] 41)) a n cap l) := hS.below (bel1 W _) (Nat.le_refl _)
  have HBW := hide hBW
  have HX := hide hX
  have HY := hide hY
  have HWE := hide hW
  have HN := hide hn
  have HSM := hide hsm
  have HCS := hide (close_small hsm id hans)
  obtain ⟨x0, x1, xf, xz⟩ := hX
  have sz1 : (W.alloc (.cells #[] 41)).heap.size = W.heap.size + 1 := World.size_alloc _ _
  clear hs hS hBW hY hW hn hsm
  go_enter Try.func18, Try.ntmps18
  go_upto_region 1 with fail
  rw [← unhide HWE]
  clear HWE
  go_wp2_with (at_builtin; go_loud (refine list_src _ rfl (.tmp 13) (.tmp 15) rfl W.heap.size W.heap.size 0 0 [] rfl (unhide E1) rfl a n cap l rfl (unhide S1) n (by omega) (by omega) (by simp) ?_))
  intro g1 c1 w1 hown1 hg1
  obtain ⟨hrow1, hgg, _, hlc⟩ := own_row hown1
  have hn := unhide HN
  subst hn
  have HB1 := hide ((bel1 W _).grown hg1 (by simp) (fun k e => by simp at e; omega))
  have R1 := hide hrow1
  have X1 := hide ((unhide HX).below (unhide HB1) xz)
  have Y1 := hide ((unhide HY).below (unhide HB1) (by omega))
  have B1 := hide ((unhide HBW).trans ((unhide HB1).mono (by omega)))
  clear hown1 hrow1 hg1 x0 x1 xf xz HX HY E1 S1 sz1
  have hgH : w.heap.size + 2 ≤ g1 := by omega
  obtain ⟨q1, q2, q3, q4⟩ := gt_free hgH
  obtain ⟨x0, x1, xf, xz⟩ := unhide X1
  have X2 := hide ((unhide X1).set1 (.slice (some ⟨g1, 0, none⟩) l.length c1))
  have Y2 := hide ((unhide Y1).other (p := ⟨w.heap.size, 1, none⟩) (by simp) (.slice (some ⟨g1, 0, none⟩) l.length c1))
  have R2 := hide ((unhide R1).of_block (w' := w1.setCell ⟨w.heap.size, 1, none⟩ (.slice (some ⟨g1, 0, none⟩) l.length c1)) (Below.heap_setCell _ _ _ _ (by simpa using q1)))
  have B2 := hide ((unhide B1).setCell (p := ⟨w.heap.size, 1, none⟩) (Nat.le_refl _) (.slice (some ⟨g1, 0, none⟩) l.length c1))
  go_upto_region 3 with fail
  generalize w1.setCell ⟨w.heap.size, 1, none⟩ (.slice (some ⟨g1, 0, none⟩) l.length c1) = w2 at X2 Y2 R2 B2 ⊢
  clear x0 x1 xf xz X1 Y1 R1 B1 HB1 HBW
  obtain ⟨x0, x1, xf, xz⟩ := unhide X2
  go_wp2
  clear x0 x1 xf xz
  go_loopw [9, 21] (fun fv iv wr => ∃ (k : Nat) (fd : Bool), k ≤ l.length ∧ fv = .bool fd ∧ iv = .int .i64 k ∧ Hid (fd = anyB (l.take k) id) ∧ Hid (RowAt wr g1 41 (l.length * 3) (icell (mixL l k id ans))) ∧ Hid (Bx wr w.heap.size nx (.slice (some ⟨g1, 0, none⟩) l.length c1)) ∧ Hid (Bx wr (w.heap.size + 1) 0 (.slice none 0 0)) ∧ Hid (Below w.heap.size w wr)) (fun _ iv _ => l.length - (intOf iv).toNat)
  case atStart => exact ⟨0, false, Nat.zero_le _, rfl, rfl, hide rfl, hide (by rw [mix_0]; exact unhide R2), X2, Y2, B2⟩
  case round =>
    obtain ⟨k, fd, hk, rfl, rfl, hfd, R3, X3, Y3, B3⟩ := hrel
    by_cases hkl : k < l.length
    · obtain ⟨d0, d1, d2⟩ := row_at (l := mixL l k id ans) (by rw [mix_len]; exact unhide R3) k (by rw [mix_len]; exact hkl)
      rw [mix_at l k id ans hkl] at d0 d1 d2
      have hgw := (unhide R3).lt
      have HHIT := hide (mix_hit l k id ans hkl)
      have HMISS := hide (mix_miss l k id ans hkl)
      have HANY := any_take l k id hkl
      rw [← unhide hfd] at HANY
      clear hfd
      generalize l.getD k zero = x at d0 d1 d2 HHIT HMISS HANY
      obtain ⟨xi, xd, xa⟩ := x
      dsimp only at d0 d1 d2
      have R4 := hide ((unhide R3).below (bel1 wr (.cells #[.int .i64 xi, .bool xd, .string xa] 41)) hgw)
      have X4 := hide ((unhide X3).below (bel1 wr (.cells #[.int .i64 xi, .bool xd, .string xa] 41)) (unhide X3).2.2.2)
      have Y4 := hide ((unhide Y3).below (bel1 wr (.cells #[.int .i64 xi, .bool xd, .string xa] 41)) (unhide Y3).2.2.2)
      have B4 := hide ((unhide B3).alloc (unhide B3).size (.cells #[.int .i64 xi, .bool xd, .string xa] 41))
      have e0 : (wr.alloc (.cells #[.int .i64 xi, .bool xd, .string xa] 41)).cell? ⟨wr.heap.size, 0, none⟩ = some (.int .i64 xi) := by go_simp
      have e1 : (wr.alloc (.cells #[.int .i64 xi, .bool xd, .string xa] 41)).cell? ⟨wr.heap.size, 1, none⟩ = some (.bool xd) := by go_simp
      go_upto_region 6 with fail
      generalize wr.alloc (.cells #[.int .i64 xi, .bool xd, .string xa] 41) = w4 at R4 X4 Y4 B4 e0 e1 ⊢
      clear d0 d1 d2 R3 X3 Y3 B3
      by_cases q : xi = id
      · have q' : (xi == id) = true := by simp [q]
        cases xd
        · have hh : hitB id ⟨xi, false, xa⟩ = true := by simp [hitB, q]
          have HA := hide (HANY.trans (by rw [hh, Bool.or_true]))
          have HCG := hide (unhide HHIT hh)
          have d0 := (unhide R4).cell (i := k * 3) (by omega)
          have d1 := (unhide R4).cell (i := k * 3 + 1) (by omega)
          have d2 := (unhide R4).cell (i := k * 3 + 2) (by omega)
          have df := (unhide R4).frozen
          generalize icell (mixL l k id ans) (k * 3) = u0 at d0
          generalize icell (mixL l k id ans) (k * 3 + 1) = u1 at d1
          generalize icell (mixL l k id ans) (k * 3 + 2) = u2 at d2
          have R5 := hide ((((unhide R4).set (k * 3) (.int .i64 id)).set (k * 3 + 1) (.bool true)).set (k * 3 + 2) (.string ans))
          have X5 := hide ((((unhide X4).other (p := ⟨g1, k * 3, none⟩) q1 (.int .i64 id)).other (p := ⟨g1, k * 3 + 1, none⟩) q1 (.bool true)).other (p := ⟨g1, k * 3 + 2, none⟩) q1 (.string ans))
          have Y5 := hide ((((unhide Y4).other (p := ⟨g1, k * 3, none⟩) q3 (.int .i64 id)).other (p := ⟨g1, k * 3 + 1, none⟩) q3 (.bool true)).other (p := ⟨g1, k * 3 + 2, none⟩) q3 (.string ans))
          have B5 := hide ((((unhide B4).setCell (p := ⟨g1, k * 3, none⟩) (show w.heap.size ≤ g1 by omega) (.int .i64 id)).setCell (p := ⟨g1, k * 3 + 1, none⟩) (show w.heap.size ≤ g1 by omega) (.bool true)).setCell (p := ⟨g1, k * 3 + 2, none⟩) (show w.heap.size ≤ g1 by omega) (.string ans))
          obtain ⟨x0, x1, xf, xz⟩ := unhide X4
          clear HHIT HMISS HANY hh
          go_wp2
          go_roundw
          case rel => exact ⟨k + 1, true, by omega, rfl, by go_num, hide (unhide HA).symm, hide ((unhide R5).congr (fun j hj => unhide HCG j hj)), X5, Y5, B5⟩
          case measure => simp [intOf]; omega
        · have hh : hitB id ⟨xi, true, xa⟩ = false := by simp [hitB]
          have HA := hide (HANY.trans (by rw [hh, Bool.or_false]))
          have HCG := hide (unhide HMISS hh)
          clear HHIT HMISS HANY hh
          go_wp2
          go_roundw
          case rel => exact ⟨k + 1, fd, by omega, rfl, by go_num, hide (unhide HA).symm, hide ((unhide R4).congr (fun j hj => unhide HCG j hj)), X4, Y4, B4⟩
          case measure => simp [intOf]; omega
      · have q' : (xi == id) = false := by simp [q]
        have hh : hitB id ⟨xi, xd, xa⟩ = false := by simp [hitB, q]
        have HA := hide (HANY.trans (by rw [hh, Bool.or_false]))
        have HCG := hide (unhide HMISS hh)
        clear HHIT HMISS HANY hh
        go_wp2
        go_roundw
        case rel => exact ⟨k + 1, fd, by omega, rfl, by go_num, hide (unhide HA).symm, hide ((unhide R4).congr (fun j hj => unhide HCG j hj)), X4, Y4, B4⟩
        case measure => simp [intOf]; omega
    · obtain rfl : k = l.length := by omega
      rw [any_all] at hfd
      rw [mix_all] at R3
      have T3 : Hid (Rst wr g1 0 c1 (closeL l id ans)) := by
        refine ⟨(unhide R3).lt, by rw [closeL_len]; exact hlc, fun i hi => ?_⟩
        rw [Nat.zero_add]
        exact row_at (by rw [closeL_len]; exact unhide R3) i hi
      have X3' : Hid (Bx wr w.heap.size nx (.slice (some ⟨g1, 0, none⟩) (closeL l id ans).length c1)) := by rw [closeL_len]; exact unhide X3
      have hcl : (closeL l id ans).length ≤ 100 := by rw [closeL_len]; exact hl
      have hfd' := (unhide hfd).trans (unhide HAF).symm
      subst hfd'
      have hLe : Hid (closeL l id ans = L) := (unhide HL).symm
      rw [unhide hLe] at T3 X3' hcl HCS
      clear hfd R3 X3 R2 X2 Y2 B2 HSM HN HAF HL hLe
      go_wp2
      go_loopw [12] (fun ov wr => ∃ (l' : List D) (acc : ByteArray) (o c : Nat), l'.length ≤ 100 ∧ acc.size + 3000 * l'.length ≤ 300000 ∧ ov = .string acc ∧ Hid (Small l') ∧ Hid (Rst wr g1 o c l') ∧ Hid (Bx wr w.heap.size nx (.slice (some ⟨g1, o, none⟩) l'.length c)) ∧ Hid (Bx wr (w.heap.size + 1) 0 (.slice none 0 0)) ∧ Hid (Below w.heap.size w wr) ∧ Hid (popS L = acc ++ popS l') ∧ Hid (popL L = popL l')) (fun _ wr => lenS wr w.heap.size)
      case atStart => exact ⟨L, ByteArray.empty, 0, c1, hcl, by simp; omega, rfl, HCS, T3, X3', Y3, B3, hide (by simp), hide rfl⟩
      case round =>
        clear T3 X3' Y3 B3
        obtain ⟨l', acc, o, c, hl', hacc, rfl, SM, T4, X4, Y4, B4, PS, PL⟩ := hrel
        obtain ⟨x0, x1, xf, xz⟩ := unhide X4
        obtain ⟨y0, y1, yf, yz⟩ := unhide Y4
        cases l' with
        | nil =>
          rw [List.length_nil] at x1
          have ES : Hid (popS L = acc) := (unhide PS).trans (app_empty acc)
          have EL : Hid (popL L = []) := unhide PL
          clear PS PL
          go_wp2
          refine bodyPost_ret (v := .tuple #[.agg #[.int .i64 nx, .slice (some ⟨g1, o, none⟩) 0 c], .string acc, .bool fd]) (by simp [results, Try.results18, go_sem, y0, y1]) rfl ?_
          rw [unhide ES, unhide EL]
          refine ⟨g1, o, c, rfl, ?_, by omega, ?_⟩
          · refine Rst.of_block (w := wr) (unhide T4) ?_ (by simp [World.setCell])
            rw [Below.heap_setCell _ _ _ _ (by simpa using q3), Below.heap_setCell _ _ _ _ (by simpa using q3)]
          · repeat (refine Below.setCell ?_ (by first | (simp; done) | (simp; omega)) _)
            exact unhide B4
        | cons x r =>
          rw [List.length_cons] at x1 hl' hacc
          have hx : x.answer.size ≤ 3000 := unhide SM 0 (by simp)
          have SR : Hid (Small r) := fun i hi => unhide SM (i + 1) (by simpa using hi)
          obtain ⟨d0, d1, d2⟩ := (unhide T4).2.2 0 (by simp)
          rw [show (x :: r).getD 0 zero = x from rfl] at d0 d1 d2
          rw [Nat.zero_mul, Nat.add_zero] at d0 d1 d2
          have hpos : (0 : Int) < ((r.length + 1 : Nat) : Int) := by omega
          have hpos' : decide ((0 : Int) < ((r.length + 1 : Nat) : Int)) = true := decide_eq_true hpos
          obtain ⟨xi, xd, xa⟩ := x
          dsimp only at d0 d1 d2 hx
          cases xd
          · have ES : Hid (popS L = acc) := (unhide PS).trans (by rw [(pop_cons_open (x := ⟨xi, false, xa⟩) (r := r) rfl).2]; exact app_empty acc)
            have EL : Hid (popL L = ⟨xi, false, xa⟩ :: r) := (unhide PL).trans (pop_cons_open (x := ⟨xi, false, xa⟩) (r := r) rfl).1
            clear PS PL
            go_wp2
            refine bodyPost_ret (v := .tuple #[.agg #[.int .i64 nx, .slice (some ⟨g1, o, none⟩) (r.length + 1) c], .string acc, .bool fd]) (by simp [results, Try.results18, go_sem, y0, y1]) rfl ?_
            rw [unhide ES, unhide EL]
            refine ⟨g1, o, c, rfl, ?_, by omega, ?_⟩
            · refine Rst.of_block (w := wr) (unhide T4) ?_ (by simp [World.setCell])
              rw [Below.heap_setCell _ _ _ _ (by simpa using q3), Below.heap_setCell _ _ _ _ (by simpa using q3)]
            · repeat (refine Below.setCell ?_ (by first | (simp; done) | (simp; omega)) _)
              exact unhide B4
          · have ES : Hid (popS L = (acc ++ xa) ++ popS r) := (unhide PS).trans (by rw [(pop_cons_done (x := ⟨xi, true, xa⟩) (r := r) rfl).2]; exact app_assoc _ _ _)
            have EL : Hid (popL L = popL r) := (unhide PL).trans (pop_cons_done (x := ⟨xi, true, xa⟩) (r := r) rfl).1
            have hM : Hid (lenS wr w.heap.size = r.length + 1) := lenS_eq (unhide X4)
            have T5 := hide (unhide T4).tail
            have hsl := fun w => slice_one g1 o (r.length + 1) c (by omega) w
            rw [Nat.add_sub_cancel] at hsl
            generalize toff o c = o' at hsl T5
            generalize c - 1 = c' at hsl T5
            have X5 := hide ((unhide X4).set1 (.slice (some ⟨g1, o', none⟩) r.length c'))
            have Y5 := hide ((unhide Y4).other (p := ⟨w.heap.size, 1, none⟩) (by simp) (.slice (some ⟨g1, o', none⟩) r.length c'))
            have B5 := hide ((unhide B4).setCell (p := ⟨w.heap.size, 1, none⟩) (Nat.le_refl _) (.slice (some ⟨g1, o', none⟩) r.length c'))
            have T6 := hide ((unhide T5).of_block (w' := wr.setCell ⟨w.heap.size, 1, none⟩ (.slice (some ⟨g1, o', none⟩) r.length c')) (Below.heap_setCell _ _ _ _ (by simpa using q1)) (by simp [World.setCell]))
            have hM5 := hide (lenS_eq (unhide X5))
            have hsz : (acc ++ xa).size + 3000 * r.length ≤ 300000 := by rw [ByteArray.size_append]; omega
            have hac : acc.size ≤ 300000 := by omega
            clear PS PL y0 y1 yf
            go_wp2
            go_roundw
            case rel => exact ⟨r, acc ++ xa, o', c', by omega, hsz, rfl, SR, T6, X5, Y5, B5, ES, EL⟩
            case measure => rw [unhide hM]; exact Nat.lt_of_le_of_lt (Nat.le_of_eq (unhide hM5)) (Nat.lt_succ_self _)
end Sess
end Go.Proofs.Ytedcmbegcmgfkaa
