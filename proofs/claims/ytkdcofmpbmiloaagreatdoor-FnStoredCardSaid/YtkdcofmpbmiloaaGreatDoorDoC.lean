/-
  The model's l2Do: the commands that tell items (get, gets).
-/
import Derived.Test.YtkdcofmpbmiloaaGreatDoorY11
import Derived.Test.YtkdcofmpbmiloaaGreatDoorY8
import Derived.Deep.RegionWith
namespace Go.Proofs.YtkdcofmpbmiloaaGreatDoor
namespace Rw
open Go.RowKit Base GoodKey Items Store Own
set_option linter.unusedVariables false

theorem Dr.below {w w3 w4 : World} {lim nx : Int} {a : Option Addr} {cap : Nat} {its : List Itm} {nm : ByteArray} {kv : Value} {f x n : Int} {dt : ByteArray} {q : Bool} (h : Dr w w3 lim nx a cap its nm kv f x n dt q) (hb : Below w3.heap.size w3 w4) : Dr w w4 lim nx a cap its nm kv f x n dt q :=
  ⟨h.box.below hb h.box.2.2.2.2.2, h.row.below hb (Nat.le_refl _), h.bel.trans (hb.mono (by have := h.box.2.2.2.2.2; omega))⟩

set_option maxRecDepth 10000 in
set_option maxHeartbeats 8000000 in
theorem do_tell (lim nx : Int) (b cap B : Nat) (its : List Itm) (now : Int) (nm : ByteArray) (kb ko kc : Nat) (ks : List ByteArray) (f x n : Int) (dt : ByteArray) (q : Bool) (w : World)
    (hr : Row w B (.slice (some ⟨b, 0, none⟩) its.length cap) its) (hl : its.length ≤ 60) (hits : ∀ y ∈ its, Shelf.Okx y) (hlim : 0 ≤ lim ∧ lim ≤ 10000) (hnx : 1 ≤ nx ∧ nx ≤ 1000000000)
    (hkb : kb < w.heap.size) (hkc : ∀ i, i < ks.length → w.cell? ⟨kb, ko + i, none⟩ = some (.string (ks.getD i ByteArray.empty))) (hkl : ks.length ≤ 10) (hks : ∀ s ∈ ks, s.size ≤ 30) (hK : Kind.kindN nm.toList = 1) :
    Calls Tryz.prog 54 #[.agg #[.int .i64 lim, .int .i64 nx, .slice (some ⟨b, 0, none⟩) its.length cap], .int .i64 now, .agg #[.string nm, .slice (some ⟨kb, ko, none⟩) ks.length kc, .int .i64 f, .int .i64 x, .int .i64 n, .string dt, .bool q]] w (DEnd (Shelf.tellO nx (keepB its now) nm.toList ks) lim w) := by
  have hmix : Tryz.prog.follows .mixedOrders = true := by kernel_rfl
  have hkd := fun w' => Kind.spec_any nm w'
  rw [hK] at hkd
  have HDR := hide (fun w' (h : Row w' B (.slice (some ⟨b, 0, none⟩) its.length cap) its) => drop_some lim nx b 0 cap its now w' h.lt.1 (h.at rfl) (by omega))
  have HR := hide hr
  have HKC := hide hkc
  have HKS := hide hks
  have HOK : Hid (Shelf.TellOk (keepB its now, ByteArray.empty) 0) := Shelf.keep_ok now ⟨hl, hits⟩
  clear hr hits hkc hks hK
  generalize keepB its now = kp at HDR HOK ⊢
  unfold Shelf.tellO
  generalize htk : (nm.toList == [103, 101, 116, 115]) = tok
  obtain ⟨TK, hTK⟩ : ∃ v, v = Shelf.tellK tok kp ks := ⟨_, rfl⟩
  rw [← hTK]
  have HTK := hide hTK
  have HKD := hide hkd
  have hl60 := (unhide HOK).1
  clear hkd hTK
  go_enter Tryz.func54, Tryz.ntmps54
  go_wp2_with fail
  refine (unhide HDR _ ((unhide HR).below (bel3 w _ _ _) (Nat.le_refl _))).mono ?_
  rintro e w2 ⟨a2, c2, rfl, hr2, hb2⟩
  simp only [World.size_alloc] at hb2 hr2
  have X2 := hide ((bw_new w lim nx (.slice (some ⟨b, 0, none⟩) its.length cap) nm (.slice (some ⟨kb, ko, none⟩) ks.length kc) f x n dt q).below hb2 (by omega))
  have B2 := hide ((bel3 w _ _ _).trans (hb2.mono (by omega)))
  have R2 : Hid (Row w2 (w.heap.size + 3) (.slice a2 kp.length c2) kp) := hr2
  clear hb2 hr2
  have D3 : Hid (Dr w (((w2.setCell ⟨w.heap.size, 0, none⟩ (.int .i64 lim)).setCell ⟨w.heap.size, 1, none⟩ (.int .i64 nx)).setCell ⟨w.heap.size, 2, none⟩ (.slice a2 kp.length c2)) lim nx a2 c2 kp nm (.slice (some ⟨kb, ko, none⟩) ks.length kc) f x n dt q) :=
    ⟨(unhide X2).put3 lim nx (.slice a2 kp.length c2), (unhide R2).put3 (H := w.heap.size) (by omega) lim nx (.slice a2 kp.length c2),
      (((unhide B2).setCell (p := ⟨w.heap.size, 0, none⟩) (Nat.le_refl _) (.int .i64 lim)).setCell (p := ⟨w.heap.size, 1, none⟩) (Nat.le_refl _) (.int .i64 nx)).setCell (p := ⟨w.heap.size, 2, none⟩) (Nat.le_refl _) (.slice a2 kp.length c2)⟩
  obtain ⟨⟨a0, a1, a2'⟩, ⟨i0, i1, i2, i3, i4, i5, i6⟩, ⟨y0, y1, y2⟩, f0, f2, -⟩ := unhide X2
  go_upto_region 2 with fail
  generalize ((w2.setCell ⟨w.heap.size, 0, none⟩ (.int .i64 lim)).setCell ⟨w.heap.size, 1, none⟩ (.int .i64 nx)).setCell ⟨w.heap.size, 2, none⟩ (.slice a2 kp.length c2) = w3 at D3 ⊢
  clear a0 a1 a2' i0 i1 i2 i3 i4 i5 i6 y0 y1 y2 f0 f2 X2 R2 B2
  obtain ⟨⟨a0, a1, a2'⟩, ⟨i0, i1, i2, i3, i4, i5, i6⟩, ⟨y0, y1, y2⟩, f0, f2, -⟩ := (unhide D3).box
  go_wp2_with fail
  refine (unhide HKD _).mono ?_
  rintro e w3' ⟨rfl, rfl⟩
  go_wp2_with fail
  clear a0 a1 a2' i0 i1 i2 i3 i4 i5 i6 y0 y1 y2 f0 f2
  go_loopw [9, 27] (fun tv iv wr => ∃ (k : Nat) (t : ByteArray) (l : List Itm) (al : Option Addr) (cl : Nat), k ≤ ks.length ∧ tv = .string t ∧ iv = .int .i64 (k : Int) ∧ l.length ≤ 60 ∧ t.size ≤ k * 250 ∧ Hid (Shelf.tellK tok kp (ks.take k) = (l, t)) ∧ Hid (Shelf.TellOk (l, t) k) ∧ Hid (Dr w wr lim nx al cl l nm (.slice (some ⟨kb, ko, none⟩) ks.length kc) f x n dt q)) (fun _ iv _ => ks.length - (intOf iv).toNat)
  case atStart => exact ⟨0, ⟨#[]⟩, kp, a2, c2, Nat.zero_le _, rfl, rfl, hl60, by decide, hide (by simp [Shelf.tellK]; rfl), HOK, D3⟩
  case round =>
    obtain ⟨k, t, l, al, cl, hk, rfl, rfl, hll, hts, hte, hto, hdr⟩ := hrel
    have zr := (unhide hdr).box.2.2.2.2.2
    obtain ⟨⟨a0, a1, a2'⟩, ⟨i0, i1, i2, i3, i4, i5, i6⟩, ⟨y0, y1, y2⟩, f0, f2, -⟩ := (unhide hdr).box
    by_cases hlt : k < ks.length
    · have hck := ((unhide hdr).bel.cell (p := ⟨kb, ko + k, none⟩) hkb).trans (unhide HKC k hlt)
      have hkw : kb < wr.heap.size := by omega
      have hst := hide (Shelf.tellK_step tok kp ks k hlt)
      rw [unhide hte] at hst
      have hss : Hid ((ks.getD k ByteArray.empty).size ≤ 30) := unhide HKS _ (by rw [List.getD_eq_getElem?_getD, List.getElem?_eq_getElem hlt]; exact List.getElem_mem _)
      have hto2 := hide (Shelf.tell_ok (token := tok) (unhide hto) (ks.getD k ByteArray.empty))
      generalize ks.getD k ByteArray.empty = s at hck hst hss hto2
      have HAT := hide (l2At_row lim nx (.slice al l.length cl) (w.heap.size + 3) l s wr (unhide hdr).row (by unfold maxLen; omega))
      cases e : atN l s with
      | none =>
        have hai : atI l s = -1 := by unfold atI; rw [e]
        rw [hai] at HAT
        have HE : Hid (Shelf.tellK tok kp (ks.take (k + 1)) = (l, t)) := by show _ = _; rw [unhide hst]; unfold Shelf.tell1; rw [e]
        have HT2 : Hid (Shelf.TellOk (l, t) (k + 1)) := by have h := unhide hto2; unfold Shelf.tell1 at h; rw [e] at h; exact h
        clear e hst hai hto2
        go_wp2_with fail
        refine (unhide HAT).mono ?_
        rintro e w1 ⟨rfl, hb1⟩
        have D1 := hide ((unhide hdr).below hb1)
        clear hb1
        go_wp2
        go_roundw
        case rel => exact ⟨k + 1, t, l, al, cl, by omega, rfl, by go_num, hll, by omega, HE, HT2, D1⟩
        case measure => simp [intOf]; omega
      | some j =>
        have hai : atI l s = (j : Int) := by unfold atI; rw [e]
        rw [hai] at HAT
        have hj : j < l.length := atN_lt e
        have HE : Hid (Shelf.tellK tok kp (ks.take (k + 1)) = (l.eraseIdx j ++ [l.getD j zero], t ++ Shelf.valueR (l.getD j zero) tok)) := by show _ = _; rw [unhide hst]; unfold Shelf.tell1; rw [e]
        have HT2 : Hid (Shelf.TellOk (l.eraseIdx j ++ [l.getD j zero], t ++ Shelf.valueR (l.getD j zero) tok) (k + 1)) := by have h := unhide hto2; unfold Shelf.tell1 at h; rw [e] at h; exact h
        have HOX := hide ((unhide hto).2.1 (l.getD j zero) (by rw [List.getD_eq_getElem?_getD, List.getElem?_eq_getElem hj]; exact List.getElem_mem _))
        have hel : (l.eraseIdx j).length = l.length - 1 := List.length_eraseIdx_of_lt hj
        have HLN : Hid ((l.eraseIdx j ++ [l.getD j zero]).length = l.length) := by show _ = _; rw [List.length_append, hel]; simp; omega
        have hEl : (l.eraseIdx j ++ [l.getD j zero]).length ≤ 60 := (unhide HT2).1
        have hTs : (t ++ Shelf.valueR (l.getD j zero) tok).size ≤ (k + 1) * 250 := (unhide HT2).2.2
        obtain ⟨bl, cl', hv⟩ := (unhide hdr).row.has (by omega)
        simp only [Value.slice.injEq] at hv
        obtain ⟨rfl, -, rfl⟩ := hv
        have HLA := hide (fun w' (hr' : Row w' (w.heap.size + 3) (.slice (some ⟨bl, 0, none⟩) l.length cl) l) => l2Last_row lim nx bl cl (w.heap.size + 3) l j (l.getD j zero) w' hr' hj (by omega))
        have hvs := Shelf.value_size (unhide HOX) tok
        have HVT := hide (fun w' => Shelf.l2Value_any (l.getD j zero) tok w' (okx_small (unhide HOX)) (unhide HOX).2.2.1 (unhide HOX).2.2.2)
        have HC := hide (fun w' (hr' : Row w' (w.heap.size + 3) (.slice (some ⟨bl, 0, none⟩) l.length cl) l) => hr'.at rfl j hj)
        clear e hst hai hto2 hel
        generalize l.eraseIdx j ++ [l.getD j zero] = E at HE HT2 HLN hEl HLA
        generalize l.getD j zero = y at HE HT2 HOX HLA HVT HC hTs hvs
        generalize Shelf.valueR y tok = vt at HE HT2 HVT hTs hvs
        go_wp2_with fail
        refine (unhide HAT).mono ?_
        rintro e w1 ⟨rfl, hb1⟩
        have D1 := hide ((unhide hdr).below hb1)
        have z1 : w.heap.size + 3 ≤ w1.heap.size := (unhide D1).box.2.2.2.2.2
        clear hb1 a0 a1 a2' i0 i1 i2 i3 i4 i5 i6 y0 y1 y2 f0 f2 hdr HAT
        obtain ⟨⟨a0, a1, a2'⟩, ⟨i0, i1, i2, i3, i4, i5, i6⟩, -, -, -, -⟩ := (unhide D1).box
        obtain ⟨c0, c1, c2, c3, c4⟩ := unhide HC _ (unhide D1).row
        rw [Nat.zero_add] at c0 c1 c2 c3 c4
        have cC := fun d os => Calls.regrown_of (unhide HVT (Go.Sort.grow (redrawn w1 d) os))
        have p2 := cell_regrown a2'
        have p3 := cell_regrown i0
        have q0 := cell_regrown c0
        have q1 := cell_regrown c1
        have q2 := cell_regrown c2
        have q3 := cell_regrown c3
        have q4 := cell_regrown c4
        have hjl : (j : Int) < (l.length : Int) := by omega
        have hj0 : (0 : Int) ≤ (j : Int) := by omega
        have ad := fun w => run_string_add_sum (P := Tryz.prog) w t vt (by omega)
        go_wp2_with fail
        refine wp_region_quiet_below hmix (by kernel_rfl) ?_
        repeat (quiet_step (exact cC _ _))
        refine wpQuiet_nil ?_
        intro _ hw'
        obtain ⟨⟨dq, osq⟩, hw''⟩ := hw'
        subst hw''
        have hbq := below_regrown w1 dq osq
        generalize (Go.Sort.grow (redrawn w1 dq) osq) = wq at hbq ⊢
        have D2 := hide ((unhide D1).below hbq)
        clear hbq p2 p3 q0 q1 q2 q3 q4 cC a0 a1 a2' i0 i1 i2 i3 i4 i5 i6 c0 c1 c2 c3 c4 D1 ad
        have z2 : w.heap.size + 3 ≤ wq.heap.size := (unhide D2).box.2.2.2.2.2
        obtain ⟨⟨a0, a1, a2'⟩, ⟨i0, i1, i2, i3, i4, i5, i6⟩, -, -, -, -⟩ := (unhide D2).box
        obtain ⟨c0, c1, c2, c3, c4⟩ := unhide HC _ (unhide D2).row
        rw [Nat.zero_add] at c0 c1 c2 c3 c4
        have hbl := (unhide D2).row.lt.1
        go_wp2_with fail
        go_region_with (go_at_call 72; refine (unhide HLA _ ((unhide D2).row.below (Below.refl _ _).drew (Nat.le_refl _))).mono ?_; rintro e w5 ⟨g5, c5, rfl, hr5, hb5⟩; have X5 := hide (((unhide D2).box.below (Below.refl wq.heap.size wq).drew z2).below hb5 z2); have B5 := hide ((unhide D2).bel.drew.trans (hb5.mono (show w.heap.size ≤ wq.heap.size by omega))); have R5 := hide (hr5.le (show w.heap.size + 3 ≤ wq.heap.size by omega)); obtain ⟨⟨s0, s1, s2⟩, -, -, g0, -, -⟩ := unhide X5; clear hr5 hb5)
        all_goals
          have X6 := hide ((unhide X5).put3 lim nx (.slice (some ⟨g5, 0, none⟩) l.length c5))
          have R6 := hide ((unhide R5).put3 (H := w.heap.size) (by omega) lim nx (.slice (some ⟨g5, 0, none⟩) l.length c5))
          have B6 := hide ((((unhide B5).setCell (p := ⟨w.heap.size, 0, none⟩) (Nat.le_refl _) (.int .i64 lim)).setCell (p := ⟨w.heap.size, 1, none⟩) (Nat.le_refl _) (.int .i64 nx)).setCell (p := ⟨w.heap.size, 2, none⟩) (Nat.le_refl _) (.slice (some ⟨g5, 0, none⟩) l.length c5))
          go_wp2
          go_roundw
          case rel =>
            refine ⟨k + 1, t ++ vt, E, some ⟨g5, 0, none⟩, c5, by omega, rfl, by go_num, hEl, hTs, HE, HT2, ?_⟩
            show Dr _ _ _ _ _ _ _ _ _ _ _ _ _ _
            refine ⟨?_, ?_, ?_⟩
            · rw [unhide HLN]; exact unhide X6
            · rw [unhide HLN]; exact unhide R6
            · exact unhide B6
          case measure => simp [intOf]; omega
    · obtain rfl : k = ks.length := by omega
      rw [List.take_length] at hte
      have hTK := (unhide HTK).trans (unhide hte)
      have m1 : ¬ 9223372036854775807 < t.size + 3 := by omega
      have m2 : ¬ 9223372036854775807 < (t ++ ⟨#[69, 78, 68]⟩).size + 2 := by rw [ByteArray.size_append]; have : (⟨#[69, 78, 68]⟩ : ByteArray).size = 3 := rfl; omega
      have HTE := hide hTK
      clear hTK
      have HEN : Hid (Ending.returned (.tuple #[.agg #[.int .i64 lim, .int .i64 nx, .slice al l.length cl], .string (t ++ ⟨#[69, 78, 68]⟩ ++ ⟨#[13, 10]⟩), .int .i64 0]) = .returned (.tuple #[.agg #[.int .i64 lim, .int .i64 nx, .slice al TK.1.length cl], .string (TK.2 ++ ⟨#[69, 78, 68, 13, 10]⟩), .int .i64 0])) := by
        show _ = _
        rw [unhide HTE, ByteArray.append_assoc]
        rfl
      go_wp2
      refine bodyPost_ret (v := .tuple #[.agg #[.int .i64 lim, .int .i64 nx, .slice al l.length cl], .string (t ++ ⟨#[69, 78, 68]⟩ ++ ⟨#[13, 10]⟩), .int .i64 0]) (by simp [results, Tryz.results54, go_sem, y0, y1, y2]) rfl ⟨al, cl, unhide HEN, ?_, ?_⟩
      · rw [unhide HTE]
        refine Row.le (B := w.heap.size + 3) ?_ (by omega)
        repeat (refine ownsRow_setCell_below ?_ (by first | (simp; done) | (simp; omega)) _)
        exact (unhide hdr).row
      · repeat (refine Below.setCell ?_ (by first | (simp; done) | (simp; omega)) _)
        exact (unhide hdr).bel
end Rw
end Go.Proofs.YtkdcofmpbmiloaaGreatDoor
