/-
  Contracts of the law files' szLaneS, toLaneS, eqLaneS; a slice of lanes among the arguments, opened.
-/
import Derived.Test.YtncdoghnfgnafaaLnP
import Derived.Test.YtncdoghnfgnafaaLaneH
namespace Go.Proofs.Ytncdoghnfgnafaa
namespace Lanes
open Go.RowKit Base
set_option linter.unusedVariables false

set_option maxHeartbeats 1000000 in
theorem szs_some (b off cap : Nat) (L : List Ln) (left : Int) (w : World) (hb : b < w.heap.size) (hc : ∀ i, i < L.length → LnAt w b (off + i * 3) (L.getD i zeroL) ∧ Waits.LAt w (L.getD i zeroL).a (L.getD i zeroL).ws)
    (hl : L.length ≤ maxLen) (hs : ∀ x ∈ L, x.ws.length ≤ maxLen) (h0 : 0 ≤ left) (h1 : left ≤ 1048576) :
    Calls Try.prog 27 #[.slice (some ⟨b, off, none⟩) L.length cap, .int .i64 left] w fun e w' => e = .returned (.int .i64 (szLs L left)) ∧ Below w.heap.size w w' := by
  unfold maxLen at hl
  by_cases g : left - (L.length : Int) < 0
  · have H : Hid (szLs L left = -1) := by show szLs L left = -1; unfold szLs; rw [if_pos g]
    go_enter Try.func27, Try.ntmps27
    go_wp2
    go_ret
    exact ⟨ret_int (unhide H).symm, Below.refl _ _⟩
  have HE : Hid (szLs L left = szGo L (left - L.length)) := by show szLs L left = _; unfold szLs; rw [if_neg g]
  generalize szLs L left = T at HE ⊢
  have hcs := hide hc
  have hss := hide hs
  clear hc hs
  go_enter Try.func27, Try.ntmps27
  go_wp2
  go_loopw [1, 5] (fun lv iv wr => ∃ (k : Nat) (z : Int), k ≤ L.length ∧ lv = .int .i64 z ∧ iv = .int .i64 (k : Int) ∧ 0 ≤ z ∧ z ≤ 1048576 ∧ Hid (T = szGo (L.drop k) z) ∧ Hid (Below w.heap.size w wr)) (fun _ iv _ => L.length - (intOf iv).toNat)
  case atStart => exact ⟨0, left - L.length, Nat.zero_le _, rfl, rfl, by omega, by omega, HE, hide (Below.refl _ _)⟩
  case round =>
    obtain ⟨k, z, hk, rfl, rfl, hz0, hz1, hr, hbel⟩ := hrel
    by_cases hlt : k < L.length
    · obtain ⟨c0, c1, c2⟩ := (unhide hcs k hlt).1.below (unhide hbel) hb
      have hla := hide ((unhide hcs k hlt).2.below (unhide hbel) (Nat.le_refl _))
      have hsk : Hid ((L.getD k zeroL).ws.length ≤ maxLen) := unhide hss _ (by rw [List.getD_eq_getElem?_getD, List.getElem?_eq_getElem hlt]; simp)
      have hd : Hid (szGo (L.drop k) z = if Waits.szL (L.getD k zeroL).ws z < 0 then -1 else szGo (L.drop (k + 1)) (Waits.szL (L.getD k zeroL).ws z)) := by
        show szGo (L.drop k) z = _
        rw [List.drop_eq_getElem_cons hlt, List.getD_eq_getElem?_getD, List.getElem?_eq_getElem hlt]
        rfl
      have hbd := Waits.szL_bd (L.getD k zeroL).ws z hz0
      generalize L.getD k zeroL = x at c0 c1 c2 hla hsk hd hbd
      have hcal := hide (szLane_any x.ep x.fa x.a x.cap x.ws z wr (unhide hla) (unhide hsk) (fun _ _ => trivial) hz0 hz1)
      generalize Waits.szL x.ws z = y at hd hbd hcal
      by_cases g2 : y < 0
      · have H : Hid (T = -1) := by show T = -1; rw [unhide hr, unhide hd, if_pos g2]
        go_wp2_with fail
        refine (unhide hcal).mono ?_
        rintro e w1 ⟨rfl, hb1⟩
        have hB := hide ((unhide hbel).trans (hb1.mono (unhide hbel).size))
        clear hb1
        go_wp2
        go_ret
        exact ⟨ret_int (unhide H).symm, unhide hB⟩
      · have H : Hid (T = szGo (L.drop (k + 1)) y) := by show T = _; rw [unhide hr, unhide hd, if_neg g2]
        go_wp2_with fail
        refine (unhide hcal).mono ?_
        rintro e w1 ⟨rfl, hb1⟩
        have hB := hide ((unhide hbel).trans (hb1.mono (unhide hbel).size))
        clear hb1
        go_wp2
        go_roundw
        case rel => exact ⟨k + 1, y, by omega, rfl, by go_num, by omega, by omega, H, hB⟩
        case measure => simp [intOf]; omega
    · have H : Hid (T = z) := by show T = z; rw [unhide hr, List.drop_of_length_le (by omega)]; rfl
      go_wp2
      go_ret
      exact ⟨ret_int (unhide H).symm, unhide hbel⟩

set_option maxHeartbeats 400000 in
theorem szs_any (a : Option Addr) (cap : Nat) (L : List Ln) (left : Int) (w : World) (hc : LsAt w a L) (hl : L.length ≤ maxLen) (hs : ∀ x ∈ L, x.ws.length ≤ maxLen) (h0 : 0 ≤ left) (h1 : left ≤ 1048576) :
    Calls Try.prog 27 #[.slice a L.length cap, .int .i64 left] w fun e w' => e = .returned (.int .i64 (szLs L left)) ∧ Below w.heap.size w w' := by
  by_cases hne : L = []
  · subst hne
    have H : Hid (szLs [] left = left) := by show szLs [] left = left; unfold szLs; rw [if_neg (by simp; omega)]; simp [szGo]
    go_enter Try.func27, Try.ntmps27
    go_wp2
    go_loop [1, 5] (fun l i => l = .int .i64 left ∧ i = .int .i64 0) (fun _ _ => 0)
    case atStart => exact ⟨rfl, rfl⟩
    case round =>
      obtain ⟨rfl, rfl⟩ := hrel
      go_wp2
      go_ret
      exact ⟨ret_int (unhide H).symm, Below.refl _ _⟩
  · obtain ⟨b, off, rfl, hb, hcc⟩ := hc hne
    exact szs_some b off cap L left w hb hcc hl hs h0 h1

theorem info : (Try.prog.info? 29).map (fun i => (i.zero, i.size, i.bytes)) = some (some (.agg #[.int .i64 0, .int .i64 0, .slice none 0 0]), 3, 40) := by kernel_rfl
theorem made_zero (i : Nat) : (#[.int .i64 0, .int .i64 0, .slice none 0 0] : Array Value)[i % 3]! = lcell [] i := by
  have h : i % 3 < 3 := Nat.mod_lt _ (by omega)
  unfold lcell
  generalize i % 3 = m at h
  obtain rfl | rfl | rfl : m = 0 ∨ m = 1 ∨ m = 2 := by omega
  all_goals rfl
theorem Str.set {w : World} {x : Ln} {b o : Nat} (h : Str w x) (hne : ∀ g, x.a = some ⟨g, 0, none⟩ → g ≠ b) (v : Value) : Str (w.setCell ⟨b, o, none⟩ v) x := by
  obtain ⟨g, ha, hlt, hc, hcap⟩ := h
  have e := fun o' => World.cell?_of_block (w := w) (a := ⟨g, o', none⟩) (Below.heap_setCell w ⟨b, o, none⟩ v g (hne g ha))
  refine ⟨g, ha, by simpa [World.setCell] using hlt, fun j hj => ?_, hcap⟩
  obtain ⟨h0, h1⟩ := hc j hj
  exact ⟨(e _).trans h0, (e _).trans h1⟩

set_option maxHeartbeats 1000000 in
theorem tos_some (b off cap : Nat) (L : List Ln) (w : World) (hb : b < w.heap.size) (hc : ∀ i, i < L.length → LnAt w b (off + i * 3) (L.getD i zeroL) ∧ Waits.LAt w (L.getD i zeroL).a (L.getD i zeroL).ws) (hl : L.length ≤ 1048576) (hs : ∀ x ∈ L, x.ws.length ≤ 1048576) :
    Calls Try.prog 29 #[.slice (some ⟨b, off, none⟩) L.length cap] w fun e w' =>
      e = .returned (.slice (some ⟨w.heap.size, 0, none⟩) L.length L.length) ∧ (∃ L', L'.map core = L.map core ∧ RAt w' w.heap.size L') ∧ Below w.heap.size w w' := by
  have hmk := fun w => run_make_rows (P := Try.prog) 51 29 _ 3 40 Try.underlying51 info .i64 .i64 L.length (by omega) (by omega) w
  have hcs := hide hc
  have hss := hide hs
  clear hc hs
  go_enter Try.func29, Try.ntmps29
  go_wp2
  go_loopw [4] (fun i wr => ∃ (k : Nat) (M : List Ln), k ≤ L.length ∧ i = .int .i64 k ∧ Hid (M.length = k) ∧ Hid (M.map core = (L.take k).map core) ∧ Hid (∀ j, j < k → Str wr (M.getD j zeroL)) ∧ Hid (∀ j g, j < k → (M.getD j zeroL).a = some ⟨g, 0, none⟩ → w.heap.size < g) ∧ Hid (wr.rowIs w.heap.size 29 (L.length * 3) (lcell M)) ∧ Hid (Below w.heap.size w wr)) (fun i _ => L.length - (intOf i).toNat)
  case atStart => exact ⟨0, [], Nat.zero_le _, rfl, hide rfl, hide (by simp), hide (fun j hj => absurd hj (by omega)), hide (fun j g hj => absurd hj (by omega)), hide (rowIs_mades w _ _ _ _ made_zero), hide ((Below.refl _ _).alloc (Nat.le_refl _) _)⟩
  case round =>
    obtain ⟨k, M, hk, rfl, hM, hco, hst, hgt, hrow, hbel⟩ := hrel
    by_cases hlt : k < L.length
    · obtain ⟨c0, c1, c2⟩ := (unhide hcs k hlt).1.below (unhide hbel) hb
      have hla := hide ((unhide hcs k hlt).2.below (unhide hbel) (Nat.le_refl _))
      have hsk : Hid ((L.getD k zeroL).ws.length ≤ 1048576) := unhide hss _ (by rw [List.getD_eq_getElem?_getD, List.getElem?_eq_getElem hlt]; simp)
      have hnx : Hid (∀ y, core y = core (L.getD k zeroL) → (M ++ [y]).map core = (L.take (k + 1)).map core) := fun y hy => by
        rw [List.map_append, unhide hco, List.take_succ_eq_append_getElem hlt, List.map_append, List.map_cons, List.map_nil, hy, List.getD_eq_getElem?_getD, List.getElem?_eq_getElem hlt]
        rfl
      generalize L.getD k zeroL = x at c0 c1 c2 hla hsk hnx
      have zr : w.heap.size < wr.heap.size := (unhide hrow).lt
      go_wp2_with fail
      refine (toLane_any x.ep x.fa x.a x.cap x.ws _ (unhide hla) (unhide hsk)).mono ?_
      rintro e w1 ⟨g, rfl, hg, hrw, hb1⟩
      have hrow1 := (unhide hrow).of_block (hb1.block _ (unhide hrow).lt)
      have d0 := hrow1.cell (i := k * 3) (by omega)
      have f0 := hrow1.frozen (k * 3)
      have d1 := hrow1.cell (i := k * 3 + 1) (by omega)
      have f1 := hrow1.frozen (k * 3 + 1)
      have d2 := hrow1.cell (i := k * 3 + 2) (by omega)
      have f2 := hrow1.frozen (k * 3 + 2)
      have hrow2 := hide (((hrow1.set (k * 3) (.int .i64 x.ep)).set (k * 3 + 1) (.int .i64 x.fa)).set (k * 3 + 2) (.slice (some ⟨g, 0, none⟩) x.ws.length x.ws.length))
      have hbel1 := hide ((unhide hbel).trans (hb1.mono (unhide hbel).size))
      have hst1 := hide (fun j hj => (unhide hst j hj).below hb1 (Nat.le_refl _))
      have hnew : Hid (Str w1 ⟨x.ep, x.fa, some ⟨g, 0, none⟩, x.ws.length, x.ws⟩) := ⟨g, rfl, hrw.lt, Waits.at_row hrw, rfl⟩
      generalize lcell M (k * 3) = o0 at d0
      generalize lcell M (k * 3 + 1) = o1 at d1
      generalize lcell M (k * 3 + 2) = o2 at d2
      clear hrow1 hb1 hrw
      go_wp2
      go_roundw
      case rel =>
        refine ⟨k + 1, M ++ [⟨x.ep, x.fa, some ⟨g, 0, none⟩, x.ws.length, x.ws⟩], by omega, by go_num, hide ?_, hide (unhide hnx _ rfl), hide ?_, hide ?_, hide ((unhide hrow2).congr (fun i _ => lcell_snoc M ⟨x.ep, x.fa, some ⟨g, 0, none⟩, x.ws.length, x.ws⟩ k i (unhide hM))), hide ?_⟩
        · show (M ++ [_]).length = k + 1
          rw [List.length_append, unhide hM]; rfl
        · intro j hj
          rw [getD_snoc, unhide hM]
          by_cases ej : j = k
          · rw [if_pos ej]
            exact (((unhide hnew).set (fun g' e => by simp at e; omega) _).set (fun g' e => by simp at e; omega) _).set (fun g' e => by simp at e; omega) _
          · rw [if_neg ej]
            have hg' := fun g' e => Nat.ne_of_gt (unhide hgt j g' (by omega) e)
            exact (((unhide hst1 j (by omega)).set hg' _).set hg' _).set hg' _
        · intro j g' hj
          rw [getD_snoc, unhide hM]
          by_cases ej : j = k
          · rw [if_pos ej]
            intro e
            simp at e
            omega
          · rw [if_neg ej]
            exact unhide hgt j g' (by omega)
        · show Below w.heap.size w _
          repeat (refine Below.setCell ?_ (by first | (simp; done) | (simp; omega)) _)
          exact unhide hbel1
      case measure => simp [intOf]; omega
    · obtain rfl : k = L.length := by omega
      have hco' := (unhide hco).trans (by rw [List.take_length])
      have HF : Hid (∃ L', L'.map core = L.map core ∧ RAt wr w.heap.size L') := ⟨M, hco', (unhide hrow).lt, fun i hi => ⟨lcell_at (unhide hrow) i (by have := unhide hM; omega), unhide hst i (by have := unhide hM; omega)⟩⟩
      clear hco'
      go_wp2
      go_ret
      exact ⟨rfl, unhide HF, unhide hbel⟩

set_option maxHeartbeats 400000 in
theorem tos_any (a : Option Addr) (cap : Nat) (L : List Ln) (w : World) (hc : LsAt w a L) (hl : L.length ≤ 1048576) (hs : ∀ x ∈ L, x.ws.length ≤ 1048576) :
    Calls Try.prog 29 #[.slice a L.length cap] w fun e w' =>
      e = .returned (.slice (some ⟨w.heap.size, 0, none⟩) L.length L.length) ∧ (∃ L', L'.map core = L.map core ∧ RAt w' w.heap.size L') ∧ Below w.heap.size w w' := by
  by_cases hne : L = []
  · subst hne
    have hmk : ∀ w, (Instr.makeSlice 51 (.int .i64 0) (.int .i64 0)).run Try.prog w = .ok (.slice (some ⟨w.heap.size, 0, none⟩) 0 0) (w.alloc (.cells (madeCells #[.int .i64 0, .int .i64 0, .slice none 0 0] 0) 29)) :=
      fun w => run_make_rows (P := Try.prog) 51 29 _ 3 40 Try.underlying51 info .i64 .i64 0 (by omega) (by omega) w
    go_enter Try.func29, Try.ntmps29
    go_wp2
    go_loop [4] (fun i => i = .int .i64 0) (fun _ => 0)
    case atStart => exact rfl
    case round =>
      obtain rfl := hrel
      go_wp2
      go_ret
      refine ⟨rfl, ?_, (Below.refl _ _).alloc (Nat.le_refl _) _⟩
      first | exact ⟨by simp, fun i hi => absurd hi (by simp)⟩ | exact ⟨[], rfl, by simp, fun i hi => absurd hi (by simp)⟩
  · obtain ⟨b, off, rfl, hb, hcc⟩ := hc hne
    exact tos_some b off cap L w hb hcc hl hs

theorem map_at {L M : List Ln} (h : L.map core = M.map core) (i : Nat) : core (L.getD i zeroL) = core (M.getD i zeroL) := by
  have e := congrArg (fun l => l[i]?) h
  simp only [List.getElem?_map] at e
  simp only [List.getD_eq_getElem?_getD]
  cases h1 : L[i]? <;> cases h2 : M[i]? <;> rw [h1, h2] at e <;> simp at e <;> simp [e]
theorem map_len {L M : List Ln} (h : L.map core = M.map core) : L.length = M.length := by
  have := congrArg List.length h
  simpa using this

set_option maxHeartbeats 1000000 in
theorem eqs_same (b b' : Nat) (n : Nat) (L M : List Ln) (w : World) (hL : RAt w b L) (hM : RAt w b' M) (hco : L.map core = M.map core) (hn : L.length = n) (hl : n ≤ 1048576) (hs : ∀ x ∈ L, x.ws.length ≤ 1048576) :
    Calls Try.prog 31 #[.slice (some ⟨b, 0, none⟩) n n, .slice (some ⟨b', 0, none⟩) n n] w fun e w' => e = .returned (.bool true) ∧ Below w.heap.size w w' := by
  have HL := hide hL
  have HM := hide hM
  have HCO := hide hco
  have HN := hide hn
  have HNM : Hid (M.length = n) := (map_len hco).symm.trans hn
  have HSS := hide hs
  clear hL hM hco hn hs
  go_enter Try.func31, Try.ntmps31
  go_wp2
  go_loopw [5] (fun i wr => ∃ k : Nat, k ≤ n ∧ i = .int .i64 k ∧ Hid (Below w.heap.size w wr)) (fun i _ => n - (intOf i).toNat)
  case atStart => exact ⟨0, Nat.zero_le _, rfl, hide (Below.refl _ _)⟩
  case round =>
    obtain ⟨k, hk, rfl, hbel⟩ := hrel
    by_cases hlt : k < n
    · obtain ⟨⟨c0, c1, c2⟩, hst⟩ := ((unhide HL).below (unhide hbel) (Nat.le_refl _)).2 k (by have := unhide HN; omega)
      obtain ⟨⟨d0, d1, d2⟩, hst'⟩ := ((unhide HM).below (unhide hbel) (Nat.le_refl _)).2 k (by have := unhide HNM; omega)
      have he := map_at (unhide HCO) k
      have hsk : (L.getD k zeroL).ws.length ≤ 1048576 := unhide HSS _ (by have := unhide HN; rw [List.getD_eq_getElem?_getD, List.getElem?_eq_getElem (by omega)]; simp)
      have HA : Hid (Waits.LAt wr.drew (L.getD k zeroL).a (L.getD k zeroL).ws) := by
        obtain ⟨g, ha, hg, hc, _⟩ := hst
        intro _
        exact ⟨g, 0, ha, hg, hc⟩
      have HB : Hid (Waits.LAt wr.drew (M.getD k zeroL).a (M.getD k zeroL).ws) := by
        obtain ⟨g, ha, hg, hc, _⟩ := hst'
        intro _
        exact ⟨g, 0, ha, hg, hc⟩
      have hk1 : b < wr.heap.size := Nat.lt_of_lt_of_le (unhide HL).1 (unhide hbel).size
      have hk2 : b' < wr.heap.size := Nat.lt_of_lt_of_le (unhide HM).1 (unhide hbel).size
      generalize L.getD k zeroL = x at c0 c1 c2 he HA hsk hst
      generalize M.getD k zeroL = y at d0 d1 d2 he HB hst'
      obtain ⟨ep, fa, xa, xc, ws⟩ := x
      obtain ⟨ep', fa', ya, yc, ws'⟩ := y
      simp only [core, Core.mk.injEq] at he
      obtain ⟨rfl, rfl, rfl⟩ := he
      dsimp only at c0 c1 c2 d0 d1 d2 HA HB hsk
      rw [Nat.zero_add] at c0 c1 c2 d0 d1 d2
      clear hst hst'
      have hcal := hide (eqLane_same ep fa xa ya xc yc ws wr.drew (unhide HA) (unhide HB) (by unfold maxLen; omega))
      go_wp2
      go_region_with (go_at_call 13; refine (unhide hcal).mono ?_; rintro e w1 ⟨rfl, hb1⟩; have hb1 := hide hb1)
      all_goals
        go_wp2
        go_roundw
        case rel => exact ⟨k + 1, by omega, by go_num, hide ((unhide hbel).drew.trans ((unhide hb1).mono (unhide hbel).size))⟩
        case measure => simp [intOf]; omega
    · go_wp2
      go_ret
      exact ⟨rfl, unhide hbel⟩
end Lanes
end Go.Proofs.Ytncdoghnfgnafaa
