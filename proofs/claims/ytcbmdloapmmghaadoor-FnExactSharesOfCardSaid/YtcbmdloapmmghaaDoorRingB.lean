/-
  The model's RingOf: each point sinks to its place; the ring of good nodes, nothing of others.
-/
import Derived.Test.YtcbmdloapmmghaaDoorRingO
import Derived.Test.YtcbmdloapmmghaaDoorRingA
import Derived.Lib.QuietBelow
import Derived.BigQuiet
import Derived.Outline
namespace Go.Proofs.YtcbmdloapmmghaaDoor
namespace Ring
open Go.RowKit Base Points NumText Marks OwnR PointsW
set_option linter.unusedVariables false

theorem getD_mid (A R : List D) (x : D) : (A ++ x :: R).getD A.length zero = x := by simp [List.getD_eq_getElem?_getD]
theorem icell_pos (M : List D) (k : Nat) : icell M (k * 2) = .int .u32 (M.getD k zero).pos := by
  rw [icell, show k * 2 % 2 = 0 by omega, show k * 2 / 2 = k by omega]; simp
theorem icell_name (M : List D) (k : Nat) : icell M (k * 2 + 1) = .string (M.getD k zero).name := by
  rw [icell, show (k * 2 + 1) % 2 = 1 by omega, show (k * 2 + 1) / 2 = k by omega]; simp
theorem swap_icell (A R : List D) (x y : D) (p : Nat) (hp : A.length = p) (j : Nat) :
    (if j = p * 2 + 1 then (.string x.name : Value) else if j = p * 2 then (.int .u32 x.pos : Value) else if j = (p + 1) * 2 + 1 then (.string y.name : Value) else if j = (p + 1) * 2 then (.int .u32 y.pos : Value) else icell (A ++ y :: x :: R) j) = icell (A ++ x :: y :: R) j := by
  subst hp
  have e0 : (A ++ x :: y :: R).getD A.length zero = x := getD_mid A _ x
  have e1 : (A ++ x :: y :: R).getD (A.length + 1) zero = y := by
    simp [List.getD_eq_getElem?_getD]
  by_cases h1 : j = A.length * 2 + 1
  · rw [if_pos h1, h1, icell_name, e0]
  rw [if_neg h1]
  by_cases h2 : j = A.length * 2
  · rw [if_pos h2, h2, icell_pos, e0]
  rw [if_neg h2]
  by_cases h3 : j = (A.length + 1) * 2 + 1
  · rw [if_pos h3, h3, icell_name, e1]
  rw [if_neg h3]
  by_cases h4 : j = (A.length + 1) * 2
  · rw [if_pos h4, h4, icell_pos, e1]
  rw [if_neg h4]
  unfold icell
  have e : (A ++ y :: x :: R).getD (j / 2) zero = (A ++ x :: y :: R).getD (j / 2) zero := by
    simp only [List.getD_eq_getElem?_getD]
    congr 1
    by_cases hlt : j / 2 < A.length
    · rw [List.getElem?_append_left hlt, List.getElem?_append_left hlt]
    · rw [List.getElem?_append_right (by omega), List.getElem?_append_right (by omega)]
      obtain ⟨d, hd⟩ : ∃ d, j / 2 - A.length = d + 2 := ⟨j / 2 - A.length - 2, by omega⟩
      rw [hd]; rfl
  rw [e]

theorem sink_end {P A1 A2 L : List D} {i k : Nat} {x : D} (hP : P.length = i ∧ Sorted P ∧ P.Perm (L.take i)) (hA : A1.length = k ∧ A1 ++ A2 = P ∧ ∀ y ∈ A2, less x y = true) (hi : i < L.length) (hx : L.drop i = x :: L.drop (i + 1)) (hl : ∀ y, A1.getLast? = some y → less x y = false) :
    (A1 ++ x :: A2).length = i + 1 ∧ Sorted (A1 ++ x :: A2) ∧ (A1 ++ x :: A2).Perm (L.take (i + 1)) := by
  obtain ⟨h1, h2, h3⟩ := hP
  obtain ⟨a1, a2, a3⟩ := hA
  subst a2
  have ex : L[i] = x := by rw [List.drop_eq_getElem_cons hi] at hx; exact (List.cons.inj hx).1
  refine ⟨by simp at h1 ⊢; omega, sink_sorted h2 a3 hl, ?_⟩
  rw [List.take_succ_eq_append_getElem hi, ex]
  exact (sink_perm A1 A2 x).trans (List.Perm.append_right [x] h3)
theorem last_snoc {A : List D} {p : Nat} (h : A.length = p + 1) : ∃ I y, A = I ++ [y] ∧ I.length = p := by
  rcases List.eq_nil_or_concat A with rfl | ⟨I, y, rfl⟩
  · simp at h
  · exact ⟨I, y, by simp, by simpa using h⟩

set_option maxRecDepth 10000 in
set_option maxHeartbeats 4000000 in
theorem mring_yes (b off cap : Nat) (l : List Nodes.D) (w : World) (hb : b < w.heap.size) (hc : ∀ i, i < l.length → Nodes.At w b (off + i * 2) (l.getD i Nodes.zero)) (hs : ∀ x ∈ l, Nodes.Fits x) (hg : NodesM.gnB l = true) :
    Calls Tryd.prog 8 #[.slice (some ⟨b, off, none⟩) l.length cap] w fun e w' =>
      ∃ g c, e = .returned (.tuple #[.slice (some ⟨g, 0, none⟩) (points l).length c, .bool true]) ∧ w.heap.size ≤ g ∧ RowAt w' g 58 ((points l).length * 2) (icell (ring (points l))) ∧ Below w.heap.size w w' := by
  have hgood := NodesM.nodes_some b off cap l w hb hc (by have := good_len hg; unfold maxLen; omega) hs
  rw [hg] at hgood
  have hpts := fun w1 hb1 => points_some b off cap l w1 (Nat.lt_of_lt_of_le hb (Below.size hb1)) (fun i hi => (hc i hi).below hb1 hb) hg
  have hp1 := points_pos hg
  have hp2 := points_len hg
  have HGD := hide hgood
  have HPT := hide hpts
  have hmix : Tryd.prog.follows .mixedOrders = true := by kernel_rfl
  clear hgood hpts hc hs hg
  generalize points l = L at HPT hp1 hp2 ⊢
  go_enter Tryd.func8, Tryd.ntmps8
  go_wp2_with fail
  refine (unhide HGD).mono ?_
  rintro e w1 ⟨rfl, hb1⟩
  have HB1 := hide hb1
  clear hb1
  go_wp2_with fail
  refine (unhide HPT w1 (unhide HB1)).mono ?_
  rintro e w2 ⟨v, rfl, hown, hb2⟩
  obtain ⟨g, c, rfl, hg0, hgc, hrow⟩ := rowAt_own hown hp1
  have HROW := hide hrow
  have HB2 := hide ((unhide HB1).trans (hb2.mono (unhide HB1).size))
  have hgw : w.heap.size ≤ g := Nat.le_trans (unhide HB1).size hg0
  clear hown hb2 hrow
  go_wp2
  go_loopw [15] (fun iv wr => ∃ (i : Nat) (P : List D), i ≤ L.length ∧ iv = .int .i64 (i : Int) ∧ Hid (P.length = i ∧ Sorted P ∧ P.Perm (L.take i)) ∧ Hid (RowAt wr g 58 (L.length * 2) (icell (P ++ L.drop i))) ∧ Hid (Below w.heap.size w wr)) (fun iv _ => L.length - (intOf iv).toNat)
  case atStart => exact ⟨0, [], Nat.zero_le _, rfl, hide ⟨rfl, by simp [Sorted], by simp⟩, HROW, HB2⟩
  case round =>
    obtain ⟨i, P, hi, rfl, hP, hrow, hbel⟩ := hrel
    by_cases hlt : i < L.length
    · have HD : Hid (L.drop i = L.getD i zero :: L.drop (i + 1)) := drop_cons hlt
      have HRR : Hid (L.drop (i + 1) = L.drop (i + 1)) := rfl
      have hPi := (unhide hP).1
      generalize L.getD i zero = x at HD
      generalize hR0 : L.drop (i + 1) = R at HD HRR
      have HR0 := hide hR0
      have HPL : Hid (P.length = i) := hPi
      clear hR0 hPi HRR
      go_wp2
      go_loopw [6] (fun kv wr => ∃ (k : Nat) (A1 A2 : List D), k ≤ i ∧ kv = .int .i64 (k : Int) ∧ Hid (A1.length = k ∧ A1 ++ A2 = P ∧ ∀ y ∈ A2, less x y = true) ∧ Hid (RowAt wr g 58 (L.length * 2) (icell (A1 ++ x :: (A2 ++ R)))) ∧ Hid (Below w.heap.size w wr)) (fun kv _ => (intOf kv).toNat)
      case atStart => exact ⟨i, P, [], Nat.le_refl _, rfl, hide ⟨unhide HPL, by simp, by simp⟩, hide (by rw [unhide HD] at hrow; exact unhide hrow), hbel⟩
      case round =>
        obtain ⟨k, A1, A2, hk, rfl, hA, hrowi, hbeli⟩ := hrel
        have hend := fun (hl : ∀ y, A1.getLast? = some y → less x y = false) => sink_end (unhide hP) (unhide hA) hlt (by rw [unhide HD, unhide HR0]) hl
        have HRE : Hid (RowAt wr g 58 (L.length * 2) (icell ((A1 ++ x :: A2) ++ L.drop (i + 1)))) := by
          show RowAt _ _ _ _ _
          rw [unhide HR0, List.append_assoc]
          exact unhide hrowi
        have HEND := hide hend
        clear hend
        by_cases hk0 : k = 0
        · subst hk0
          have HE2 := hide (unhide HEND (fun y hy => by
            have h0 := List.length_eq_zero_iff.1 (unhide hA).1
            rw [h0] at hy; simp at hy))
          go_wp2
          go_quiet (fail)
          go_wp2
          go_roundw
          case rel => exact ⟨i + 1, A1 ++ x :: A2, by omega, by go_num, HE2, hide ((unhide HRE).of_block (by simp [World.drewN])), hide (bel_draws (unhide hbeli) _)⟩
          case measure => simp [intOf]; omega
        · obtain ⟨p, rfl⟩ : ∃ p, k = p + 1 := ⟨k - 1, by omega⟩
          obtain ⟨I, y, rfl, hIp⟩ := last_snoc (unhide hA).1
          have HIP := hide hIp
          have row := unhide hrowi
          have eL : I ++ [y] ++ x :: (A2 ++ R) = I ++ y :: x :: (A2 ++ R) := by simp
          rw [eL] at row
          have c0 : wr.cell? ⟨g, (p + 1) * 2, none⟩ = some (.int .u32 x.pos) := by
            rw [row.cell (by omega), icell_pos, ← eL, show p + 1 = (I ++ [y]).length by simp [hIp], getD_mid]
          have c1 : wr.cell? ⟨g, (p + 1) * 2 + 1, none⟩ = some (.string x.name) := by
            rw [row.cell (by omega), icell_name, ← eL, show p + 1 = (I ++ [y]).length by simp [hIp], getD_mid]
          have c2 : wr.cell? ⟨g, p * 2, none⟩ = some (.int .u32 y.pos) := by
            rw [row.cell (by omega), icell_pos, ← hIp, getD_mid]
          have c3 : wr.cell? ⟨g, p * 2 + 1, none⟩ = some (.string y.name) := by
            rw [row.cell (by omega), icell_name, ← hIp, getD_mid]
          have HRW := hide row
          have hglt : g < wr.heap.size := row.lt
          have hcl := fun w => less_any x y w
          have hkp : decide (0 < ((p + 1 : Nat) : Int)) = true := by simp
          have hwj : IntKind.i64.wrap (p : Int) = (p : Int) := by rw [IntKind.wrap_i64]; omega
          have hpl : (p : Int) < (L.length : Int) := by omega
          have hpl1 : (p : Int) + 1 < (L.length : Int) := by omega
          have hpl2 : (0 : Int) ≤ (p : Int) + 1 := by omega
          have hpl3 : ((p : Int) + 1).toNat = p + 1 := by omega
          have hpl4 : p + 1 < L.length := by omega
          have hp0 : (0 : Int) ≤ (p : Int) := by omega
          have q0 := cell_regrown c0
          have q1 := cell_regrown c1
          have q2 := cell_regrown c2
          have q3 := cell_regrown c3
          cases e : less x y
          · rw [e] at hcl
            have cC := fun d os => Calls.regrown_of (hcl (Go.Sort.grow (redrawn wr d) os))
            have HE2 := hide (unhide HEND (fun z hz => by
              rw [List.getLast?_concat] at hz; rw [← Option.some.inj hz]; exact e))
            clear hcl e eL hIp row
            go_wp2_with fail
            refine wp_region_quiet_below hmix (by kernel_rfl) ?_
            repeat (quiet_step (exact cC _ _))
            refine wpQuiet_nil ?_
            intro _ hw'
            obtain ⟨⟨dq, osq⟩, hw''⟩ := hw'
            subst hw''
            have hbq := below_regrown wr dq osq
            generalize (Go.Sort.grow (redrawn wr dq) osq) = wc at hbq ⊢
            have HR2 := hide ((unhide HRE).below hbq hglt)
            have HB2 := hide ((unhide hbeli).trans (hbq.mono (unhide hbeli).size))
            clear q0 q1 q2 q3 cC hbq c0 c1 c2 c3
            go_wp2
            go_roundw
            case rel => exact ⟨i + 1, I ++ [y] ++ x :: A2, by omega, by go_num, HE2, HR2, HB2⟩
            case measure => simp [intOf]; omega
          · rw [e] at hcl
            have cC := fun d os => Calls.regrown_of (hcl (Go.Sort.grow (redrawn wr d) os))
            have HA2 : Hid (I.length = p ∧ I ++ (y :: A2) = P ∧ ∀ z ∈ y :: A2, less x z = true) := by
              have h2 := (unhide hA).2
              exact ⟨hIp, by rw [← h2.1]; simp, fun z hz => by
                rcases List.mem_cons.1 hz with rfl | hz
                · exact e
                · exact h2.2 z hz⟩
            have HSW := hide (swap_icell I (A2 ++ R) x y p hIp)
            clear hcl e eL hIp row
            go_wp2_with fail
            refine wp_region_quiet_below hmix (by kernel_rfl) ?_
            repeat (quiet_step (exact cC _ _))
            refine wpQuiet_nil ?_
            intro _ hw'
            obtain ⟨⟨dq, osq⟩, hw''⟩ := hw'
            subst hw''
            have hbq := below_regrown wr dq osq
            generalize (Go.Sort.grow (redrawn wr dq) osq) = wc at hbq ⊢
            have z0 := (hbq.cell (p := ⟨g, (p + 1) * 2, none⟩) hglt).trans c0
            have z1 := (hbq.cell (p := ⟨g, (p + 1) * 2 + 1, none⟩) hglt).trans c1
            have z2 := (hbq.cell (p := ⟨g, p * 2, none⟩) hglt).trans c2
            have z3 := (hbq.cell (p := ⟨g, p * 2 + 1, none⟩) hglt).trans c3
            have hrc := (unhide HRW).below hbq hglt
            have f0 := hrc.frozen ((p + 1) * 2)
            have f1 := hrc.frozen ((p + 1) * 2 + 1)
            have f2 := hrc.frozen (p * 2)
            have f3 := hrc.frozen (p * 2 + 1)
            have hgc2 : g < wc.heap.size := hrc.lt
            have hr4 := (((hrc.set ((p + 1) * 2) (.int .u32 y.pos)).set ((p + 1) * 2 + 1) (.string y.name)).set (p * 2) (.int .u32 x.pos)).set (p * 2 + 1) (.string x.name)
            have HR2 := hide (hr4.below (bel1 _ (.cells #[.int .u32 x.pos, .string x.name] 58)) hr4.lt)
            have hb4 := (((((unhide hbeli).trans (hbq.mono (unhide hbeli).size)).setCell (p := ⟨g, (p + 1) * 2, none⟩) hgw (.int .u32 y.pos)).setCell (p := ⟨g, (p + 1) * 2 + 1, none⟩) hgw (.string y.name)).setCell (p := ⟨g, p * 2, none⟩) hgw (.int .u32 x.pos)).setCell (p := ⟨g, p * 2 + 1, none⟩) hgw (.string x.name)
            have HB2 := hide (hb4.alloc hb4.size (.cells #[.int .u32 x.pos, .string x.name] 58))
            clear hr4 hb4
            clear q0 q1 q2 q3 cC hbq c0 c1 c2 c3 hrc
            go_wp2
            go_roundw
            case rel => exact ⟨p, I, y :: A2, by omega, by go_num, HA2, hide ((unhide HR2).congr (fun j _ => unhide HSW j)), HB2⟩
            case measure => simp [intOf]
    · obtain rfl : i = L.length := by omega
      have HE : Hid (P = ring L) := ring_eq (by have := (unhide hP).2.2; rwa [List.take_length] at this) (unhide hP).2.1
      have HRW : Hid (RowAt wr g 58 (L.length * 2) (icell (ring L))) := by
        show RowAt _ _ _ _ _
        rw [← unhide HE]
        have := unhide hrow
        rwa [List.drop_length, List.append_nil] at this
      go_wp2
      go_ret2
      exact ⟨g, c, rfl, hgw, unhide HRW, unhide hbel⟩

set_option maxRecDepth 10000 in
set_option maxHeartbeats 1000000 in
theorem mring_any (b off cap : Nat) (l : List Nodes.D) (w : World) (hb : b < w.heap.size) (hc : ∀ i, i < l.length → Nodes.At w b (off + i * 2) (l.getD i Nodes.zero)) (hl : l.length ≤ maxLen) (hs : ∀ x ∈ l, Nodes.Fits x) :
    Calls Tryd.prog 8 #[.slice (some ⟨b, off, none⟩) l.length cap] w fun e w' =>
      ∃ a c r, e = .returned (.tuple #[.slice a (ringL l).length c, .bool (NodesM.gnB l)]) ∧ PointsM.Ours w' a (ringL l).length (icell (ringL l)) r ∧ (∀ g, r = some g → w.heap.size ≤ g) ∧ Below w.heap.size w w' := by
  cases e : NodesM.gnB l
  · have hgood := NodesM.nodes_some b off cap l w hb hc hl hs
    rw [e] at hgood
    have HE : Hid (ringL l = []) := by show ringL l = []; unfold ringL; rw [e]; rfl
    have HGD := hide hgood
    clear hgood e hc hs
    unfold maxLen at hl
    generalize ringL l = R at HE ⊢
    obtain rfl := unhide HE
    go_enter Tryd.func8, Tryd.ntmps8
    go_wp2_with fail
    refine (unhide HGD).mono ?_
    rintro e w1 ⟨rfl, hb1⟩
    have HB := hide hb1
    clear hb1
    go_wp2
    go_ret2
    exact ⟨_, _, none, rfl, .inl ⟨rfl, rfl⟩, fun g h => by simp at h, unhide HB⟩
  · have hE : ringL l = ring (points l) := by unfold ringL; rw [e]; rfl
    have hL := ring_length (points l)
    refine (mring_yes b off cap l w hb hc hs e).mono ?_
    rintro e' w' ⟨g, c, rfl, hg, hrow, hbel⟩
    rw [hE, hL]
    exact ⟨some ⟨g, 0, none⟩, c, some g, rfl, .inr ⟨g, rfl, rfl, hrow⟩, fun g' h => by simp at h; omega, hbel⟩
end Ring
end Go.Proofs.YtcbmdloapmmghaaDoor
