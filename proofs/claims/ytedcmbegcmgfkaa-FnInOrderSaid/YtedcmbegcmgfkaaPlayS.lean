/-
  The model's PlaySession: the plain function.
-/
import Derived.Test.YtedcmbegcmgfkaaPlayI
import Derived.Test.YtedcmbegcmgfkaaCloseL
import Derived.Test.YtedcmbegcmgfkaaInS
namespace Go.Proofs.Ytedcmbegcmgfkaa
namespace Rnd
open Go.RowKit Base Slots Sess Marks Ints GoodKey
set_option linter.unusedVariables false

theorem own_src {w : World} {B g n c : Nat} {l : List D} (h : OwnV w B (.slice (some ⟨g, 0, none⟩) n c) l) : Src w (some ⟨g, 0, none⟩) n c l := by
  obtain ⟨h1, h2, h3, h4⟩ := own_row h
  refine .inr ⟨g, 0, rfl, h1.lt, h3, fun i hi => ?_⟩
  rw [Nat.zero_add]
  exact row_at h1 i hi
theorem src_set {w : World} {a : Option Addr} {n cap : Nat} {l : List D} (h : Src w a n cap l) (H o : Nat) (v : Value) (hne : ∀ b off, a = some ⟨b, off, none⟩ → b ≠ H) : Src (w.setCell ⟨H, o, none⟩ v) a n cap l := by
  rcases h with h | ⟨b, off, ha, hlt, hn, hc⟩
  · exact .inl h
  · refine .inr ⟨b, off, ha, by simpa [World.setCell] using hlt, hn, fun i hi => ?_⟩
    have hb := hne b off ha
    have e : (w.setCell ⟨H, o, none⟩ v).heap[b]? = w.heap[b]? := Below.heap_setCell _ _ _ _ (by simpa using hb)
    have ec : ∀ o', (w.setCell ⟨H, o, none⟩ v).cell? ⟨b, o', none⟩ = w.cell? ⟨b, o', none⟩ := fun o' => World.cell?_of_block (a := ⟨b, o', none⟩) e
    obtain ⟨q0, q1, q2⟩ := hc i hi
    exact ⟨(ec _).trans q0, (ec _).trans q1, (ec _).trans q2⟩
theorem fin_eq {l : List D} {id : Int} {ans : ByteArray} (h : ans.size ≤ 3000) : finR l id ans = if anyB l id = true then ⟨popL (closeL l id ans), popS (closeL l id ans), true⟩ else ⟨l, ByteArray.empty, false⟩ := by
  unfold finR
  by_cases q : anyB l id = true
  · rw [if_pos ⟨h, q⟩, if_pos q]
  · rw [if_neg (fun r => q r.2), if_neg q]
/-- The session's box, and where its slots lie: in a block that is not the box. -/
def Held (w : World) (H : Nat) (n : Int) (l : List D) : Prop := ∃ a c, Bx w H n (.slice a l.length c) ∧ Src w a l.length c l ∧ ∀ b off, a = some ⟨b, off, none⟩ → b ≠ H
theorem Held.below {w w' : World} {H C : Nat} {n : Int} {l : List D} (h : Held w H n l) (hb : Below C w w') (hC : w.heap.size ≤ C) : Held w' H n l := by
  obtain ⟨a, c, h1, h2, h3⟩ := h
  exact ⟨a, c, h1.below hb (Nat.lt_of_lt_of_le h1.2.2.2 hC), h2.below hb hC, h3⟩
theorem Held.lt {w : World} {H : Nat} {n : Int} {l : List D} (h : Held w H n l) : H < w.heap.size := by
  obtain ⟨a, c, h1, _⟩ := h
  exact h1.2.2.2
theorem held_new (w : World) : Held (w.alloc (.cells #[.int .i64 0, .slice none 0 0] 52)) w.heap.size 0 [] := ⟨none, 0, bx_new w 0 (.slice none 0 0), .inl ⟨rfl, rfl, rfl, rfl⟩, fun b off e => by simp at e⟩

section
variable {wr w2 : World} {v0 v1 : Value} {g : Nat}
theorem meet_g (h : (wr.alloc (.cells #[v0, v1] 52)).drew.heap.size ≤ g) : wr.heap.size ≤ g := by
  have e : (wr.alloc (.cells #[v0, v1] 52)).drew.heap.size = wr.heap.size + 1 := World.size_alloc _ _
  omega
theorem meet_g' (h : (wr.alloc (.cells #[v0, v1] 52)).drew.heap.size ≤ g) : g ≠ wr.heap.size := by
  have e : (wr.alloc (.cells #[v0, v1] 52)).drew.heap.size = wr.heap.size + 1 := World.size_alloc _ _
  omega
theorem meet_x {n0 : Int} (h : Below (wr.alloc (.cells #[.int .i64 n0, v1] 52)).drew.heap.size (wr.alloc (.cells #[.int .i64 n0, v1] 52)).drew w2) (n : Int) (v : Value) : Bx ((w2.setCell ⟨wr.heap.size, 0, none⟩ (.int .i64 n)).setCell ⟨wr.heap.size, 1, none⟩ v) wr.heap.size n v := by
  have e : (wr.alloc (.cells #[.int .i64 n0, v1] 52)).drew.heap.size = wr.heap.size + 1 := World.size_alloc _ _
  have b := (Bx.of_block (w' := (wr.alloc (.cells #[.int .i64 n0, v1] 52)).drew) (bx_new wr n0 v1) rfl (Nat.le_refl _)).below h (by omega)
  exact (b.set0 n).set1 v
theorem meet_r {o c : Nat} {l : List D} (h : Rst w2 g o c l) (hne : g ≠ wr.heap.size) (u v : Value) : Rst ((w2.setCell ⟨wr.heap.size, 0, none⟩ u).setCell ⟨wr.heap.size, 1, none⟩ v) g o c l := by
  refine h.of_block ?_ (by simp [World.setCell])
  rw [Below.heap_setCell _ _ _ _ (by simpa using hne), Below.heap_setCell _ _ _ _ (by simpa using hne)]
theorem meet_b (h : Below (wr.alloc (.cells #[v0, v1] 52)).drew.heap.size (wr.alloc (.cells #[v0, v1] 52)).drew w2) (u v : Value) : Below wr.heap.size wr ((w2.setCell ⟨wr.heap.size, 0, none⟩ u).setCell ⟨wr.heap.size, 1, none⟩ v) := by
  have e : (wr.alloc (.cells #[v0, v1] 52)).drew.heap.size = wr.heap.size + 1 := World.size_alloc _ _
  exact (((bel1 wr _).drew.trans (h.mono (by omega))).setCell (p := ⟨wr.heap.size, 0, none⟩) (Nat.le_refl _) u).setCell (p := ⟨wr.heap.size, 1, none⟩) (Nat.le_refl _) v
end
set_option maxRecDepth 100000 in
set_option maxHeartbeats 8000000 in
theorem playS_any (a : Option Addr) (cap : Nat) (order : List Int) (a' : Option Addr) (cap' : Nat) (ts : List ByteArray) (w : World) (hol : order.length ≤ 1048576) (hc : NAt w a order) (hc' : StrsAt w a' ts) :
    Calls Try.prog 6 #[.slice a order.length cap, .slice a' ts.length cap'] w (PlayEnd (playR order ts) w) := by
  by_cases g0 : 30 < (ts.length : Int)
  · rw [play_no (by rw [fit_1 g0]; simp)]
    have g0' : decide (30 < (ts.length : Int)) = true := decide_eq_true g0
    clear hc hc'
    go_enter Try.func6, Try.ntmps6
    go_wp2
    refine bodyPost_ret (v := .tuple #[.string ByteArray.empty, .int .i64 0, .bool false]) (by simp [results, Try.results6, go_sem]; rfl) rfl ⟨rfl, Below.refl _ _⟩
  have g0' : decide (30 < (ts.length : Int)) = false := decide_eq_false g0
  by_cases g1 : 100 < (order.length : Int)
  · rw [play_no (by omega)]
    have g1' : decide (100 < (order.length : Int)) = true := decide_eq_true g1
    clear hc hc'
    go_enter Try.func6, Try.ntmps6
    go_wp2
    refine bodyPost_ret (v := .tuple #[.string ByteArray.empty, .int .i64 0, .bool false]) (by simp [results, Try.results6, go_sem]; rfl) rfl ⟨rfl, Below.refl _ _⟩
  have g1' : decide (100 < (order.length : Int)) = false := decide_eq_false g1
  have HC : Hid (∀ wr, Below w.heap.size w wr → ∀ k, k < order.length → ∃ c off, a = some ⟨c, off, none⟩ ∧ c < wr.heap.size ∧ wr.cell? ⟨c, off + k, none⟩ = some (.int .i64 (order.getD k 0))) := fun wr hg k hk => by
    obtain ⟨c, off, ha, hcz, hcc⟩ := hc (fun e => by rw [e] at hk; simp at hk)
    refine ⟨c, off, ha, Nat.lt_of_lt_of_le hcz hg.size, ?_⟩
    rw [hg.cell (p := ⟨c, off + k, none⟩) hcz]
    exact hcc k hk
  have HC' : Hid (∀ wr, Below w.heap.size w wr → ∀ k, k < ts.length → ∃ c off, a' = some ⟨c, off, none⟩ ∧ c < wr.heap.size ∧ wr.cell? ⟨c, off + k, none⟩ = some (.string (ts.getD k ByteArray.empty))) := fun wr hg k hk => by
    obtain ⟨c, off, ha, hcz, hcc⟩ := hc' (fun e => by rw [e] at hk; simp at hk)
    refine ⟨c, off, ha, Nat.lt_of_lt_of_le hcz hg.size, ?_⟩
    rw [hg.cell (p := ⟨c, off + k, none⟩) hcz]
    exact hcc k hk
  have HNO : Hid (∀ k, k < ts.length → 3000 < ((ts.getD k ByteArray.empty).size : Int) → playR order ts = ⟨ByteArray.empty, 0, false⟩) := fun k hk h => play_no (by rw [fit_2 hk h]; simp)
  have HFA := fold_all ts ⟨initL ts.length, ByteArray.empty⟩ order
  have hYE : (∀ k, k < ts.length → ((ts.getD k ByteArray.empty).size : Int) ≤ 3000) → fitB ts = true ∧ playR order ts = ⟨(foldP ts ⟨initL ts.length, ByteArray.empty⟩ order).out, (openL (foldP ts ⟨initL ts.length, ByteArray.empty⟩ order).l).length, true⟩ := fun h => ⟨fit_3 g0 h, play_ok (fit_3 g0 h) (by omega)⟩
  obtain ⟨T, hT⟩ : ∃ T, T = foldP ts ⟨initL ts.length, ByteArray.empty⟩ order := ⟨_, rfl⟩
  obtain ⟨n9, hn9⟩ : ∃ n, n = (openL T.l).length := ⟨_, rfl⟩
  rw [← hT] at HFA hYE
  rw [← hn9] at hYE
  have HYE := hide hYE
  have HE := hide HFA
  have HN9 := hide hn9
  clear hYE HFA hT hn9
  have HFT := hide (fold_take ts ⟨initL ts.length, ByteArray.empty⟩ order)
  have HST := hide (fun s id => @step_out ts s id)
  have HSI := hide (fun s id => @step_in ts s id)
  have HOT := hide openL_take
  have HI1 := hide init_succ
  have HIL := hide init_len
  generalize playR order ts = R at HNO HYE ⊢
  clear hc hc'
  go_enter Try.func6, Try.ntmps6
  go_wp2
  go_loopw [30] (fun iv wr => ∃ (k : Nat), k ≤ ts.length ∧ iv = .int .i64 k ∧ Hid (∀ j, j < k → ((ts.getD j ByteArray.empty).size : Int) ≤ 3000) ∧ Hid (Held wr w.heap.size (k : Int) (initL k)) ∧ Hid (Below w.heap.size w wr)) (fun iv _ => ts.length - (intOf iv).toNat)
  case atStart => exact ⟨0, Nat.zero_le _, rfl, hide (fun j hj => absurd hj (by omega)), hide (held_new w), hide (bel1 w _)⟩
  case round =>
    obtain ⟨k, hk, rfl, hok, H1, B1⟩ := hrel
    by_cases hkl : k < ts.length
    · obtain ⟨c, off, ha, hcz, hcc⟩ := unhide HC' wr (unhide B1) k hkl
      subst ha
      have HB := hide (unhide HNO k hkl)
      have hst : Hid (((ts.getD k ByteArray.empty).size : Int) ≤ 3000 → ∀ j, j < k + 1 → ((ts.getD j ByteArray.empty).size : Int) ≤ 3000) := fun h j hj => by
        by_cases e : j = k
        · rw [e]; exact h
        · exact unhide hok j (by omega)
      generalize ts.getD k ByteArray.empty = t at hcc HB hst
      by_cases q : 3000 < (t.size : Int)
      · have HR := unhide HB q
        subst HR
        clear HB hst
        go_wp2
        refine bodyPost_ret (v := .tuple #[.string ByteArray.empty, .int .i64 0, .bool false]) (by simp [results, Try.results6, go_sem]; rfl) rfl ⟨rfl, unhide B1⟩
      · have H := hide (unhide hst (by omega))
        have HS := hide (unhide HI1 k)
        have hlk := unhide HIL k
        obtain ⟨ah, ch, hX, hS, hnb⟩ := unhide H1
        rw [hlk] at hX hS
        have HSS := hide hS
        have HX := hide hX
        obtain ⟨x0, x1, xf, xz⟩ := hX
        clear HB hst hS hnb
        go_wp2_with fail
        refine (l5Open_any (k : Int) ah k ch (initL k) _ (unhide HSS) (by omega) (by omega) (by omega)).mono ?_
        rintro e w2 ⟨g, c2, rfl, ho2, hb2⟩
        rw [← unhide HS] at ho2
        have hg2 : wr.heap.size ≤ g := (own_row ho2).2.1
        have X2 := hide ((unhide HX).below hb2 xz)
        have S2 := hide (own_src ho2)
        have B2 := hide ((unhide B1).trans (hb2.mono (unhide B1).size))
        have hgne : g ≠ w.heap.size := by omega
        clear x0 x1 xf ho2 hb2 HSS HX
        obtain ⟨x0, x1, xf, xz2⟩ := unhide X2
        have H3 : Hid (Held ((w2.setCell ⟨w.heap.size, 0, none⟩ (.int .i64 ((k : Int) + 1))).setCell ⟨w.heap.size, 1, none⟩ (.slice (some ⟨g, 0, none⟩) (k + 1) c2)) w.heap.size ((k : Int) + 1) (initL (k + 1))) := by
          refine ⟨some ⟨g, 0, none⟩, c2, ?_, ?_, fun b off e => by simp at e; omega⟩
          · rw [unhide HIL (k + 1)]
            exact ((unhide X2).set0 _).set1 _
          · rw [unhide HIL (k + 1)]
            exact src_set (src_set (unhide S2) _ _ _ (fun b off e => by simp at e; omega)) _ _ _ (fun b off e => by simp at e; omega)
        have B3 := hide (((unhide B2).setCell (p := ⟨w.heap.size, 0, none⟩) (Nat.le_refl _) (.int .i64 ((k : Int) + 1))).setCell (p := ⟨w.heap.size, 1, none⟩) (Nat.le_refl _) (.slice (some ⟨g, 0, none⟩) (k + 1) c2))
        clear hlk
        go_wp2
        go_roundw
        case rel => exact ⟨k + 1, by omega, by go_num, H, hide (by have := unhide H3; exact this), B3⟩
        case measure => simp [intOf]; omega
    · obtain rfl : k = ts.length := by omega
      obtain ⟨hfit, hR⟩ := unhide HYE (unhide hok)
      subst hR
      have HINV := hide (fun k hk => inv_fold hfit (inv_init ts.length (fit_len hfit)) order k hk)
      have HAS := hide (fun id h0 h1 => @ans_size ts hfit id h0 h1)
      have hts := fit_len hfit
      clear hfit HYE HNO HI1 hok
      go_wp2
      go_loopw [10, 45] (fun ov iv wr => ∃ (k : Nat) (s : Pl), k ≤ order.length ∧ s.out.size ≤ 9000000 ∧ ov = .string s.out ∧ iv = .int .i64 k ∧ Hid (s = foldP ts ⟨initL ts.length, ByteArray.empty⟩ (order.take k)) ∧ Hid (Held wr w.heap.size (ts.length : Int) s.l) ∧ Hid (Below w.heap.size w wr)) (fun _ iv _ => order.length - (intOf iv).toNat)
      case atStart => exact ⟨0, ⟨initL ts.length, ByteArray.empty⟩, Nat.zero_le _, by simp, rfl, rfl, hide (by simp [foldP]), H1, B1⟩
      case round =>
        clear H1 B1
        obtain ⟨k, s, hk, hsz, rfl, rfl, hs, H1, B1⟩ := hrel
        have hinv := unhide HINV k hk
        rw [← unhide hs] at hinv
        by_cases hkl : k < order.length
        · have hft := unhide HFT k hkl
          rw [← unhide hs] at hft
          obtain ⟨c, off, ha, hcz, hcc⟩ := unhide HC wr (unhide B1) k hkl
          subst ha
          generalize order.getD k 0 = id at hcc hft
          have HFK := hide hft
          have HI := hide hinv
          have hin := fun w' => l1In_any id 0 ((ts.length : Int) - 1) w'
          have hwn : IntKind.i64.wrap ((ts.length : Int) - 1) = (ts.length : Int) - 1 := by rw [IntKind.wrap_i64]; omega
          clear hft hinv hs
          cases gi : inB id 0 ((ts.length : Int) - 1)
          · have HN := hide ((unhide HFK).trans (unhide HST s id (by simp [inB] at gi; omega)))
            rw [gi] at hin
            have HIN := hide hin
            clear hin gi HFK
            go_wp2_with (go_at_call 17; refine (unhide HIN _).mono ?_; rintro e w1 ⟨rfl, rfl⟩)
            go_roundw
            case rel => exact ⟨k + 1, s, by omega, hsz, rfl, by go_num, hide (unhide HN).symm, H1, B1⟩
            case measure => simp [intOf]; omega
          · have gid : 0 ≤ id ∧ id < ts.length := by simp only [inB, Bool.and_eq_true, decide_eq_true_eq] at gi; omega
            rw [gi] at hin
            have HIN := hide hin
            clear hin gi
            obtain ⟨j, hj⟩ : ∃ j : Nat, id = j := ⟨id.toNat, by omega⟩
            subst hj
            have hjl : j < ts.length := by omega
            obtain ⟨c', off', ha', hcz', hcc'⟩ := unhide HC' wr (unhide B1) j hjl
            subst ha'
            have hstp := (unhide HFK).trans (unhide HSI s (j : Int) gid)
            have hsa := unhide HAS (j : Int) gid.1 gid.2
            have eat : ansAt ts (j : Int) = ts.getD j ByteArray.empty := by unfold ansAt; rw [Int.toNat_natCast]
            rw [eat] at hstp hsa
            rw [fin_eq hsa] at hstp
            have hs30 := (unhide HI).len
            have hso := (unhide HI).size
            have hps := popS_size (close_small (unhide HI).small (j : Int) hsa)
            rw [closeL_len] at hps
            obtain ⟨ah, ch, hX, hS, hnb⟩ := unhide H1
            have hcl := fun w' h => l5Close_any (ts.length : Int) ah s.l.length ch s.l (j : Int) (ts.getD j ByteArray.empty) w' h (by omega) (unhide HI).small hsa
            generalize ts.getD j ByteArray.empty = t at hcc' hstp hsa hcl hps
            generalize popL (closeL s.l (j : Int) t) = CL at hstp hcl
            generalize popS (closeL s.l (j : Int) t) = CS at hstp hcl hps
            generalize anyB s.l (j : Int) = CA at hstp hcl
            have HCL := hide hcl
            have HSP := hide hstp
            have HNB := hide hnb
            have HX := hide hX
            have S0 : Hid (Src wr.drew ah s.l.length ch s.l) := hS.below (Below.refl wr.heap.size wr).drew (Nat.le_refl _)
            have S1 : Hid (∀ o, Src (wr.alloc o).drew ah s.l.length ch s.l) := fun o => hS.below (bel1 wr o).drew (Nat.le_refl _)
            obtain ⟨x0, x1, xf, xz⟩ := hX
            clear hcl hstp hS hnb HFK eat
            go_upto_region 16 with (go_at_call 17; refine (unhide HIN _).mono ?_; rintro e w1 ⟨rfl, hw1⟩; rw [hw1]; clear hw1 w1)
            go_cut [13, 14, 15] (fun s13 s14 s15 wx => ∃ m g o c, s13 = .pointer (some ⟨m, 0, none⟩) ∧ s14 = .string CS ∧ s15 = .bool CA ∧ wr.heap.size ≤ m ∧ wr.heap.size ≤ g ∧ Hid (Bx wx m (ts.length : Int) (.slice (some ⟨g, o, none⟩) CL.length c)) ∧ Hid (Rst wx g o c CL) ∧ Hid (Below wr.heap.size wr wx))
            case first =>
              go_region_with (go_at_call 18; (first | (refine (unhide HCL _ (unhide S0)).mono ?_; rintro e w2 ⟨g, o, c2, rfl, hT2, hg2, hb2⟩; have hz2 : wr.heap.size ≤ w2.heap.size := hb2.size; have T2 := hide hT2; have HB2 := hide hb2; clear hT2 hb2) | (refine (unhide HCL _ (unhide S1 _)).mono ?_; rintro e w2 ⟨g, o, c2, rfl, hT2, hg2, hb2⟩; have y0 := (hb2.cell (p := ⟨wr.heap.size, 0, none⟩) (by simp)); have y1 := (hb2.cell (p := ⟨wr.heap.size, 1, none⟩) (by simp)); have yf := fun o => (hb2.frozen (p := ⟨wr.heap.size, o, none⟩) (by simp)); have yz : wr.heap.size < w2.heap.size := (by have := hb2.size; simp at this; omega); have T2 := hide hT2; have HB3 := hide hb2; clear hT2 hb2)))
              all_goals
                go_wp2_with fail
                go_meet
                first
                  | exact ⟨w2.heap.size, g, o, c2, rfl, rfl, rfl, hz2, hg2, hide (bx_new w2 _ _), hide ((unhide T2).of_block ((bel1 w2 _).block g (unhide T2).1) (by simp)), hide ((Below.refl wr.heap.size wr).drew.trans ((unhide HB2).alloc hz2 _))⟩
                  | exact ⟨wr.heap.size, g, o, c2, rfl, rfl, rfl, Nat.le_refl _, meet_g hg2, hide (meet_x (unhide HB3) _ _), hide (meet_r (unhide T2) (meet_g' hg2) _ _), hide (meet_b (unhide HB3) _ _)⟩
            case rest =>
              obtain ⟨m, g, o, c2, rfl, rfl, rfl, hm, hg, X3, T3, B3⟩ := hcut
              have HX3 := hide ((unhide HX).below (unhide B3) xz)
              have Bw := hide ((unhide B1).trans ((unhide B3).mono (unhide B1).size))
              have H3 := hide ((unhide H1).below (unhide B3) (Nat.le_refl _))
              clear x0 x1 xf
              obtain ⟨x0, x1, xf, xz3⟩ := unhide HX3
              obtain ⟨y0, y1, yf, yz3⟩ := unhide X3
              cases CA
              · have HN : Hid (foldP ts ⟨initL ts.length, ByteArray.empty⟩ (List.take (k + 1) order) = s) := (unhide HSP).trans (by simp)
                go_wp2
                go_roundw
                case rel => exact ⟨k + 1, s, by omega, hsz, rfl, by go_num, hide (unhide HN).symm, H3, Bw⟩
                case measure => simp [intOf]; omega
              · have HN : Hid (foldP ts ⟨initL ts.length, ByteArray.empty⟩ (List.take (k + 1) order) = ⟨CL, s.out ++ CS⟩) := (unhide HSP).trans (by simp)
                have hso2 : (s.out ++ CS).size ≤ 9000000 := by rw [ByteArray.size_append]; omega
                have hgne : g ≠ w.heap.size := by omega
                have hmne : ¬ m = w.heap.size := by omega
                have hmne' : ¬ w.heap.size = m := by omega
                have hcs : CS.size ≤ 90000 := by omega
                have H4 : Hid (Held ((wc.setCell ⟨w.heap.size, 0, none⟩ (.int .i64 (ts.length : Int))).setCell ⟨w.heap.size, 1, none⟩ (.slice (some ⟨g, o, none⟩) CL.length c2)) w.heap.size (ts.length : Int) CL) := by
                  refine ⟨some ⟨g, o, none⟩, c2, ((unhide HX3).set0 _).set1 _, src_set (src_set (unhide T3).src _ _ _ (fun b off e => by simp at e; omega)) _ _ _ (fun b off e => by simp at e; omega), fun b off e => by simp at e; omega⟩
                have B4 := hide (((unhide Bw).setCell (p := ⟨w.heap.size, 0, none⟩) (Nat.le_refl _) (.int .i64 (ts.length : Int))).setCell (p := ⟨w.heap.size, 1, none⟩) (Nat.le_refl _) (.slice (some ⟨g, o, none⟩) CL.length c2))
                go_wp2
                go_roundw
                case rel => exact ⟨k + 1, ⟨CL, s.out ++ CS⟩, by omega, hso2, rfl, by go_num, hide (unhide HN).symm, H4, B4⟩
                case measure => simp [intOf]; omega
        · obtain rfl : k = order.length := by omega
          have hsT := (unhide hs).trans (unhide HE)
          subst hsT
          have hs30 := hinv.len
          obtain ⟨ah, ch, hX, hS, hnb⟩ := unhide H1
          have HSR : Hid (∀ k, k < s.l.length → ∃ g o, ah = some ⟨g, o, none⟩ ∧ g < wr.heap.size ∧ At wr g (o + k * 3) (s.l.getD k zero)) := fun k hk => by
            rcases hS with ⟨_, _, _, hl0⟩ | ⟨g, o, ha, hgz, _, hcs⟩
            · rw [hl0] at hk; simp at hk
            · exact ⟨g, o, ha, hgz, hcs k hk⟩
          have HALL := hide (openL_all s.l)
          have HOL := hide (fun k => openL_len (s.l.take k))
          obtain ⟨x0, x1, xf, xz⟩ := hX
          clear hs hinv hS hnb H1 HINV HAS HFT HE HST HSI HC HC'
          go_wp2
          clear x0 x1 xf xz
          obtain ⟨w9, hw9⟩ : ∃ v, v = wr := ⟨_, rfl⟩
          rw [← hw9] at HSR B1
          have HW9 := hide hw9
          go_loopw [16, 75] (fun nv iv wx => ∃ (k n : Nat), k ≤ s.l.length ∧ n ≤ k ∧ nv = .int .i64 n ∧ iv = .int .i64 k ∧ Hid (n = (openL (s.l.take k)).length) ∧ Hid (Below w9.heap.size w9 wx)) (fun _ iv _ => s.l.length - (intOf iv).toNat)
          case atStart => exact ⟨0, 0, Nat.zero_le _, Nat.le_refl _, rfl, rfl, hide rfl, hide (by rw [hw9]; exact Below.refl _ _)⟩
          case round =>
            obtain ⟨k, n, hk, hnk, rfl, rfl, hn, B5⟩ := hrel
            by_cases hkl : k < s.l.length
            · obtain ⟨g, o, ha, hgz, hat⟩ := unhide HSR k hkl
              subst ha
              obtain ⟨d0, d1, d2⟩ := hat.below (unhide B5) hgz
              have hgw : g < wr.heap.size := Nat.lt_of_lt_of_le hgz (unhide B5).size
              have ht := unhide HOT s.l k hkl
              generalize s.l.getD k zero = x at d0 d1 d2 ht
              obtain ⟨xi, xd, xa⟩ := x
              dsimp only at d0 d1 d2 ht
              have BA := hide (fun ob => (unhide B5).alloc (unhide B5).size ob)
              cases xd
              · have HT := hide (show n + 1 = (openL (s.l.take (k + 1))).length by rw [ht, if_neg (by simp), List.length_append, ← unhide hn]; rfl)
                clear ht hat
                go_wp2
                go_roundw
                case rel => exact ⟨k + 1, n + 1, by omega, by omega, by go_num, by go_num, HT, hide (unhide BA _)⟩
                case measure => simp [intOf]; omega
              · have HT := hide (show n = (openL (s.l.take (k + 1))).length by rw [ht, if_pos rfl]; exact unhide hn)
                clear ht hat
                go_wp2
                go_roundw
                case rel => exact ⟨k + 1, n, by omega, by omega, rfl, by go_num, HT, hide (unhide BA _)⟩
                case measure => simp [intOf]; omega
            · obtain rfl : k = s.l.length := by omega
              have hn9 : n = n9 := by rw [unhide hn, unhide HALL]; exact (unhide HN9).symm
              subst hn9
              go_wp2
              refine bodyPost_ret (v := .tuple #[.string s.out, .int .i64 n, .bool true]) (by simp [results, Try.results6, go_sem]) rfl ⟨rfl, (unhide B1).trans ((unhide B5).mono (unhide B1).size)⟩
end Rnd
end Go.Proofs.Ytedcmbegcmgfkaa
