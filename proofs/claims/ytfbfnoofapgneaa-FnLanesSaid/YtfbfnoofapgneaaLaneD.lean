/-
  The model's (*l1Cur).lane: some lane, in bounds, wherever its waits lie.
-/
import Derived.Test.YtfbfnoofapgneaaLaneL
import Derived.Test.YtfbfnoofapgneaaCurB
import Derived.Test.YtfbfnoofapgneaaSendSA
import Derived.Test.YtfbfnoofapgneaaAnswerSA
import Derived.Test.YtfbfnoofapgneaaBreakSA
import Derived.Deep.RegionHeld3
import Derived.WalkSpells
namespace Go.Proofs.Ytfbfnoofapgneaa
namespace Lanes
open Go.RowKit Base GoodKey Waits Marks OwnR WaitsW
set_option linter.unusedVariables false

theorem send_0 (ep fa : Int) (l : List D) (x : D) (h : (sendR ep fa l x).code = 0) : (sendR ep fa l x).ep = ep := by
  cases g1 : glB ep fa l
  · rw [send_1 g1] at h; simp at h
  · cases g2 : mayB l x
    · rw [send_2 g1 g2]
    · by_cases g3 : l.length = 20
      · rw [send_3 g1 g2 g3]
      · rw [send_4 g1 g2 g3]
theorem answer_ep (ep fa : Int) (l : List D) : (answerR ep fa l ep).ep = ep ∨ (answerR ep fa l ep).ep = 0 := by
  unfold answerR
  split
  · left; rw [if_pos rfl]; split <;> rfl
  · right; rfl
theorem break_ep (ep fa : Int) (l : List D) (h : ¬ ep = 1000000) : (breakR ep fa l).ep = ep + 1 ∨ (breakR ep fa l).ep = 0 := by
  unfold breakR
  split
  · left; first | rfl | (rw [if_neg h])
  · right; rfl
/-- The result's box. -/
def Rb (w : World) (R : Nat) : Prop := (w.cell? ⟨R, 0, none⟩ = some (.int .i64 0) ∧ w.cell? ⟨R, 1, none⟩ = some (.int .i64 0) ∧ w.cell? ⟨R, 2, none⟩ = some (.slice none 0 0)) ∧ (∀ o, w.frozen? ⟨R, o, none⟩ = false) ∧ R < w.heap.size
theorem rb_new (w : World) : Rb (w.alloc (.cells #[.int .i64 0, .int .i64 0, .slice none 0 0] 25)) w.heap.size := by
  refine ⟨⟨?_, ?_, ?_⟩, fun o => ?_, ?_⟩
  all_goals go_simp
theorem Rb.gb {w w' : World} {R c : Nat} (h : Rb w R) (hg : w.grownBy w' (some c)) (hne : R ≠ c) : Rb w' R := by
  obtain ⟨⟨y0, y1, y2⟩, f, z⟩ := h
  have e := hg.block R z (fun e => hne (by simpa using e))
  have cR := fun o => World.cell?_of_block (w := w) (a := ⟨R, o, none⟩) e
  exact ⟨⟨(cR _).trans y0, (cR _).trans y1, (cR _).trans y2⟩, fun o => (World.frozen?_of_block (w := w) (a := ⟨R, o, none⟩) e).trans (f o), Nat.lt_of_lt_of_le z hg.size⟩
theorem ln_new {w0 w : World} {c : Nat} {ca : Option Addr} {n cap k R : Nat} (h : Cur.Cu w0 w c ca n cap k) (hr : Rb w R) (hc : c < R) (ep fa : Int) :
    Ln w0 (w.alloc (.cells #[.int .i64 ep, .int .i64 fa, .slice none 0 0] 25)) c ca n cap k R w.heap.size ep fa none [] 0 := by
  obtain ⟨⟨y0, y1, y2⟩, f, z⟩ := hr
  have hb := bel1 w (.cells #[.int .i64 ep, .int .i64 fa, .slice none 0 0] 25)
  have cR := fun o => hb.cell (p := ⟨R, o, none⟩) z
  refine ⟨cu_below h hb, ⟨?_, ?_, ?_⟩, ⟨(cR _).trans y0, (cR _).trans y1, (cR _).trans y2⟩, fun o => ?_, fun o => (hb.frozen (p := ⟨R, o, none⟩) z).trans (f o), ⟨hc, z, ?_⟩, fun h => absurd rfl h, .inl ⟨rfl, rfl⟩, by simp⟩
  all_goals clear cR
  all_goals go_simp
def epochs : List Int := [0, 1000000, 1000001]
theorem cells3 (w : World) (t : TypeId) (i : Nat) (h : i < 3) : (w.alloc (.cells #[.int .i64 0, .int .i64 1000000, .int .i64 1000001] t)).cell? ⟨w.heap.size, i, none⟩ = some (.int .i64 (epochs.getD i 0)) := by
  rw [World.cell?_alloc_new]
  obtain rfl | rfl | rfl : i = 0 ∨ i = 1 ∨ i = 2 := by omega
  all_goals rfl

set_option maxRecDepth 10000 in
set_option maxHeartbeats 8000000 in
theorem lane_any (w0 w : World) (c : Nat) (ca : Option Addr) (n cap : Nat) (z : Nat → Int) (hz : Cur.BAt w0 ca n z) (hn : n ≤ 1048576) (h0 : Cur.Cu w0 w c ca n cap 0) :
    Calls Try.prog 11 #[.pointer (some ⟨c, 0, none⟩)] w (LaneDrawn w0 c ca n cap 200) := by
  have HP := hide (fun (m : Nat) (hm : 1 ≤ m ∧ m ≤ 200) k (hk : k ≤ 1000) w' h => Cur.pick_any w0 w' c ca n cap k m z hz hn (by omega) h hm)
  have HO := hide (fun (m : Nat) (hm : 1 ≤ m ∧ m ≤ 200) k (hk : k ≤ 1000) w' h => Cur.one_any w0 w' c ca n cap k m z hz hn (by omega) h hm)
  have HF := hide (fun k (hk : k ≤ 1000) w' lb h h1 h2 hc => Cur.among_any w0 w' c ca n cap k lb 3 epochs z hz hn (by omega) h (by decide) h1 h2 hc)
  have hcw := h0.lt
  have C0 := hide (cu_below h0 (bel1 w (.cells #[.int .i64 0, .int .i64 0, .slice none 0 0] 25)))
  have R0 := hide (rb_new w)
  clear hz h0
  go_enter Try.func11, Try.ntmps11
  go_wp2_with fail
  refine (unhide HP 3 (by omega) 0 (by omega) _ (unhide C0)).mono ?_
  rintro e w1 ⟨r1, rfl, hr1, hcu, hg⟩
  have C1 := hide hcu
  have R1 := hide ((unhide R0).gb hg (by omega))
  clear hcu hg C0 R0
  go_wp2_with fail
  refine (unhide HP 5 (by omega) 1 (by omega) _ (unhide C1)).mono ?_
  rintro e w2 ⟨r2, rfl, hr2, hcu, hg⟩
  have L2 := hide (ln_new hcu ((unhide R1).gb hg (by omega)) hcw (1 + (r1 : Int)) (r2 : Int))
  clear hcu hg C1 R1
  go_wp2_with fail
  refine (unhide HP 9 (by omega) 2 (by omega) _ (unhide L2).cu).mono ?_
  rintro e w3 ⟨r3, rfl, hr3, hcu, hg⟩
  have L3 := hide ((unhide L2).pick hcu hg)
  clear hcu hg L2
  generalize w2.heap.size = L at L3 ⊢
  go_wp2_with fail
  refine (unhide HO 16 (by omega) 3 (by omega) _ (unhide L3).cu).mono ?_
  rintro e w4 ⟨b4, rfl, hcu, hg⟩
  have L4 := hide ((unhide L3).pick hcu hg)
  clear hcu hg L3
  generalize w.heap.size = R at hcw L4 ⊢
  have hep1 : (0 : Int) ≤ 1 + (r1 : Int) ∧ 1 + (r1 : Int) ≤ 4 := by omega
  generalize 1 + (r1 : Int) = ep1 at L4 hep1
  cases b4
  case' false =>
    obtain ⟨nn, hnn, hle⟩ : ∃ nn : Nat, (r3 : Int) = nn ∧ nn ≤ 40 := ⟨r3, rfl, by omega⟩
    rw [hnn]
    clear hnn
    go_upto_region 6 with fail
  case' true =>
    go_upto_region 6 with fail
    obtain ⟨nn, hnn, hle⟩ : ∃ nn : Nat, (40 : Int) = nn ∧ nn ≤ 40 := ⟨40, rfl, by omega⟩
    rw [hnn]
    clear hnn
  all_goals
    go_wp2_with fail
    go_loopw [4, 6] (fun nv iv wr => ∃ (i nw : Nat) (ep fa : Int) (a : Option Addr) (l : List D) (cc : Nat), i ≤ nn ∧ nw ≤ 2 * i ∧ nv = .int .i64 nw ∧ iv = .int .i64 i ∧ 0 ≤ ep ∧ ep ≤ 4 + i ∧ l.length ≤ i ∧ Hid (Ln w0 wr c ca n cap (4 + 3 * i) R L ep fa a l cc)) (fun _ iv _ => nn - (intOf iv).toNat)
    case atStart => exact ⟨0, 0, ep1, r2, none, [], 0, Nat.zero_le _, Nat.zero_le _, rfl, rfl, hep1.1, by omega, by simp, L4⟩
    case round =>
      obtain ⟨i, nw, ep, fa, a, l, cc, hi, hnw, rfl, rfl, he0, he1, hl, L5⟩ := hrel
      clear L4
      by_cases hil : i < nn
      · go_wp2_with fail
        refine (unhide HP 6 (by omega) (4 + 3 * i) (by omega) _ (unhide L5).cu).mono ?_
        rintro e w6 ⟨p, rfl, hp, hcu, hg⟩
        have L6 := hide ((unhide L5).pick hcu hg)
        clear hcu hg L5
        have zL := (unhide L6).lt
        obtain ⟨x0, x1, x2⟩ := (unhide L6).box
        have fL := (unhide L6).fl
        by_cases p0 : p = 0
        · subst p0
          have hT1 := answer_ep ep fa l
          have hT2 := answerR_len ep fa l ep
          go_wp2_with fail
          refine (answerS_any ep fa a cc l ep w6 (unhide L6).lat (by omega) (unhide L6).len).mono ?_
          generalize answerR ep fa l ep = T at hT1 hT2
          obtain ⟨te, tf, tl, ti, tc⟩ := T
          dsimp only at hT1 hT2
          rintro e w7 ⟨a7, c7, he7, hf⟩
          dsimp only at he7 hf
          subst he7
          clear x0 x1 x2 fL
          have L7 := hide ((unhide L6).below hf.bel)
          obtain ⟨x0, x1, x2⟩ := (unhide L7).box
          have fL := (unhide L7).fl
          have zL7 := (unhide L7).lt
          have L8 := hide ((unhide L7).put te tf a7 tl c7 hf.lat (hf.2.2.le (by omega)) hf.2.1)
          clear hf L6
          go_wp2_with fail
          refine (unhide HP 3 (by omega) (4 + 3 * i + 1) (by omega) _ (unhide L8).cu).mono ?_
          rintro e w9 ⟨r9, rfl, hr9, hcu, hg⟩
          have L9 := hide (((unhide L8).pick hcu hg).le (show 4 + 3 * i + 1 + 1 ≤ 4 + 3 * (i + 1) by omega))
          clear hcu hg L8 x0 x1 x2 fL
          go_wp2
          go_roundw
          case rel => exact ⟨i + 1, nw + r9, te, tf, a7, tl, c7, by omega, by omega, by go_num, by go_num, by omega, by omega, by omega, L9⟩
          case measure => simp [intOf]; omega
        by_cases p1 : p = 1
        · subst p1
          go_wp2_with fail
          refine (unhide HO 4 (by omega) (4 + 3 * i + 1) (by omega) _ (unhide L6).cu).mono ?_
          rintro e w7 ⟨b7, rfl, hcu, hg⟩
          have L7 := hide ((unhide L6).pick hcu hg)
          clear hcu hg L6 x0 x1 x2 fL
          obtain ⟨x0, x1, x2⟩ := (unhide L7).box
          have fL := (unhide L7).fl
          have zL7 := (unhide L7).lt
          cases b7
          · go_wp2_with fail
            refine (unhide HP 3 (by omega) (4 + 3 * i + 1 + 1) (by omega) _ (unhide L7).cu).mono ?_
            rintro e w9 ⟨r9, rfl, hr9, hcu, hg⟩
            have L9 := hide (((unhide L7).pick hcu hg).le (show 4 + 3 * i + 1 + 1 + 1 ≤ 4 + 3 * (i + 1) by omega))
            clear hcu hg L7 x0 x1 x2 fL
            go_wp2
            go_roundw
            case rel => exact ⟨i + 1, nw + r9, ep, fa, a, l, cc, by omega, by omega, by go_num, by go_num, by omega, by omega, by omega, L9⟩
            case measure => simp [intOf]; omega
          · have hT1 := break_ep ep fa l (by omega)
            go_wp2_with fail
            refine (breakS_nil ep fa a cc l w7 (unhide L7).lat (by omega) (unhide L7).len (by omega)).mono ?_
            generalize breakR ep fa l = T at hT1
            obtain ⟨te, tf, tl, ti, tc⟩ := T
            dsimp only at hT1
            rintro e w8 ⟨i8, d8, he8, -, hb8⟩
            dsimp only at he8
            subst he8
            clear x0 x1 x2 fL
            have L8 := hide ((unhide L7).below hb8)
            obtain ⟨x0, x1, x2⟩ := (unhide L8).box
            have fL := (unhide L8).fl
            have zL8 := (unhide L8).lt
            have LA := hide ((unhide L8).put te tf none [] 0 (fun h => absurd rfl h) (.inl ⟨rfl, rfl⟩) (by simp))
            clear hb8 L7
            go_wp2_with fail
            refine (unhide HP 3 (by omega) (4 + 3 * i + 1 + 1) (by omega) _ (unhide LA).cu).mono ?_
            rintro e w9 ⟨r9, rfl, hr9, hcu, hg⟩
            have L9 := hide (((unhide LA).pick hcu hg).le (show 4 + 3 * i + 1 + 1 + 1 ≤ 4 + 3 * (i + 1) by omega))
            clear hcu hg L8 LA x0 x1 x2 fL
            go_wp2
            go_roundw
            case rel => exact ⟨i + 1, nw + r9, te, tf, none, [], 0, by omega, by omega, by go_num, by go_num, by omega, by omega, by simp, L9⟩
            case measure => simp [intOf]; omega
        have q0 : ¬ (p : Int) = 0 := by omega
        have q1 : ¬ (p : Int) = 1 := by omega
        have q0' : ((p : Int) == 0) = false := by simp; omega
        have q1' : ((p : Int) == 1) = false := by simp; omega
        have hT1 := send_0 ep fa l ⟨i, nw⟩
        have hT2 := sendR_len ep fa l ⟨i, nw⟩
        go_wp2_with fail
        refine (sendS_any ep fa a cc l i nw w6 (unhide L6).lat (by omega) (unhide L6).len).mono ?_
        generalize sendR ep fa l ⟨i, nw⟩ = T at hT1 hT2
        obtain ⟨te, tf, tl, tc⟩ := T
        dsimp only at hT1 hT2
        rintro e w7 ⟨a7, c7, he7, hf⟩
        dsimp only at he7 hf
        subst he7
        clear x0 x1 x2 fL
        have L7 := hide ((unhide L6).below hf.bel)
        obtain ⟨x0, x1, x2⟩ := (unhide L7).box
        have fL := (unhide L7).fl
        have zL7 := (unhide L7).lt
        have L8 := hide ((unhide L7).put te tf a7 tl c7 hf.lat (hf.2.2.le (by omega)) hf.2.1)
        clear hf L6
        by_cases g0 : tc = 0
        · have hb1 : 0 ≤ te ∧ te ≤ 4 + (i : Int) := by have := hT1 g0; omega
          have g0' : (tc == 0) = true := by simp [g0]
          have LA := hide ((unhide L8).below (bel1 _ (.cells #[.int .i64 te, .int .i64 tf, .slice a7 tl.length c7] 25)))
          clear hT1
          go_wp2_with fail
          refine (unhide HP 3 (by omega) (4 + 3 * i + 1) (by omega) _ (unhide LA).cu).mono ?_
          rintro e w9 ⟨r9, rfl, hr9, hcu, hg⟩
          have L9 := hide (((unhide LA).pick hcu hg).le (show 4 + 3 * i + 1 + 1 ≤ 4 + 3 * (i + 1) by omega))
          clear hcu hg L8 LA x0 x1 x2 fL
          go_wp2
          go_roundw
          case rel => exact ⟨i + 1, nw + r9, te, tf, a7, tl, c7, by omega, by omega, by go_num, by go_num, by omega, by omega, by omega, L9⟩
          case measure => simp [intOf]; omega
        · have g0' : (tc == 0) = false := by simp [g0]
          have LA := hide ((unhide L7).below (bel1 _ (.cells #[.int .i64 te, .int .i64 tf, .slice a7 tl.length c7] 25)))
          clear hT1
          go_wp2_with fail
          refine (unhide HP 3 (by omega) (4 + 3 * i + 1) (by omega) _ (unhide LA).cu).mono ?_
          rintro e w9 ⟨r9, rfl, hr9, hcu, hg⟩
          have L9 := hide (((unhide LA).pick hcu hg).le (show 4 + 3 * i + 1 + 1 ≤ 4 + 3 * (i + 1) by omega))
          clear hcu hg L8 LA x0 x1 x2 fL
          go_wp2
          go_roundw
          case rel => exact ⟨i + 1, nw + r9, ep, fa, a, l, cc, by omega, by omega, by go_num, by go_num, by omega, by omega, by omega, L9⟩
          case measure => simp [intOf]; omega
      · obtain rfl : i = nn := by omega
        go_wp2_with fail
        refine (unhide HP 30 (by omega) (4 + 3 * i) (by omega) _ (unhide L5).cu).mono ?_
        rintro e w6 ⟨p, rfl, hp, hcu, hg⟩
        have L6 := hide ((unhide L5).pick hcu hg)
        clear hcu hg L5
        have zL := (unhide L6).lt
        obtain ⟨x0, x1, x2⟩ := (unhide L6).box
        have fL := (unhide L6).fl
        by_cases p0 : p = 0
        · subst p0
          go_wp2_with fail
          refine (unhide HF (4 + 3 * i + 1) (by omega) _ w6.heap.size (cu_below (unhide L6).cu (bel1 w6 _)) (by simp) (by omega) (fun j hj => cells3 w6 _ j hj)).mono ?_
          rintro e w7 ⟨x, rfl, hx, hcu, hg⟩
          have L7 := hide (((unhide L6).below (bel1 w6 _)).pick hcu hg)
          clear hcu hg L6 x0 x1 x2 fL
          generalize epochs.getD x 0 = ev
          obtain ⟨x0, x1, x2⟩ := (unhide L7).box
          have fL := (unhide L7).fl
          have zL7 := (unhide L7).lt
          have L8 := hide (((unhide L7).put0 ev).le (show 4 + 3 * i + 1 + 1 ≤ 200 by omega))
          go_upto_region 24 with fail
          generalize w7.setCell ⟨L, 0, none⟩ (.int .i64 ev) = w8 at L8 ⊢
          clear L7 x0 x1 x2 fL
          obtain ⟨x0, x1, x2⟩ := (unhide L8).box
          obtain ⟨y0, y1, y2⟩ := (unhide L8).res
          have fL := (unhide L8).fl
          have fR := (unhide L8).fr
          have zL8 := (unhide L8).lt
          go_wp2
          refine bodyPost_ret (v := .agg #[.int .i64 ev, .int .i64 fa, .slice a l.length cc]) (by simp [results, Try.results11, go_sem, y0, y1, y2]) rfl ((unhide L8).out (by omega))
        by_cases p1 : p = 1
        · subst p1
          go_upto_region 23 with fail
          have L6d := hide (unhide L6).drew1
          go_region_law (first
            | (have L9 := hide ((unhide L8).below (bel1 w8 (.cells #[.int .i64 (IntKind.i64.wrap ((r7 : Int) - 1)), .int .i64 (r8 : Int)] 36))); have z9 := (unhide L9).lt; refine step_wait (w8.alloc (.cells #[.int .i64 (IntKind.i64.wrap ((r7 : Int) - 1)), .int .i64 (r8 : Int)] 36)) (by rfl) (.tmp 71) (.tmp 78) (by rfl) (L + 1) a cc l.length l (by rfl) rfl (unhide L9).lat (unhide L9).room (by omega) (unhide L9).len w8.heap.size ⟨(IntKind.i64.wrap ((r7 : Int) - 1)), (r8 : Int)⟩ 36 (0, 0) (by rfl) (heap_alloc_new w8 _) (by omega) ?_; intro a' c' w' h1 h2 h3 h4; have x9 := (h4.cell (p := ⟨L, 2, none⟩) (Nat.lt_succ_self L)).trans (unhide L9).box.2.2; have f9 := fun o => (h4.frozen (p := ⟨L, o, none⟩) (Nat.lt_succ_self L)).trans ((unhide L9).fl o); have LZ := hide ((unhide L9).put2n a' (l ++ [⟨(IntKind.i64.wrap ((r7 : Int) - 1)), (r8 : Int)⟩]) c' (l.length + 1) (by rw [List.length_append]; rfl) h4 h1 h2 h3); clear h1 h2 h3 h4 L9)
            | (have z7 := (unhide L7).lt; go_simp; refine (unhide HP 9 (by omega) (4 + 3 * i + 1 + 1) (by omega) _ (unhide L7).cu).mono ?_; rintro e w8 ⟨r8, rfl, hr8, hcu8, hg8⟩; have L8 := hide ((unhide L7).pick hcu8 hg8); have x8 := (unhide L8).box.2.2; have z8 := (unhide L8).lt.2.2; clear hcu8 hg8)
            | (go_simp; refine (unhide HP 3 (by omega) (4 + 3 * i + 1) (by omega) _ (unhide L6d).cu).mono ?_; rintro e w7 ⟨r7, rfl, hr7, hcu7, hg7⟩; have L7 := hide ((unhide L6d).pick hcu7 hg7); have x7 := (unhide L7).box.2.2; clear hcu7 hg7))
          all_goals
            have hlz : (l ++ [(⟨(IntKind.i64.wrap ((r7 : Int) - 1)), (r8 : Int)⟩ : D)]).length ≤ 41 := by rw [List.length_append, List.length_singleton]; omega
            generalize l ++ [(⟨(IntKind.i64.wrap ((r7 : Int) - 1)), (r8 : Int)⟩ : D)] = lz at LZ hlz
            go_upto_region 24 with fail
            generalize w'.setCell ⟨L, 2, none⟩ (.slice a' (l.length + 1) c') = wz at LZ ⊢
            replace LZ := hide ((unhide LZ).le (show 4 + 3 * i + 1 + 1 + 1 ≤ 200 by omega))
            clear L6 L6d L7 L8 x0 x1 x2 fL x7 x8 x9 f9
            obtain ⟨x0, x1, x2⟩ := (unhide LZ).box
            obtain ⟨y0, y1, y2⟩ := (unhide LZ).res
            have fL := (unhide LZ).fl
            have fR := (unhide LZ).fr
            have zLZ := (unhide LZ).lt
            go_wp2
            refine bodyPost_ret (v := .agg #[.int .i64 ep, .int .i64 fa, .slice a' lz.length c']) (by simp [results, Try.results11, go_sem, y0, y1, y2]) rfl ((unhide LZ).out hlz)
        have q0 : ¬ (p : Int) = 0 := by omega
        have q1 : ¬ (p : Int) = 1 := by omega
        have q0' : ((p : Int) == 0) = false := by simp; omega
        have q1' : ((p : Int) == 1) = false := by simp; omega
        have L8 := hide ((unhide L6).le (show 4 + 3 * i + 1 ≤ 200 by omega))
        obtain ⟨y0, y1, y2⟩ := (unhide L8).res
        have fR := (unhide L8).fr
        go_wp2
        refine bodyPost_ret (v := .agg #[.int .i64 ep, .int .i64 fa, .slice a l.length cc]) (by simp [results, Try.results11, go_sem, y0, y1, y2]) rfl ((unhide L8).out (by omega))
end Lanes
end Go.Proofs.Ytfbfnoofapgneaa
