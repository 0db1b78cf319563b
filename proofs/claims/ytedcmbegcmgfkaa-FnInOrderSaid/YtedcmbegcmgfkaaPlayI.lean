/-
  The program's goodAnswers, playOrder and PlaySession: the plain functions.
-/
import Derived.Test.YtedcmbegcmgfkaaPlayP
import Derived.Test.YtedcmbegcmgfkaaRndI
namespace Go.Proofs.Ytedcmbegcmgfkaa
namespace Rnd
open Go.RowKit Base Slots Sess Marks Ints
set_option linter.unusedVariables false

set_option maxRecDepth 10000 in
set_option maxHeartbeats 1000000 in
theorem goodAnswers_any (a : Option Addr) (cap : Nat) (ts : List ByteArray) (w : World) (hc : StrsAt w a ts) :
    Calls Try.prog 11 #[.slice a ts.length cap] w fun e w' => e = .returned (.bool (fitB ts)) ∧ w' = w := by
  by_cases g1 : 30 < (ts.length : Int)
  · have H := hide (fit_1 g1)
    go_enter Try.func11, Try.ntmps11
    go_wp2
    go_ret
    exact ⟨ret_bool (unhide H).symm, rfl⟩
  by_cases hne : ts = []
  · subst hne
    go_enter Try.func11, Try.ntmps11
    go_wp2
    go_loop [10] (fun i => i = .int .i64 0) (fun _ => 0)
    case atStart => exact rfl
    case round =>
      obtain rfl := hrel
      go_wp2
      go_ret
      exact ⟨rfl, rfl⟩
  obtain ⟨b, off, rfl, hb, hcc⟩ := hc hne
  have HC := hide hcc
  have HF := hide (@fit_3 ts g1)
  clear hcc hc
  go_enter Try.func11, Try.ntmps11
  go_wp2
  go_loop [10] (fun iv => ∃ k : Nat, k ≤ ts.length ∧ iv = .int .i64 k ∧ Hid (∀ j, j < k → ((ts.getD j ByteArray.empty).size : Int) ≤ 3000)) (fun iv => ts.length - (intOf iv).toNat)
  case atStart => exact ⟨0, Nat.zero_le _, rfl, hide (fun j hj => absurd hj (by omega))⟩
  case round =>
    obtain ⟨k, hk, rfl, hok⟩ := hrel
    by_cases hlt : k < ts.length
    · have c0 := unhide HC k hlt
      have HB := hide (@fit_2 ts k hlt)
      have hst : Hid (((ts.getD k ByteArray.empty).size : Int) ≤ 3000 → ∀ j, j < k + 1 → ((ts.getD j ByteArray.empty).size : Int) ≤ 3000) := fun h j hj => by
        by_cases e : j = k
        · rw [e]; exact h
        · exact unhide hok j (by omega)
      generalize ts.getD k ByteArray.empty = t at c0 HB hst
      by_cases q : 3000 < (t.size : Int)
      · have H := hide (unhide HB q)
        clear HB hst
        go_wp2
        go_ret
        exact ⟨ret_bool (unhide H).symm, rfl⟩
      · have H := hide (unhide hst (by omega))
        clear HB hst
        go_wp2
        go_round
        case rel => exact ⟨k + 1, by omega, by go_num, H⟩
        case measure => simp [intOf]; omega
    · obtain rfl : k = ts.length := by omega
      have H := hide (unhide HF (unhide hok))
      go_wp2
      go_ret
      exact ⟨ret_bool (unhide H).symm, rfl⟩

theorem fin_keep {l : List D} {id : Int} {ans : ByteArray} (h : (finR l id ans).ok = false) : (finR l id ans).l = l := by
  unfold finR at h ⊢
  split
  · rename_i q
    rw [if_pos q] at h
    simp at h
  · rfl

set_option maxRecDepth 10000 in
set_option maxHeartbeats 4000000 in
theorem playOrder_any (a : Option Addr) (cap : Nat) (order : List Int) (a' : Option Addr) (cap' : Nat) (ts : List ByteArray) (b fi : Nat) (nx : Int) (l : List D) (w : World) (hf : fitB ts = true) (ho : order.length ≤ 100)
    (hc : NAt w a order) (hc' : StrsAt w a' ts) (h : RAt w b nx fi l) (hri : Rising l) (hsm : Small l) (hnb : ∀ c off, a = some ⟨c, off, none⟩ → c ≠ b) (hnb' : ∀ c off, a' = some ⟨c, off, none⟩ → c ≠ b) :
    Calls Try.prog 13 #[.slice a order.length cap, .slice a' ts.length cap', .func (.func 14) #[.pointer (some ⟨b, 0, none⟩)] #[]] w fun e w' =>
      e = .returned (.string (foldP ts ⟨l, ByteArray.empty⟩ order).out) ∧ (∃ fi', RAt w' b nx fi' (foldP ts ⟨l, ByteArray.empty⟩ order).l) ∧ w.grownBy w' (some b) := by
  have hlt := h.lt
  have hts := fit_len hf
  have HR := hide h
  have HF : Hid (Bld.IsB w.heap.size w.heap.size [] (w.alloc (.cells #[.pointer none, .slice none 0 0] 63))) := Bld.fresh w
  have HINV := hide (fun k hk => inv_fold hf (s := ⟨l, ByteArray.empty⟩) ⟨hri, hsm, h.len, by simp⟩ order k hk)
  have HFT := hide (fold_take ts ⟨l, ByteArray.empty⟩ order)
  have HFA := fold_all ts ⟨l, ByteArray.empty⟩ order
  have HST := hide (fun s id => @step_out ts s id)
  have HSI := hide (fun s id => @step_in ts s id)
  have HAS := hide (fun id h0 h1 => @ans_size ts hf id h0 h1)
  have HC : Hid (∀ wr, w.grownBy wr (some b) → ∀ k, k < order.length → ∃ c off, a = some ⟨c, off, none⟩ ∧ c < wr.heap.size ∧ wr.cell? ⟨c, off + k, none⟩ = some (.int .i64 (order.getD k 0))) := fun wr hg k hk => by
    obtain ⟨c, off, ha, hcz, hcc⟩ := hc (fun e => by rw [e] at hk; simp at hk)
    refine ⟨c, off, ha, Nat.lt_of_lt_of_le hcz hg.size, ?_⟩
    rw [World.cell?_of_block (a := ⟨c, off + k, none⟩) (hg.block c hcz (fun e => hnb c off ha (by simpa using e)))]
    exact hcc k hk
  have HC' : Hid (∀ wr, w.grownBy wr (some b) → ∀ k, k < ts.length → ∃ c off, a' = some ⟨c, off, none⟩ ∧ c < wr.heap.size ∧ wr.cell? ⟨c, off + k, none⟩ = some (.string (ts.getD k ByteArray.empty))) := fun wr hg k hk => by
    obtain ⟨c, off, ha, hcz, hcc⟩ := hc' (fun e => by rw [e] at hk; simp at hk)
    refine ⟨c, off, ha, Nat.lt_of_lt_of_le hcz hg.size, ?_⟩
    rw [World.cell?_of_block (a := ⟨c, off + k, none⟩) (hg.block c hcz (fun e => hnb' c off ha (by simpa using e)))]
    exact hcc k hk
  obtain ⟨T, hT⟩ : ∃ T, T = foldP ts ⟨l, ByteArray.empty⟩ order := ⟨_, rfl⟩
  rw [← hT] at HFA ⊢
  have HE := hide HFA
  clear hf hc hc' h hri hsm hnb hnb' hT HFA
  go_enter Try.func13, Try.ntmps13
  go_wp2
  go_loopw [14] (fun iv wr => ∃ (k fi' : Nat) (s : Pl), k ≤ order.length ∧ s.out.size ≤ 9000000 ∧ iv = .int .i64 k ∧ Hid (s = foldP ts ⟨l, ByteArray.empty⟩ (order.take k)) ∧ Hid (RAt wr b nx fi' s.l) ∧ Hid (Bld.IsB w.heap.size w.heap.size s.out.data.toList wr) ∧ Hid (w.grownBy wr (some b))) (fun iv _ => order.length - (intOf iv).toNat)
  case atStart => exact ⟨0, fi, ⟨l, ByteArray.empty⟩, Nat.zero_le _, by simp, rfl, hide (by simp [foldP]), hide ((unhide HR).below (bel1 w _) hlt), HF, hide (gb_below (bel1 w _) (Nat.le_refl _))⟩
  case round =>
    obtain ⟨k, fi', s, hk, hsz, rfl, hs, R1, I1, G1⟩ := hrel
    have hinv := unhide HINV k hk
    rw [← unhide hs] at hinv
    by_cases hkl : k < order.length
    · have hft := unhide HFT k hkl
      rw [← unhide hs] at hft
      obtain ⟨c, off, ha, hcz, hcc⟩ := unhide HC wr (unhide G1) k hkl
      generalize order.getD k 0 = id at hcc hft
      have HFK := hide hft
      have HI := hide hinv
      clear hft hinv hs
      subst ha
      by_cases q1 : id < 0
      · have q1' : decide (id < 0) = true := decide_eq_true q1
        have HN := hide ((unhide HFK).trans (unhide HST s id (by omega)))
        clear HFK
        go_wp2
        go_roundw
        case rel => exact ⟨k + 1, fi', s, by omega, hsz, by go_num, hide (unhide HN).symm, R1, I1, G1⟩
        case measure => simp [intOf]; omega
      have q1' : decide (id < 0) = false := decide_eq_false q1
      by_cases q2 : (ts.length : Int) ≤ id
      · have q2' : decide ((ts.length : Int) ≤ id) = true := decide_eq_true q2
        have HN := hide ((unhide HFK).trans (unhide HST s id (by omega)))
        clear HFK
        go_wp2
        go_roundw
        case rel => exact ⟨k + 1, fi', s, by omega, hsz, by go_num, hide (unhide HN).symm, R1, I1, G1⟩
        case measure => simp [intOf]; omega
      have q2' : decide ((ts.length : Int) ≤ id) = false := decide_eq_false q2
      obtain ⟨j, hj⟩ : ∃ j : Nat, id = j := ⟨id.toNat, by omega⟩
      subst hj
      have hjl : j < ts.length := by omega
      obtain ⟨c', off', ha', hcz', hcc'⟩ := unhide HC' wr (unhide G1) j hjl
      subst ha'
      have hin := (unhide HFK).trans (unhide HSI s (j : Int) (by omega))
      have hsa := unhide HAS (j : Int) (by omega) (by omega)
      have eat : ansAt ts (j : Int) = ts.getD j ByteArray.empty := by unfold ansAt; rw [Int.toNat_natCast]
      rw [eat] at hin hsa
      have hfin := fun w h => finish_any b fi' nx s.l (j : Int) (ts.getD j ByteArray.empty) w h (unhide HI).rising (unhide HI).small
      have hbd := (fin_ok (id := (j : Int)) (ans := ts.getD j ByteArray.empty) (unhide HI).rising (unhide HI).small hsa).2.2.2
      have hs30 := (unhide HI).len
      have hso := (unhide HI).size
      have hkp := @fin_keep s.l (j : Int) (ts.getD j ByteArray.empty)
      generalize ts.getD j ByteArray.empty = t at hcc' hin hfin hsa hbd hkp
      generalize finR s.l (j : Int) t = F at hin hfin hbd hkp
      obtain ⟨Fl, Fs, Fok⟩ := F
      dsimp only at hin hbd hkp
      have HKP := hide hkp
      clear hkp
      have HFI := hide hfin
      clear hfin HFK eat
      cases Fok
      · have HN := hide (hin.trans (if_neg (by simp)))
        have HK := hide (unhide HKP rfl)
        clear hin HKP
        go_wp2_with (go_at_call 14; refine (unhide HFI _ (unhide R1)).mono ?_; rintro e w2 ⟨rfl, ⟨fi2, hR2⟩, hg2⟩; have R2 := hide hR2; have G2 := hide (gb_trans (unhide G1) hg2); have I2 := hide ((unhide I1).gb hg2 (fun k e => by simp at e; omega)); clear hR2 hg2)
        go_roundw
        case rel => exact ⟨k + 1, fi2, s, by omega, hsz, by go_num, hide (unhide HN).symm, hide (by rw [← unhide HK]; exact unhide R2), I2, G2⟩
        case measure => simp [intOf]; omega
      · have HN := hide (hin.trans (if_pos rfl))
        clear hin
        have hso2 : (s.out ++ Fs).size ≤ 9000000 := by rw [ByteArray.size_append]; omega
        have hsl : s.out.data.toList.length = s.out.size := by simp
        have hwl : s.out.data.toList.length + Fs.size ≤ 1000000000 := by omega
        go_wp2_with (first | (go_at_call 14; refine (unhide HFI _ (unhide R1)).mono ?_; rintro e w2 ⟨rfl, ⟨fi2, hR2⟩, hg2⟩; have R2 := hide hR2; have G2 := hide (gb_trans (unhide G1) hg2); have I2 := hide ((unhide I1).gb hg2 (fun k e => by simp at e; omega)); clear hR2 hg2) | (go_at_call 21; refine (Bld.write_any w.heap.size w.heap.size s.out.data.toList Fs _ (unhide I2) hwl (unhide G2).size).mono ?_; rintro e w3 ⟨rfl, hI3, hb3⟩; have R3 := hide ((unhide R2).below hb3 hlt); have G3 := hide (gb_bel (unhide G2) hb3 (Nat.le_refl _)); have I3 := hide hI3; clear hI3 hb3))
        go_roundw
        case rel => exact ⟨k + 1, fi2, ⟨Fl, s.out ++ Fs⟩, by omega, hso2, by go_num, hide (unhide HN).symm, R3, hide (by rw [← acc_list]; exact unhide I3), G3⟩
        case measure => simp [intOf]; omega
    · obtain rfl : k = order.length := by omega
      have hsT := (unhide hs).trans (unhide HE)
      subst hsT
      clear hinv hs
      go_wp2_with fail
      refine (Bld.string_any w.heap.size w.heap.size _ _ (unhide I1) (unhide G1).size).mono ?_
      rintro e w2 ⟨rfl, hb2⟩
      rw [acc_back]
      have R2 := hide ((unhide R1).below hb2 hlt)
      have G2 := hide (gb_bel (unhide G1) hb2 (Nat.le_refl _))
      go_wp2
      go_ret
      exact ⟨rfl, ⟨fi', unhide R2⟩, unhide G2⟩
theorem zero_fact3 : (Try.prog.info? 44).bind (fun i => i.zero.bind (fun z => match z with | .agg Z => some (Z.size, Z[0]?, Z[1]?, Z[2]?) | _ => none)) = some (93, some (.int .i64 0), some (.int .i64 0), some (.int .i64 0)) := by kernel_rfl
theorem zero_ex3 : ∃ Z : Array Value, (∀ w, (zeroValue 44).run Try.prog w = .ok (.agg Z) w) ∧ Z.size = 93 ∧ Z[0]? = some (.int .i64 0) ∧ Z[1]? = some (.int .i64 0) ∧ Z[2]? = some (.int .i64 0) := by
  have h := zero_fact3
  cases hq : Try.prog.info? 44 with
  | none => rw [hq] at h; simp at h
  | some i =>
    rw [hq] at h
    cases hz : i.zero with
    | none => rw [Option.bind_some, hz] at h; simp at h
    | some z =>
      rw [Option.bind_some, hz, Option.bind_some] at h
      cases z with
      | agg Z =>
        simp only [Option.some.injEq, Prod.mk.injEq] at h
        exact ⟨Z, fun w => by simp [zeroValue, typeInfo, hq, hz], h.1, h.2.1, h.2.2.1, h.2.2.2⟩
      | _ => simp at h
theorem fresh_round (w : World) (Z : Array Value) (hs : Z.size = 93) (h0 : Z[0]? = some (.int .i64 0)) (h1 : Z[1]? = some (.int .i64 0)) (h2 : Z[2]? = some (.int .i64 0)) : RAt (w.alloc (.cells Z 44)) w.heap.size 0 0 [] := by
  have hget : ∀ j, j < 93 → Z[j]? = some (Z.getD j default) := fun j hj => by
    have hj' : j < Z.size := by omega
    rw [Array.getElem?_eq_getElem hj', Array.getD, dif_pos hj']
    rfl
  have hval : ∀ j v, j < 93 → Z[j]? = some v → Z.getD j default = v := fun j v hj hv => by
    rw [hget j hj] at hv
    exact Option.some.inj hv
  exact ⟨fun j => Z.getD j default, ⟨Z, heap_alloc_new w _, by omega, hget⟩, hval 0 _ (by omega) h0, hval 1 _ (by omega) h1, hval 2 _ (by omega) h2, by omega, by simp, fun i hi => absurd hi (by simp)⟩

def PlayEnd (T : Played) (w : World) (e : Ending) (w' : World) : Prop := e = .returned (.tuple #[.string T.s, .int .i64 T.n, .bool T.ok]) ∧ Below w.heap.size w w'

set_option maxRecDepth 100000 in
set_option maxHeartbeats 4000000 in
theorem play_any (a : Option Addr) (cap : Nat) (order : List Int) (a' : Option Addr) (cap' : Nat) (ts : List ByteArray) (w : World) (hol : order.length ≤ 1048576) (hc : NAt w a order) (hc' : StrsAt w a' ts)
    (hz : ∀ c off, a = some ⟨c, off, none⟩ → c < w.heap.size) (hz' : ∀ c off, a' = some ⟨c, off, none⟩ → c < w.heap.size) :
    Calls Try.prog 5 #[.slice a order.length cap, .slice a' ts.length cap'] w (PlayEnd (playR order ts) w) := by
  have HGA := hide (fun w' h => goodAnswers_any a' cap' ts w' h)
  have HC' := hide hc'
  by_cases g1 : 100 < (order.length : Int)
  · rw [play_no (by omega)]
    have g1' : decide (100 < (order.length : Int)) = true := decide_eq_true g1
    clear hc hc' hz hz'
    go_enter Try.func5, Try.ntmps5
    go_wp2
    refine bodyPost_ret (v := .tuple #[.string ByteArray.empty, .int .i64 0, .bool false]) (by simp [results, Try.results5, go_sem]; rfl) rfl ⟨rfl, Below.refl _ _⟩
  have g1' : decide (100 < (order.length : Int)) = false := decide_eq_false g1
  cases g2 : fitB ts
  · rw [play_no (by rw [g2]; simp)]
    rw [g2] at HGA
    clear hc hc' hz hz' g2
    go_enter Try.func5, Try.ntmps5
    go_wp2_with fail
    refine (unhide HGA _ (unhide HC')).mono ?_
    rintro e w1 ⟨rfl, h⟩
    rw [h]
    clear h w1
    go_wp2
    refine bodyPost_ret (v := .tuple #[.string ByteArray.empty, .int .i64 0, .bool false]) (by simp [results, Try.results5, go_sem]; rfl) rfl ⟨rfl, Below.refl _ _⟩
  rw [play_ok g2 (by omega)]
  have hts := fit_len g2
  rw [g2] at HGA
  obtain ⟨Z, hzz, hzs, hz0, hz1, hz2⟩ := zero_ex3
  have n1 : ¬ Z = #[] := fun e => by rw [e] at hzs; simp at hzs
  have HR0 := hide (fresh_round w Z hzs hz0 hz1 hz2)
  have HPO := hide (fun b (hb : w.heap.size ≤ b) fi l w' (hB : Below w.heap.size w w') hR hri hsm => playOrder_any a cap order a' cap' ts b fi (ts.length : Int) l w' g2 (by omega)
    (fun hne => by obtain ⟨c, off, ha, hcz, hcc⟩ := hc hne; exact ⟨c, off, ha, Nat.lt_of_lt_of_le hcz hB.size, fun i hi => by rw [hB.cell (p := ⟨c, off + i, none⟩) hcz]; exact hcc i hi⟩) (hc'.below hB (Nat.le_refl _)) hR hri hsm (fun c off ha => by have := hz c off ha; omega) (fun c off ha => by have := hz' c off ha; omega))
  obtain ⟨T, hT⟩ : ∃ T, T = foldP ts ⟨initL ts.length, ByteArray.empty⟩ order := ⟨_, rfl⟩
  have HPO1 := hide (fun b (hb : w.heap.size ≤ b) fi w' hB hR => unhide HPO b hb fi (initL ts.length) w' hB hR (init_rising _) (init_small _))
  rw [← hT] at HPO1 ⊢
  obtain ⟨n9, hn9⟩ : ∃ n, n = (openL T.l).length := ⟨_, rfl⟩
  rw [← hn9]
  have HN9 := hide hn9
  have HI1 := hide (init_succ)
  have HIL := hide (init_len)
  clear hc hc' hz hz' g2 hT HPO hn9 hzs hz0 hz1 hz2
  go_enter Try.func5, Try.ntmps5
  go_wp2_with fail
  refine (unhide HGA _ (unhide HC')).mono ?_
  rintro e w1 ⟨rfl, h⟩
  rw [h]
  clear h w1
  go_wp2
  go_loopw [21] (fun iv wr => ∃ (k : Nat), k ≤ ts.length ∧ iv = .int .i64 k ∧ Hid (RAt wr w.heap.size (k : Int) 0 (initL k)) ∧ Hid (Below w.heap.size w wr)) (fun iv _ => ts.length - (intOf iv).toNat)
  case atStart => exact ⟨0, Nat.zero_le _, rfl, HR0, hide (bel1 w _)⟩
  case round =>
    obtain ⟨k, hk, rfl, R1, B1⟩ := hrel
    by_cases hkl : k < ts.length
    · have HL := unhide HIL k
      have HS := hide (unhide HI1 k)
      go_wp2_with fail
      refine (open_ok w.heap.size 0 (k : Int) (initL k) _ (unhide R1) (by omega) (by omega) (by omega)).mono ?_
      rintro e w2 ⟨rfl, hR2, hg2⟩
      rw [← unhide HS] at hR2
      have R2 := hide hR2
      have B2 := hide (below_gb (unhide B1) hg2 (unhide B1).size (Nat.le_refl _))
      clear hR2 hg2 HL
      go_wp2
      go_roundw
      case rel => exact ⟨k + 1, by omega, by go_num, R2, B2⟩
      case measure => simp [intOf]; omega
    · obtain rfl : k = ts.length := by omega
      go_wp2_with (first | (go_at_call 13; refine (unhide HPO1 w.heap.size (Nat.le_refl _) 0 _ (unhide B1) (unhide R1)).mono ?_; rintro e w2 ⟨rfl, ⟨fi2, hR2⟩, hg2⟩; have R2 := hide hR2; have B2 := hide (below_gb (unhide B1) hg2 (unhide B1).size (Nat.le_refl _)); clear hR2 hg2) | (go_at_call 15; refine (openIds_any w.heap.size fi2 (ts.length : Int) T.l _ (unhide R2)).mono ?_; rintro e w3 ⟨a3, c3, rfl, ho3, hb3⟩; have B3 := hide ((unhide B2).trans (hb3.mono (unhide B2).size)); clear ho3 hb3; rw [← unhide HN9]))
      refine bodyPost_ret (v := .tuple #[.string T.out, .int .i64 n9, .bool true]) (by simp [results, Try.results5, go_sem]) rfl ⟨rfl, unhide B3⟩
end Rnd
end Go.Proofs.Ytedcmbegcmgfkaa
