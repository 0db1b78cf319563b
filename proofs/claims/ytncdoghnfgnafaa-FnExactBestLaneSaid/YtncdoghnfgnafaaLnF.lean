/-
  The program's firstSound: lanes report on a channel of the call's own, in one goroutine; what was reported first is taken.
-/
import Derived.Test.YtncdoghnfgnafaaLnQ
import Derived.Test.YtncdoghnfgnafaaRows
import Derived.Conc.LoneCalls
import Derived.Conc.LoneSelect
import Derived.KernelRfl
import Derived.Laws.Rows
namespace Go.Proofs.Ytncdoghnfgnafaa
namespace Lanes
open Go.Conc Go.RowKit Base
set_option linter.unusedVariables false

/- what was reported, as a plain list -/
def rep (L : List Ln) (n f k : Nat) : List Nat := ((List.range k).filter (fun i => decide ((L.getD (pos n f i) zeroL).fa < 3))).map (pos n f)
theorem rep_yes (L : List Ln) (n f k : Nat) (h : (L.getD (pos n f k) zeroL).fa < 3) : rep L n f (k + 1) = rep L n f k ++ [pos n f k] := by
  unfold rep
  rw [List.range_succ, List.filter_append, List.map_append, List.filter_cons_of_pos (by exact decide_eq_true h), List.filter_nil]
  rfl
theorem rep_no (L : List Ln) (n f k : Nat) (h : ¬ (L.getD (pos n f k) zeroL).fa < 3) : rep L n f (k + 1) = rep L n f k := by
  unfold rep
  rw [List.range_succ, List.filter_append, List.map_append, List.filter_cons_of_neg (by simpa using h), List.filter_nil, List.map_nil, List.append_nil]
theorem rep_len (L : List Ln) (n f k : Nat) : (rep L n f k).length ≤ k := by
  unfold rep
  rw [List.length_map]
  have := List.length_filter_le (fun i => decide ((L.getD (pos n f i) zeroL).fa < 3)) (List.range k)
  simpa using this
theorem rep_best (L : List Ln) (n f : Nat) (hn : L.length = n) : bestN (L.map core) f = ((rep L n f n).head?).getD f := by
  have hs : ∀ j, soundB (L.map core) (pos n f j) = decide ((L.getD (pos n f j) zeroL).fa < 3) := fun j => by
    unfold soundB; rw [core_at]; rfl
  unfold bestN foundO rep
  rw [List.length_map, hn, List.head?_map, List.head?_filter]
  simp only [hs]
  cases (List.range n).find? (fun i => decide ((L.getD (pos n f i) zeroL).fa < 3)) <;> rfl

/- the code's parts -/
def sFst : Code → Code | .seq a _ => a | c => c
def sSnd : Code → Code | .seq _ b => b | c => c
def sBlk : Code → Code | .block _ c => c | c => c
def sLop : Code → Code | .loop c => c | c => c
theorem bytesI : ∃ i, Try.prog.info? 3 = some i ∧ i.bytes = 8 := by
  have h : (Try.prog.info? 3).map (·.bytes) = some 8 := by kernel_rfl
  obtain ⟨i, hi, hb⟩ := Option.map_eq_some_iff.1 h
  exact ⟨i, hi, hb⟩
theorem mkC (n : Nat) (hn : n ≤ 1000) (w : World) : (Instr.makeChan 74 (.int .i64 (n : Int))).run Try.prog w = .ok (.chan (some w.heap.size)) (w.alloc (.chan n #[] false 0 0 false)) := by
  obtain ⟨i, hi, hb⟩ := bytesI
  exact run_makeChan (P := Try.prog) (w := w) Try.underlying74 hi .i64 n (by omega) (by rw [hb]; omega)

set_option maxRecDepth 100000 in
set_option maxHeartbeats 4000000 in
/-- From the loop's end on: what lies eldest in the channel, else where it began. -/
theorem rest_any (sl ch : Value) (f c n : Nat) (R : List Nat) (cs : List Frame) (w W : World) (u6 u7 u14 u15 u16 u17 u18 u19 u20 u21 u22 u23 u24 u25 u26 u27 u28 u29 u30 u31 : Value) (hch : ch = .chan (some c))
    (hc : W.heap[c]? = some (.chan n (R.map (fun x : Nat => Value.int .i64 (x : Int))).toArray false R.length 0 false)) (hcw : w.heap.size ≤ c) (hbel : Below w.heap.size w W) :
    LoneTo Try.prog (fun g' w' => ∃ e fr, g' = G fr cs ∧ (e = .returned (.int .i64 ((R.head?.getD f : Nat) : Int)) ∧ Below w.heap.size w w') ∧ fr.fn = 48 ∧ fr.leaving Try.prog w' e)
      (G ((base 48).at ⟨#[sl, .int .i64 (f : Int), undef, undef, .int .i64 0, ch, u6, u7, undef, sl, .int .i64 (n : Int), ch, sl, .int .i64 (n : Int), u14, u15, u16, u17, u18, u19, u20, u21, u22, u23, u24, u25, u26, u27, u28, u29, u30, u31, undef, undef, undef, undef, undef, undef, undef], []⟩ [.code (sSnd (sSnd (sSnd (Try.f48.body.getD .skip))))]) cs) W := by
  subst hch
  refine LoneTo.goes (n := 60) ?_
  simp only [sSnd, Try.f48, Option.getD_some]
  s_c stepG_seq
  s_reg
  s_op
  s_c stepG_region_end
  s_c stepG_seq
  s_reg
  s_stop
  cases R with
  | nil =>
    refine LoneTo.step (step_lone_select_default (c := c) (z := .int .i64 0) (cap := n) (s := 0) (r := 0) (tm := false) (stepG_comm (cases := #[rcase c (.int .i64 0)]) (blocking := false) (shape := .select) (w' := W) rfl rfl (by decide) (by simp [go_sem, execOp, rcase, Act.eval])) hc) ?_
    rw [Frame.finish_at]
    walk_nrm
    refine LoneTo.goes (n := 60) ?_
    s_op
    s_op
    s_c stepG_region_end
    s_c stepG_block
    s_cond false
    s_c stepG_seq
    s_reg
    s_op
    s_op
    s_c stepG_region_end
    s_c stepG_ret'
    s_stop
    exact LoneTo.done ⟨.returned (.int .i64 (f : Int)), _, rfl, ⟨rfl, hbel⟩, rfl, rfl, rfl, rfl, _, Try.func48, by simp [results, Try.f48, Frame.at]⟩
  | cons x r =>
    refine LoneTo.step (step_lone_select_recv_buf (c := c) (z := .int .i64 0) (stepG_comm (cases := #[rcase c (.int .i64 0)]) (blocking := false) (shape := .select) (w' := W) rfl rfl (by decide) (by simp [go_sem, execOp, rcase, Act.eval])) hc (by simp)) ?_
    have hb2 := below_setChan hbel hcw n (((x :: r).map (fun x : Nat => Value.int .i64 (x : Int))).toArray.extract 1 ((x :: r).map (fun x : Nat => Value.int .i64 (x : Int))).toArray.size) false (x :: r).length (0 + 1) false
    have hx : ((x :: r).map (fun x : Nat => Value.int .i64 (x : Int))).toArray.getD 0 undef = .int .i64 (x : Int) := by simp
    rw [hx]
    generalize W.setChan c n _ false _ _ false = W2 at hb2 ⊢
    clear hx
    rw [Frame.finish_at]
    walk_nrm
    refine LoneTo.goes (n := 60) ?_
    s_op
    s_op
    s_c stepG_region_end
    s_c stepG_block
    s_cond true
    s_c stepG_seq
    s_reg
    s_op
    s_op
    s_c stepG_region_end
    s_c stepG_seq
    s_reg
    s_op
    s_op
    s_c stepG_region_end
    s_c stepG_ret'
    s_stop
    exact LoneTo.done ⟨.returned (.int .i64 (x : Int)), _, rfl, ⟨rfl, hb2⟩, rfl, rfl, rfl, rfl, _, Try.func48, by simp [results, Try.f48, Frame.at]⟩

set_option maxRecDepth 100000 in
set_option maxHeartbeats 8000000 in
theorem loop_any (b n f c : Nat) (L : List Ln) (cs : List Frame) (w : World) (sl : Value) (hsl : sl = .slice (some ⟨b, 0, none⟩) n n) (hR : RAt w b L) (hn : L.length = n) (h1 : 1 ≤ n ∧ n ≤ 20) (hf : f < n) (hcw : w.heap.size ≤ c) :
    ∀ (d k : Nat), k + d = n → ∀ (W : World) (u6 u7 u15 u16 u17 u18 u19 u20 u21 u22 u23 u24 u25 u26 u27 u28 u29 u30 u31 : Value), c < W.heap.size → W.heap[c]? = some (.chan n ((rep L n f k).map (fun x : Nat => Value.int .i64 (x : Int))).toArray false (rep L n f k).length 0 false) → Below w.heap.size w W →
    LoneTo Try.prog (fun g' w' => ∃ e fr, g' = G fr cs ∧ (e = .returned (.int .i64 (((rep L n f n).head?.getD f : Nat) : Int)) ∧ Below w.heap.size w w') ∧ fr.fn = 48 ∧ fr.leaving Try.prog w' e)
      (G ((base 48).at ⟨#[sl, .int .i64 (f : Int), undef, undef, .int .i64 0, .chan (some c), u6, u7, undef, sl, .int .i64 (n : Int), .chan (some c), sl, .int .i64 (n : Int), .int .i64 (k : Int), u15, u16, u17, u18, u19, u20, u21, u22, u23, u24, u25, u26, u27, u28, u29, u30, u31, undef, undef, undef, undef, undef, undef, undef], []⟩ [.code (sLop (sBlk (sSnd (sFst (sSnd (sSnd (Try.f48.body.getD .skip))))))), .inLoop (sLop (sBlk (sSnd (sFst (sSnd (sSnd (Try.f48.body.getD .skip))))))), .inBlock 0, .code (sSnd (sSnd (sSnd (Try.f48.body.getD .skip))))]) cs) W := by
  intro d
  induction d with
  | zero =>
    intro k hk W u6 u7 u15 u16 u17 u18 u19 u20 u21 u22 u23 u24 u25 u26 u27 u28 u29 u30 u31 hcW hc hbel
    subst hsl
    obtain rfl : k = n := by omega
    have hrest := hide (fun u14 u15 => rest_any (.slice (some ⟨b, 0, none⟩) k k) (.chan (some c)) f c k (rep L k f k) cs w W u6 u7 u14 u15 u16 u17 u18 u19 u20 u21 u22 u23 u24 u25 u26 u27 u28 u29 u30 u31 rfl hc hcw hbel)
    clear hc hR
    refine LoneTo.goes (n := 60) ?_
    simp only [sFst, sSnd, sBlk, sLop, Try.f48, Option.getD_some]
    s_c stepG_seq
    s_reg
    s_op
    s_c stepG_region_end
    s_c stepG_seq
    s_cond false
    s_exit
    s_stop
    exact unhide hrest _ _
  | succ d ih =>
    intro k hk W u6 u7 u15 u16 u17 u18 u19 u20 u21 u22 u23 u24 u25 u26 u27 u28 u29 u30 u31 hcW hc hbel
    have IH := hide (fun W' u6 u7 u15 u16 u17 u18 u19 u20 u21 u22 u23 u24 u25 u26 u27 u28 u29 u30 u31 => ih (k + 1) (by omega) W' u6 u7 u15 u16 u17 u18 u19 u20 u21 u22 u23 u24 u25 u26 u27 u28 u29 u30 u31)
    have hpl : pos n f k < n := Nat.mod_lt _ (by omega)
    obtain ⟨⟨-, c1, -⟩, -⟩ := (hR.below hbel (Nat.le_refl _)).2 (pos n f k) (by omega)
    have hr : ((f : Int) + (k : Int)) % (n : Int) = ((pos n f k : Nat) : Int) := by unfold pos; rw [Int.natCast_emod, Int.natCast_add]
    have HC := hide hc
    have HB := hide hbel
    have HLT : Hid ((rep L n f k).length ≤ k) := rep_len L n f k
    have HY := hide (rep_yes L n f k)
    have HNO := hide (rep_no L n f k)
    rw [Nat.zero_add] at c1
    generalize pos n f k = p at hpl c1 hr HY HNO
    generalize (L.getD p zeroL).fa = fa at c1 HY HNO
    have hkn : k < n := by omega
    have hn0 : ¬ n = 0 := by omega
    have hw : IntKind.i64.wrap ((f : Int) + (k : Int)) = (f : Int) + (k : Int) := by rw [IntKind.wrap_i64]; omega
    have ht : ((f : Int) + (k : Int)).tmod (n : Int) = (p : Int) := by rw [Int.tmod_eq_emod_of_nonneg (by omega), hr]
    have hk1 : IntKind.i64.wrap ((k : Int) + 1) = ((k + 1 : Nat) : Int) := by rw [IntKind.wrap_i64]; omega
    have hbW : b < W.heap.size := Nat.lt_of_lt_of_le hR.1 hbel.size
    clear ih hc hbel hR hn hk
    subst hsl
    by_cases hfa : fa < 3
    · have HN := hide (unhide HY hfa)
      clear HY HNO
      refine LoneTo.goes (n := 60) ?_
      simp only [sFst, sSnd, sBlk, sLop, Try.f48, Option.getD_some]
      s_c stepG_seq
      s_reg
      s_op
      s_c stepG_region_end
      s_c stepG_seq
      s_cond true
      s_c stepG_skip
      s_c stepG_seq
      s_c stepG_block
      s_c stepG_seq
      s_reg
      s_op
      s_op
      s_c stepG_region_end
      s_c stepG_seq
      s_reg
      s_op
      s_op
      s_op
      s_op
      s_op
      s_op
      s_op
      s_c stepG_region_end
      s_c stepG_seq
      s_reg
      s_op
      s_op
      s_op
      s_op
      s_op
      s_op
      s_c stepG_region_end
      s_cond true
      s_reg
      s_op
      s_op
      s_stop
      refine LoneTo.step (step_lone_send_room (c := c) (cap := n) (buf := ((rep L n f k).map (fun x : Nat => Value.int .i64 (x : Int))).toArray) (s := (rep L n f k).length) (r := 0) (tm := false) (stepG_comm (cases := #[scase c (.int .i64 (p : Int)) (.tuple #[])]) (blocking := true) (shape := .send) (w' := W) rfl rfl (by decide) (by simp [execOp, scase, Act.eval])) (unhide HC) (by have := unhide HLT; simp; omega)) ?_
      have HC2 : Hid ((W.setChan c n (((rep L n f k).map (fun x : Nat => Value.int .i64 (x : Int))).toArray.push (.int .i64 (p : Int))) false ((rep L n f k).length + 1) 0 false).heap[c]? = some (.chan n ((rep L n f (k + 1)).map (fun x : Nat => Value.int .i64 (x : Int))).toArray false (rep L n f (k + 1)).length 0 false)) := by
        show _ = _
        rw [heap_setChan _ _ _ _ _ _ _ _ hcW, unhide HN]
        simp
      have HB2 := hide (below_setChan (unhide HB) hcw n (((rep L n f k).map (fun x : Nat => Value.int .i64 (x : Int))).toArray.push (.int .i64 (p : Int))) false ((rep L n f k).length + 1) 0 false)
      have hcW2 : c < (W.setChan c n (((rep L n f k).map (fun x : Nat => Value.int .i64 (x : Int))).toArray.push (.int .i64 (p : Int))) false ((rep L n f k).length + 1) 0 false).heap.size := by rw [size_setChan]; exact hcW
      generalize W.setChan c n (((rep L n f k).map (fun x : Nat => Value.int .i64 (x : Int))).toArray.push (.int .i64 (p : Int))) false ((rep L n f k).length + 1) 0 false = W2 at HC2 HB2 hcW2 ⊢
      rw [Frame.finish_at]
      walk_nrm
      refine LoneTo.goes (n := 60) ?_
      s_c stepG_region_end
      s_c stepG_inBlock
      s_reg
      s_op
      s_op
      s_c stepG_region_end
      s_c stepG_inLoop
      s_stop
      exact unhide IH W2 _ _ _ _ _ _ _ _ _ _ _ _ _ _ _ _ _ _ _ hcW2 (unhide HC2) (unhide HB2)
    · have HN := hide (unhide HNO hfa)
      have HC2 : Hid (W.heap[c]? = some (.chan n ((rep L n f (k + 1)).map (fun x : Nat => Value.int .i64 (x : Int))).toArray false (rep L n f (k + 1)).length 0 false)) := by show _ = _; rw [unhide HN]; exact unhide HC
      clear HY HNO
      refine LoneTo.goes (n := 60) ?_
      simp only [sFst, sSnd, sBlk, sLop, Try.f48, Option.getD_some]
      s_c stepG_seq
      s_reg
      s_op
      s_c stepG_region_end
      s_c stepG_seq
      s_cond true
      s_c stepG_skip
      s_c stepG_seq
      s_c stepG_block
      s_c stepG_seq
      s_reg
      s_op
      s_op
      s_c stepG_region_end
      s_c stepG_seq
      s_reg
      s_op
      s_op
      s_op
      s_op
      s_op
      s_op
      s_op
      s_c stepG_region_end
      s_c stepG_seq
      s_reg
      s_op
      s_op
      s_op
      s_op
      s_op
      s_op
      s_c stepG_region_end
      s_cond false
      s_c stepG_skip
      s_c stepG_inBlock
      s_reg
      s_op
      s_op
      s_c stepG_region_end
      s_c stepG_inLoop
      s_stop
      exact unhide IH W _ _ _ _ _ _ _ _ _ _ _ _ _ _ _ _ _ _ _ hcW (unhide HC2) (unhide HB)

set_option maxRecDepth 100000 in
set_option maxHeartbeats 4000000 in
theorem first_any (b n f : Nat) (L : List Ln) (w : World) (hR : RAt w b L) (hn : L.length = n) (h1 : 1 ≤ n ∧ n ≤ 20) (hf : f < n) :
    Calls Try.prog 48 #[.slice (some ⟨b, 0, none⟩) n n, .int .i64 (f : Int)] w fun e w' => e = .returned (.int .i64 ((bestN (L.map core) f : Nat) : Int)) ∧ Below w.heap.size w w' := by
  rw [rep_best L n f hn]
  refine calls_of_loneTo fun cs => ?_
  have e : Frame.enter Try.prog 48 #[.slice (some ⟨b, 0, none⟩) n n, .int .i64 (f : Int)] .normal = (base 48).at ⟨#[.slice (some ⟨b, 0, none⟩) n n, .int .i64 (f : Int), undef, undef, undef, undef, undef, undef, undef, undef, undef, undef, undef, undef, undef, undef, undef, undef, undef, undef, undef, undef, undef, undef, undef, undef, undef, undef, undef, undef, undef, undef, undef, undef, undef, undef, undef, undef, undef], []⟩ [.code (Try.f48.body.getD .skip)] := by
    simp [Frame.enter, Frame.at, Try.func48, base, Try.f48]
  rw [e]
  have hmc := mkC n (by omega)
  have hloop := hide (loop_any b n f w.heap.size L cs w _ rfl hR hn h1 hf (Nat.le_refl _) n 0 (by omega) (w.alloc (.chan n #[] false 0 0 false)))
  have HC0 := hide (heap_alloc_new w (.chan n #[] false 0 0 false))
  clear e hR hn
  refine LoneTo.goes (n := 60) ?_
  simp only [Try.f48, Option.getD_some]
  s_c stepG_seq
  s_reg
  s_op
  s_c stepG_region_end
  s_c stepG_seq
  s_reg
  s_op
  s_op
  s_op
  s_op
  s_c stepG_region_end
  s_c stepG_seq
  s_c stepG_seq
  s_reg
  s_op
  s_op
  s_op
  s_c stepG_region_end
  s_c stepG_block
  s_c stepG_loop
  s_stop
  exact unhide hloop _ _ _ _ _ _ _ _ _ _ _ _ _ _ _ _ _ _ _ (by simp) (unhide HC0) ((Below.refl _ _).alloc (Nat.le_refl _) _)
end Lanes
end Go.Proofs.Ytncdoghnfgnafaa
