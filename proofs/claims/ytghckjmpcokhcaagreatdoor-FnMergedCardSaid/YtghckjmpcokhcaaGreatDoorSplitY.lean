/-
  The program's helpers of SplitKeys: slices.Index over texts, ownersOf, placesOf.
-/
import Derived.Test.YtghckjmpcokhcaaGreatDoorSplitA
import Derived.Test.YtghckjmpcokhcaaGreatDoorStrY
import Derived.Test.YtghckjmpcokhcaaGreatDoorRingWA
import Derived.Maps.AppendAt
import Derived.RangeFuncNested
import Derived.RangeFuncBound
import Derived.RangeFuncCalls
import Derived.RangeFuncLeaves
import Derived.OrdersHeld
import Derived.Deep.RegionHeld
namespace Go.Proofs.YtghckjmpcokhcaaGreatDoor
namespace Split
open Go.RowKit Base Marks OwnR Ring KeysS
set_option linter.unusedVariables false

/-- Where a text stands for the first time, -1 where it doesn't. -/
def idx (os : List ByteArray) (x : ByteArray) : Nat → Int
  | 0 => -1
  | k + 1 => if idx os x k = -1 then (if ow os k = x then (k : Int) else -1) else idx os x k
theorem idx_none {os : List ByteArray} {x : ByteArray} : ∀ {k : Nat}, (∀ j, j < k → ow os j ≠ x) → idx os x k = -1
  | 0, _ => rfl
  | k + 1, h => by
    have := idx_none (k := k) (fun j hj => h j (by omega))
    unfold idx
    rw [if_pos this, if_neg (h k (by omega))]
theorem idx_stay {os : List ByteArray} {x : ByteArray} {k : Nat} (h : idx os x k ≠ -1) : ∀ {n : Nat}, k ≤ n → idx os x n = idx os x k
  | 0, hn => by rw [Nat.le_zero.1 hn]
  | n + 1, hn => by
    by_cases e : k = n + 1
    · rw [e]
    · have := idx_stay h (n := n) (by omega)
      conv => lhs; unfold idx
      rw [if_neg (by rw [this]; exact h), this]
theorem idx_hit {os : List ByteArray} {x : ByteArray} {k n : Nat} (hn : k < n) (h : ∀ j, j < k → ow os j ≠ x) (hk : ow os k = x) : idx os x n = k := by
  have e : idx os x (k + 1) = k := by
    conv => lhs; unfold idx
    rw [if_pos (idx_none h), if_pos hk]
  rw [idx_stay (by rw [e]; omega) (show k + 1 ≤ n by omega), e]
theorem idx_first {os : List ByteArray} {i n : Nat} (hi : i < n) : (idx os (ow os i) n < i) ↔ ¬ firstB os i = true := by
  obtain ⟨k, hk, hb, he⟩ := first_ex (os := os) i
  have e : idx os (ow os i) n = k := idx_hit (by omega) (fun j hj h => (firstB_iff os k).1 hb j hj (h.trans he.symm)) he
  rw [e]
  constructor
  · intro h h2
    exact (firstB_iff os i).1 h2 k (by omega) he
  · intro h
    rcases Nat.lt_or_eq_of_le hk with h1 | h1
    · omega
    · rw [h1] at hb; exact absurd hb h

set_option maxRecDepth 10000 in
set_option maxHeartbeats 1000000 in
theorem index_any (g cap n : Nat) (os : List ByteArray) (x : ByteArray) (w : World) (hr : RowAt w g 9 n (StringsW.scell os)) (hn : n ≤ 60) :
    Calls Tryz.prog 54 #[.slice (some ⟨g, 0, none⟩) n cap, .string x] w fun e w' => e = .returned (.int .i64 (idx os x n)) ∧ Below w.heap.size w w' := by
  have HR := hide hr
  have hglt := hr.lt
  clear hr
  go_enter Tryz.func54, Tryz.ntmps54
  go_wp2
  go_loopw [8] (fun iv wr => ∃ k : Nat, k ≤ n ∧ iv = .int .i64 k ∧ Hid (∀ j, j < k → ow os j ≠ x) ∧ Hid (Below w.heap.size w wr)) (fun iv _ => n - (intOf iv).toNat)
  case atStart => exact ⟨0, Nat.zero_le _, rfl, hide (fun j hj => absurd hj (by omega)), hide (Below.refl _ _)⟩
  case round =>
    obtain ⟨k, hk, rfl, hno, hw⟩ := hrel
    by_cases hlt : k < n
    · have c0 : wr.cell? ⟨g, k, none⟩ = some (.string (ow os k)) := ((unhide HR).below (unhide hw) hglt).cell hlt
      have hH := hide (fun h => @idx_hit os x k n hlt (unhide hno) h)
      have hS : Hid (ow os k ≠ x → ∀ j, j < k + 1 → ow os j ≠ x) := fun h j hj => by
        by_cases e : j = k
        · rw [e]; exact h
        · exact unhide hno j (by omega)
      generalize ow os k = s at c0 hH hS
      by_cases e : x = s
      · have e' := str_eq e
        have H := hide (unhide hH e.symm)
        clear hH hS e
        go_wp2
        go_ret
        exact ⟨ret_int (unhide H).symm, unhide hw⟩
      · have e' := str_ne e
        have H := hide (unhide hS (fun q => e q.symm))
        clear hH hS e
        go_wp2
        go_roundw
        case rel => exact ⟨k + 1, by omega, by go_num, H, hw⟩
        case measure => simp [intOf]; omega
    · obtain rfl : k = n := by omega
      have H := hide (idx_none (unhide hno))
      go_wp2
      go_ret
      exact ⟨ret_int (unhide H).symm, unhide hw⟩

def nums (L : List Nat) : List Int := L.map (fun i : Nat => (i : Int))
theorem nums_len (L : List Nat) : (nums L).length = L.length := by simp [nums]

set_option maxRecDepth 10000 in
set_option maxHeartbeats 1000000 in
theorem placesOf_any (g cap n : Nat) (os : List ByteArray) (x : ByteArray) (w : World) (hr : RowAt w g 9 n (StringsW.scell os)) (hn : n ≤ 60) :
    Calls Tryz.prog 55 #[.slice (some ⟨g, 0, none⟩) n cap, .string x] w fun e w' => ∃ a c, e = .returned (.slice a (places os n x).length c) ∧ w'.ownsRow w.heap.size 3 1 (.slice a (places os n x).length c) (places os n x).length (Ints.cells (nums (places os n x))) ∧ Below w.heap.size w w' := by
  have HR := hide hr
  have hglt := hr.lt
  clear hr
  obtain ⟨i0, hi, hz0, hz1, hz2⟩ := Ints.info_ex
  have HI := hide hi
  have HZ0 := hide hz0
  have HZ1 := hide hz1
  have HZ2 := hide hz2
  clear hi hz0 hz1 hz2
  go_enter Tryz.func55, Tryz.ntmps55
  go_wp2
  go_loopw [5, 10] (fun v iv wr => ∃ k : Nat, k ≤ n ∧ iv = .int .i64 k ∧ Hid (wr.ownsRow w.heap.size 3 1 v (places os k x).length (Ints.cells (nums (places os k x)))) ∧ Hid (Below w.heap.size w wr)) (fun _ iv _ => n - (intOf iv).toNat)
  case atStart => exact ⟨0, Nat.zero_le _, rfl, hide (World.ownsRow_nil _ _ _ _), hide (Below.refl _ _)⟩
  case round =>
    obtain ⟨k, hk, rfl, hown, hbel⟩ := hrel
    by_cases hlt : k < n
    · have c0 : wr.cell? ⟨g, k, none⟩ = some (.string (ow os k)) := ((unhide HR).below (unhide hbel) hglt).cell hlt
      have hst := hide (places_succ os k x)
      have hpl := places_le os k x
      generalize places os k x = L at hown hst hpl
      generalize ow os k = s at c0 hst
      have hzr := (unhide hbel).size
      by_cases e : s = x
      · have e' := str_eq e
        have HS : Hid (places os (k + 1) x = L ++ [k]) := by show _ = _; rw [unhide hst, if_pos e]
        clear hst e
        go_wp2_with (at_builtin; go_loud (refine wpList_append_own _ rfl _ _ 61 rfl w.heap.size 3 i0 _ 1 8 Tryz.underlying61 (unhide HI) (unhide HZ0) (unhide HZ1) (unhide HZ2) rfl (by decide) _ _ _ rfl ((unhide hown).alloc _) ⟨wr.heap.size, 0, none⟩ 1 1 [.int .i64 (k : Int)] rfl rfl (cell_one_new _ _ _) (Ints.news_one (k : Int)) ?c3 ?c4 ?c5 ?_))
        case c3 => unfold maxLen; omega
        case c4 => omega
        case c5 => simp; omega
        intro v' we hown' hgrow _
        have O4 : Hid (we.ownsRow w.heap.size 3 1 v' (places os (k + 1) x).length (Ints.cells (nums (places os (k + 1) x)))) := by
          rw [unhide HS]
          have e1 : nums (L ++ [k]) = nums L ++ [(k : Int)] := by simp [nums]
          rw [e1, List.length_append]
          have e2 : Ints.cells (nums L ++ [(k : Int)]) = Ints.cells (nums L) ++ [.int .i64 (k : Int)] := by simp [Ints.cells]
          rw [e2]
          exact hown'
        have C4 := hide (((unhide hbel).alloc hzr _).grown hgrow (by simp; omega) (own_block (unhide hown)))
        clear hown' hgrow
        go_wp2
        go_roundw
        case rel => exact ⟨k + 1, by omega, by go_num, O4, C4⟩
        case measure => simp [intOf]; omega
      · have e' := str_ne e
        have HS : Hid (places os (k + 1) x = L) := by show _ = _; rw [unhide hst, if_neg e, List.append_nil]
        have o4 := unhide hown
        rw [← unhide HS] at o4
        have O4 := hide o4
        clear o4
        clear hst e
        go_wp2
        go_roundw
        case rel => exact ⟨k + 1, by omega, by go_num, O4, hbel⟩
        case measure => simp [intOf]; omega
    · obtain rfl : k = n := by omega
      obtain ⟨a, c, rfl⟩ := own_form (unhide hown)
      go_wp2
      go_ret
      exact ⟨a, c, rfl, unhide hown, unhide hbel⟩

theorem made_str (j : Nat) : (#[Value.string ByteArray.empty] : Array Value)[j % 1]! = .string ByteArray.empty := by rw [Nat.mod_one]; rfl
def ohalf (os : List ByteArray) (k j : Nat) : Value := if j < k then .string (ow os j) else .string ByteArray.empty
theorem ohalf_step (os : List ByteArray) (k j : Nat) : (if j = k then Value.string (ow os k) else ohalf os k j) = ohalf os (k + 1) j := by
  unfold ohalf
  by_cases h : j = k
  · rw [if_pos h, if_pos (by omega), h]
  · rw [if_neg h]
    by_cases h2 : j < k
    · rw [if_pos h2, if_pos (by omega)]
    · rw [if_neg h2, if_neg (by omega)]

set_option maxRecDepth 10000 in
set_option maxHeartbeats 2000000 in
theorem ownersOf_some (b off cap : Nat) (l : List Nodes.D) (kb ko kc : Nat) (ks : List ByteArray) (w : World) (hb : b < w.heap.size) (hc : ∀ i, i < l.length → Nodes.At w b (off + i * 2) (l.getD i Nodes.zero)) (hg : NodesM.gnB l = true)
    (hkb : kb < w.heap.size) (hkc : ∀ i, i < ks.length → w.cell? ⟨kb, ko + i, none⟩ = some (.string (ks.getD i ByteArray.empty))) (hk : kB ks = true) (hv : Vars w) :
    Calls Tryz.prog 23 #[.slice (some ⟨b, off, none⟩) l.length cap, .slice (some ⟨kb, ko, none⟩) ks.length kc] w fun e w' =>
      ∃ g, e = .returned (.slice (some ⟨g, 0, none⟩) ks.length ks.length) ∧ w.heap.size ≤ g ∧ RowAt w' g 9 ks.length (StringsW.scell (owners l ks)) ∧ Below w.heap.size w w' := by
  have HRING := hide (ringOf_some b off cap l w hb hc hg hv)
  have hp1 := points_pos hg
  have hp2 := points_len hg
  have HIN : Hid (∀ g c w1 key, RowAt w1 g 118 ((points l).length * 2) (Points.icell (ring (points l))) → key.size ≤ maxLen → Calls Tryz.prog 52 #[.slice (some ⟨g, 0, none⟩) (points l).length c, .string key] w1 fun e w' => e = .returned (.string (ownK l key)) ∧ Below w1.heap.size w1 w') :=
    fun g c w1 key hr hk => ownerIn_some g c _ _ key w1 hr (ring_length _) hp1 (by omega) (ring_sorted _) hk
  have HKC := hide hkc
  have hk60 := (kB_len hk).1
  have HKS := hide (fun k hkk => key_size hk (k := k) hkk)
  have HOA : Hid (∀ k, k < ks.length → ow (owners l ks) k = ownK l (ks.getD k ByteArray.empty)) := fun k h => owners_at h
  clear hc hg hkc hk hv
  obtain ⟨os, hos⟩ : ∃ os, os = owners l ks := ⟨_, rfl⟩
  rw [← hos] at HOA ⊢
  clear hos
  generalize ring (points l) = RG at HRING HIN
  generalize (points l).length = pn at HRING HIN hp1 hp2
  go_enter Tryz.func23, Tryz.ntmps23
  go_wp2_with fail
  refine (unhide HRING).mono ?_
  rintro e w1 ⟨gr, cr, rfl, hgr, hrow1, hb1⟩
  have R1 := hide hrow1
  have B1 := hide hb1
  have hgl := hrow1.lt
  clear hrow1 hb1
  have hmk := fun w => run_make_row' (P := Tryz.prog) 24 9 (.string ByteArray.empty) 16 Tryz.underlying24 (by kernel_rfl) rfl .i64 .i64 ks.length (by omega) (by omega) w
  have RS0 : Hid (RowAt (w1.alloc (.cells (madeCells #[.string ByteArray.empty] ks.length) 9)) w1.heap.size 9 ks.length (ohalf os 0)) := RowAt.of_row ((rowIs_mades w1 #[.string ByteArray.empty] ks.length 9 (fun _ => .string ByteArray.empty) (fun i => by simp [Nat.mod_one])).congr (fun j _ => by simp [ohalf]))
  go_wp2
  clear hmk
  generalize hgo : w1.heap.size = go at RS0 hgl ⊢
  have hB0 : Hid (Below go w1 (w1.alloc (.cells (madeCells #[.string ByteArray.empty] ks.length) 9))) := by rw [← hgo]; exact bel1 w1 _
  go_loopw [16] (fun iv wr => ∃ k : Nat, k ≤ ks.length ∧ iv = .int .i64 (k : Int) ∧ Hid (RowAt wr go 9 ks.length (ohalf os k)) ∧ Hid (Below go w1 wr)) (fun iv _ => ks.length - (intOf iv).toNat)
  case atStart => exact ⟨0, Nat.zero_le _, rfl, RS0, hB0⟩
  case round =>
    obtain ⟨k, hk, rfl, hrow, hbel⟩ := hrel
    have hB1s := (unhide B1).size
    have hW := hide ((unhide B1).trans ((unhide hbel).mono (by omega)))
    by_cases hlt : k < ks.length
    · have hck := ((unhide hW).cell (p := ⟨kb, ko + k, none⟩) hkb).trans (unhide HKC k hlt)
      have hss := unhide HKS k hlt
      have hoa := hide (unhide HOA k hlt)
      have hst := hide (fun j => ohalf_step os k j)
      generalize ks.getD k ByteArray.empty = s at hck hss hoa
      have hcal := hide (unhide HIN gr cr wr s ((unhide R1).below (unhide hbel) hgl) (by unfold maxLen; omega))
      rw [← unhide hoa] at hcal
      generalize ow os k = o at hcal hst
      clear hoa
      go_wp2_with fail
      refine (unhide hcal).mono ?_
      rintro e w2 ⟨rfl, hb2⟩
      have r2 := (unhide hrow).below hb2 (unhide hrow).lt
      have B2 := hide ((unhide hbel).trans (hb2.mono (by have := (unhide hbel).size; omega)))
      have d0 := r2.cell (i := k) hlt
      have f0 := r2.frozen k
      have hl2 := r2.lt
      generalize ohalf os k k = ov at d0
      have R3 := hide ((r2.set k (.string o)).congr (fun j _ => unhide hst j))
      have B3 := hide ((unhide B2).setCell (p := ⟨go, k, none⟩) (Nat.le_refl _) (.string o))
      clear r2 hb2
      go_wp2
      go_roundw
      case rel => exact ⟨k + 1, by omega, by go_num, R3, B3⟩
      case measure => simp [intOf]; omega
    · obtain rfl : k = ks.length := by omega
      go_wp2
      go_ret
      exact ⟨go, rfl, by omega, (unhide hrow).congr (fun j hj => by unfold ohalf; rw [if_pos hj]; rfl), unhide hW⟩
end Split
end Go.Proofs.YtghckjmpcokhcaaGreatDoor
/-
  A region within a round of a range over a function: what is shown of it outside a round holds within one, where it defers nothing and nothing lets out. No program is spoken of here.
-/
namespace Go.Proofs.YtghckjmpcokhcaaGreatDoor
namespace RoundR
open Go Go.RowKit
set_option linter.unusedVariables false

variable {n l : Nat} {P : Program} {ops : Array Oper} {Q : Exit → Act → World → Prop}

theorem rows_in {row : String} {args : Array Value} {w : World} {R : Value → World → Prop} (h : Rows P row args w R) : RowsIn (Fence.wide.inRound l) n P row args w R := by
  intro c cs _
  obtain ⟨v, w', r, s⟩ := h c cs
  exact ⟨v, w', r, stepsIn_wide.2 s⟩

theorem upon_in {o : Oper} {a : Act} {K K' : Act → World → Prop} (hK : ∀ a w, K a w → K' a w) (r : Result Next) (h : o.upon P a K Q r) : o.uponIn (Fence.wide.inRound l) n P a K' Q r := by
  cases r with
  | ok x w' =>
    cases x <;> simp only [Oper.upon, Oper.uponIn] at h ⊢ <;>
      first
        | exact hK _ _ h
        | exact ⟨fun e => by simp [Fence.wide] at e, CallsIn.mono (CallsIn.inRound l (callsIn_wide.2 h)) (fun e w'' he => by cases e <;> first | exact hK _ _ he | exact he)⟩
        | exact ⟨fun e => by simp [Fence.wide] at e, RowsIn.mono (rows_in h) (fun _ _ he => hK _ _ he)⟩
  | halt x w' => cases x <;> simp only [Oper.upon, Oper.uponIn] at h ⊢ <;> exact h

theorem ops_in (hQ : ¬ LetsOut Q) (hd : ∀ (i : Nat) o, ops[i]? = some o → ∀ c, o.op ≠ .defer c) : ∀ (L : List Nat) (a : Act) (w : World), wpOps P ops Q L a w → wpOpsIn (Fence.wide.inRound l) n P ops Q L a w := by
  intro L
  induction L with
  | nil => intro a w h; exact h
  | cons i rest ih =>
    intro a w h
    simp only [wpOps] at h
    simp only [wpOpsIn]
    cases ho : ops[i]? with
    | none => simp only [ho] at h ⊢; exact ih a w h
    | some o =>
      simp only [ho] at h ⊢
      by_cases hw : Region.wanted o (yielded ops a.tmps) = true
      · simp only [hw, if_true] at h ⊢
        rcases h with h | ⟨_, h⟩
        · refine ⟨fun f _ => trivial, ?_⟩
          rw [Oper.semAt_eq _ _ _ (hd i o ho)]
          exact upon_in (fun a w => ih a w) _ h
        · exact absurd h hQ
      · simp only [hw, if_false, Bool.false_eq_true] at h ⊢
        exact ⟨fun f _ => trivial, ih _ _ h⟩

/-- The beginning of a region's walk, within a round. -/
theorem held_round {id : Nat} {S : World → Prop} {a : Act} {w : World} (hm : P.follows .mixedOrders = true) (hQ : ¬ LetsOut Q) (hd : ∀ (i : Nat) o, ops[i]? = some o → ∀ c, o.op ≠ .defer c) (hS : S w.drew)
    (h : S w.drew → wpAnyH P .any ops Q S ops.size (Array.replicate ops.size false) a w.drew) : (Code.region id ops true).wpIn (Fence.wide.inRound l) n P Q a w :=
  wpIn_region_draw fun t => by
    simp only [Region.schedule, hm, Bool.true_or, if_true]
    exact ops_in hQ hd _ _ _ (wpAny_sound ops.size t _ a _ (wpAny_of_held _ _ _ _ (h hS)))
theorem no_defer (h : ops.all (fun o => match o.op with | .defer _ => false | _ => true) = true) : ∀ (i : Nat) o, ops[i]? = some o → ∀ c, o.op ≠ .defer c := by
  intro i o ho c e
  have := Array.all_eq_true.1 h i (Array.getElem?_eq_some_iff.1 ho).1
  obtain ⟨hi, he⟩ := Array.getElem?_eq_some_iff.1 ho
  simp only [he, e] at this
  exact absurd this (by decide)
theorem fold1 (p : Tmp) (v : Value) (t : Array Value) : ((#[p] : Array Tmp).zip #[v]).foldl (fun t (p, v) => t.setIfInBounds p v) t = t.setIfInBounds p v := by simp
/-- How a round's body may be left: it goes on. -/
def Goes (B : Nat) (Kp : World → World → Prop) (R : World → Prop) (W : World) : Exit → Act → World → Prop
  | .normal, _, W' => KeepsFrom B W W' ∧ Kp W W' ∧ R W'
  | _, _, _ => False
theorem goes_out {B : Nat} {Kp : World → World → Prop} {R : World → Prop} {W : World} : ¬ LetsOut (Goes B Kp R W) := by
  rintro ⟨a, w, h⟩; exact h

/-- A range over a function whose rounds all go on; M: what lies in memory of that which a round is handed. -/
theorem range_own {α : Type} {g : Operand} {ps : Array Tmp} {assign body : Code} {a : Act} {w : World}
    (h1 : 1 ≤ n) {gf : Nat} {lb : Array Value} (hg : a.eval g = .func (.func gf) #[] lb) (eg : ∀ args w, (callFunc gf args).run P w = .ok (.enter gf args) w)
    {N : Nat} {encs : α → Array Value} (hps : ∀ x, (encs x).size = ps.size)
    (I : List α → World → Prop) (M : α → World → Prop) (S : List α → Prop) (Kp : World → World → Prop)
    (hKt : ∀ {A B C : World}, Kp A B → Kp B C → Kp A C) (hKb : ∀ (W : World) (l : Nat) (o o' : Obj), w.heap.size ≤ l → W.heap[l]? = some o → o.isCells = false → Kp W (W.putObj l o'))
    (hI : OwnFrom w.heap.size I) (hM : OwnFrom w.heap.size M) (hIb : ∀ pre A A', I pre A → Below A.heap.size A A' → I pre A')
    (hiter : ∀ (l : Nat) (J : List α → World → Prop) (W : World), (∀ pre A A', J pre A → Below A.heap.size A A' → J pre A') → Below w.heap.size w W →
      (∀ pre x W1, J pre W1 → M x W1 → pre.length < N → YieldAt Fence.wide (n - 1 - 1) P l (encs x) W1 fun e W' => e = .returned (.bool true) ∧ J (pre ++ [x]) W' ∧ Kp W1 W') → J [] W →
      CallsIn Fence.wide (n - 1) P gf (#[.func (.yield l) #[] #[]] ++ lb) W fun e W' => (∃ v, e = .returned v) ∧ ∃ xs, S xs ∧ J xs W')
    (h0 : I [] w)
    (hround : ∀ (l : Nat) (pre : List α) (x : α) (W W2 : World), I pre W2 → M x W2 → pre.length < N → assign.wpIn (Fence.wide.inRound l) (n - 1 - 1) P (Exit.then (fun a' W1 => W1 = W ∧ body.wpIn (Fence.wide.inRound l) (n - 1 - 1) P (Goes w.heap.size Kp (I (pre ++ [x])) W2) a' W2) (fun _ _ _ => False)) { tmps := (ps.zip (encs x)).foldl (fun t (p, v) => t.setIfInBounds p v) a.tmps, defers := [] } W)
    (hdone : ∀ (D : Nat) (xs : List α) (W : World), w.heap.size ≤ D → S xs → I xs W → W.heap[D]? = some (.deferred (some [])) → Q .normal { a with defers := { target := .collected D, args := #[] } :: a.defers } W) :
    (Code.rangeFunc g ps assign body).wpIn Fence.wide n P Q a w := by
  refine wpIn_rangeFunc ?_
  intro fn hfn
  show _
  obtain ⟨D, hD⟩ : ∃ D, D = w.heap.size := ⟨_, rfl⟩
  obtain ⟨rc, hrc⟩ : ∃ rc : LoopState → Option Code → Loop, rc = fun st pe => { state := st, pending := pe, fn, tmps := a.tmps, params := ps, assign, body, defers := D } := ⟨_, rfl⟩
  obtain ⟨V, hV⟩ : ∃ V, V = (w.alloc (.deferred (some []))).alloc (.loop (rc .ready none)) := ⟨_, rfl⟩
  have mL : V.heap[D + 1]? = some (.loop (rc .ready none)) := by
    have := World.alloc_heap_new (w.alloc (.deferred (some []))) (.loop (rc .ready none))
    rw [World.size_alloc, ← hD, ← hV] at this; exact this
  have mD : V.heap[D]? = some (.deferred (some [])) := by
    rw [hV, hD]; exact (Below.heap_alloc _ _ _ (by simp)).trans (World.alloc_heap_new w _)
  have mB : Below w.heap.size w V := by rw [hV]; exact ((Below.refl _ w).alloc (Nat.le_refl _) _).alloc (by simp) _
  refine ⟨D + 1, [{ target := .collected D, args := #[] }], V, { target := .fn (.func gf) lb, args := #[.func (.yield (D + 1)) #[] #[]] }, V, gf,
    #[.func (.yield (D + 1)) #[] #[]] ++ lb, V, ?_, ?_, ?_, ?_, fun _ => h1, ?_⟩
  · rw [hV, hrc, hD]; exact run_enterLoop_outer _ _ _ _ _
  · simp only [resolve, hg]; simp [go_sem]
  · intro f' _; trivial
  · simp [invoke, go_sem, eg]
  refine (hiter (D + 1) (fun pre W => I pre W ∧ W.heap[D + 1]? = some (.loop (rc .ready none)) ∧ W.heap[D]? = some (.deferred (some []))) V
    (fun pre A A' h hb => ⟨hIb pre A A' h.1 hb, (hb.block _ (Array.getElem?_eq_some_iff.1 h.2.1).1).trans h.2.1, (hb.block _ (Array.getElem?_eq_some_iff.1 h.2.2).1).trans h.2.2⟩) mB ?_ ⟨hIb [] w V h0 mB, mL, mD⟩).mono ?_
  · rintro pre x W ⟨hi, hl, hd⟩ hm hlen
    have hy := run_yield (P := P) (args := encs x) hl (by rw [hrc]; exact hps x)
    rw [hrc] at hy
    refine ⟨fn, _, assign, body, hy, roundIn_of_wpIn hfn ?_⟩
    have hlt := (Array.getElem?_eq_some_iff.1 hl).1
    obtain ⟨W2, hW2⟩ : ∃ W2, W2 = W.putObj (D + 1) (.loop { rc .ready none with state := .busy }) := ⟨_, rfl⟩
    have hbr := run_beginRound (P := P) hl (by rw [hrc])
    rw [← hW2] at hbr
    have hl2 : W2.heap[D + 1]? = some (.loop { rc .ready none with state := .busy }) := by rw [hW2]; exact World.putObj_heap_same hlt
    have hd2 : W2.heap[D]? = some (.deferred (some [])) := by rw [hW2]; exact (World.putObj_heap_other (by omega)).trans hd
    have hk2 : Kp W W2 := by rw [hW2]; exact hKb _ _ _ _ (by omega) hl rfl
    have hi2 : I pre W2 := by rw [hW2]; exact hI.putObj _ hi (by omega) hl rfl
    have hm2 : M x W2 := by rw [hW2]; exact hM.putObj _ hm (by omega) hl rfl
    refine wpIn_mono (hround (D + 1) pre x W W2 hi2 hm2 hlen) ?_
    rintro e1 a1 W1 hp1
    cases e1 with
    | normal =>
     obtain ⟨rfl, hp1⟩ := hp1
     refine ⟨W2, hbr, wpIn_mono hp1 ?_⟩
     rintro e a3 W3 hp
     cases e with
     | normal =>
       obtain ⟨hk3, hkp3, hi3⟩ := hp
       have hl3 := hk3.same _ _ (by omega) hl2 rfl
       have hd3 := hk3.same _ _ (by omega) hd2 rfl
       have hr := run_endRound (P := P) none hl3
       have hlt3 := (Array.getElem?_eq_some_iff.1 hl3).1
       rw [hrc] at hr hl3 ⊢
       exact ⟨_, _, hr, rfl, ⟨hI.putObj _ hi3 (by omega) hl3 rfl, World.putObj_heap_same hlt3, (World.putObj_heap_other (by omega)).trans hd3⟩, hKt (hKt hk2 hkp3) (hKb _ _ _ _ (by omega) hl3 rfl)⟩
     | _ => exact (hp : False).elim
    | _ => exact (hp1 : False).elim
  · rintro e W2 ⟨⟨v, rfl⟩, xs, hS, hi, hl, hd⟩
    have hend := run_endLoop (P := P) hl (by rw [hrc]; simp)
    rw [hrc] at hend hl
    exact ⟨none, _, hend, hdone D xs _ (by omega) hS (hI.putObj _ hi (by omega) hl rfl) ((World.putObj_heap_other (by omega)).trans hd)⟩
end RoundR
end Go.Proofs.YtghckjmpcokhcaaGreatDoor
