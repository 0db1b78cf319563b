/-
  Contracts of cmp.Compare at texts and at numbers of 32 bits, and of the program's comparePoints: the order of the points.
-/
import Derived.Test.YthgcfklfpllgnaaDoorZ5
import Derived.Test.YthgcfklfpllgnaaDoorRows
import Derived.WalkLawsBesides
import Derived.Laws.StructEq
import Derived.Test.YthgcfklfpllgnaaDoorZ2
import Derived.Deep.RegionWith
import Derived.Lib.QuietBelow
import Derived.BigQuiet
import Derived.Outline
import Derived.Test.YthgcfklfpllgnaaDoorZ6
namespace Go.Proofs.YthgcfklfpllgnaaDoor
namespace Ring
open Go.RowKit Base Points
set_option linter.unusedVariables false

set_option maxRecDepth 10000 in
set_option maxHeartbeats 400000 in
theorem nanS (x : ByteArray) (w : World) : Calls Tryd.prog 63 #[.string x] w fun e w' => e = .returned (.bool false) ∧ w' = w := by
  go_enter Tryd.func63, Tryd.ntmps63
  go_wp2
  go_ret
  exact ⟨by simp, rfl⟩
set_option maxRecDepth 10000 in
set_option maxHeartbeats 400000 in
theorem nanU (x : Int) (w : World) : Calls Tryd.prog 74 #[.int .u32 x] w fun e w' => e = .returned (.bool false) ∧ w' = w := by
  go_enter Tryd.func74, Tryd.ntmps74
  go_wp2
  go_ret
  exact ⟨by simp, rfl⟩

def cmpI (a b : Int) : Int := if a < b then -1 else if b < a then 1 else 0
def cmpS (a b : ByteArray) : Int := if Op.bytesLess a.toList b.toList then -1 else if Op.bytesLess b.toList a.toList then 1 else 0
theorem lt_tri {x y : List UInt8} (h1 : Op.bytesLess x y = false) (h2 : (x == y) = false) : Op.bytesLess y x = true := by
  rw [bytesLess_lt] at *
  simp only [decide_eq_false_iff_not, beq_eq_false_iff_ne, decide_eq_true_eq] at *
  by_cases h : y < x
  · exact h
  · exact absurd (List.le_antisymm (List.not_lt.1 h) (List.not_lt.1 h1)) h2
theorem lt_self (x : List UInt8) : Op.bytesLess x x = false := by rw [bytesLess_lt]; simp [List.lt_irrefl]

set_option maxRecDepth 10000 in
set_option maxHeartbeats 400000 in
theorem compareU (a b : Int) (w : World) : Calls Tryd.prog 70 #[.int .u32 a, .int .u32 b] w fun e w' => e = .returned (.int .i64 (cmpI a b)) ∧ w' = w := by
  by_cases h1 : a < b
  · go_enter Tryd.func70, Tryd.ntmps70
    go_wp2_with (go_at_call 74; refine (nanU _ _).mono ?_; rintro e w' ⟨rfl, rfl⟩)
    go_ret
    exact ⟨ret_int (by unfold cmpI; rw [if_pos h1]), rfl⟩
  by_cases h2 : b < a
  · go_enter Tryd.func70, Tryd.ntmps70
    go_wp2_with (go_at_call 74; refine (nanU _ _).mono ?_; rintro e w' ⟨rfl, rfl⟩)
    go_ret
    exact ⟨ret_int (by unfold cmpI; rw [if_neg (by omega), if_pos h2]), rfl⟩
  go_enter Tryd.func70, Tryd.ntmps70
  go_wp2_with (go_at_call 74; refine (nanU _ _).mono ?_; rintro e w' ⟨rfl, rfl⟩)
  go_ret
  exact ⟨ret_int (by unfold cmpI; rw [if_neg (by omega), if_neg (by omega)]), rfl⟩
set_option maxRecDepth 10000 in
set_option maxHeartbeats 400000 in
theorem compareS (a b : ByteArray) (w : World) : Calls Tryd.prog 54 #[.string a, .string b] w fun e w' => e = .returned (.int .i64 (cmpS a b)) ∧ w' = w := by
  cases h1 : Op.bytesLess a.toList b.toList
  · cases h2 : (a.toList == b.toList)
    · have H := hide (lt_tri h1 h2)
      have H1 := hide h1
      go_enter Tryd.func54, Tryd.ntmps54
      go_wp2_with (go_at_call 63; refine (nanS _ _).mono ?_; rintro e w' ⟨rfl, rfl⟩)
      go_ret
      exact ⟨ret_int (by unfold cmpS; rw [unhide H, unhide H1]; rfl), rfl⟩
    · have H : Hid (cmpS a b = 0) := by
        show cmpS a b = 0
        unfold cmpS
        rw [eq_of_beq h2, lt_self]; rfl
      go_enter Tryd.func54, Tryd.ntmps54
      go_wp2_with (go_at_call 63; refine (nanS _ _).mono ?_; rintro e w' ⟨rfl, rfl⟩)
      go_ret
      exact ⟨ret_int (unhide H).symm, rfl⟩
  · have H1 := hide h1
    go_enter Tryd.func54, Tryd.ntmps54
    go_wp2_with (go_at_call 63; refine (nanS _ _).mono ?_; rintro e w' ⟨rfl, rfl⟩)
    go_ret
    exact ⟨ret_int (by unfold cmpS; rw [unhide H1]; rfl), rfl⟩

theorem eqPt (p q : Int) (m n : ByteArray) (w : World) : (Op.equalIn 10000 113 (.agg #[.int .u32 p, .string m]) (.agg #[.int .u32 q, .string n])).run Tryd.prog w = .ok (p == q && m.toList == n.toList) w := by
  have u1 := Tryd.underlying111
  have u2 := Tryd.underlying9
  have hS : Tryd.prog.underlying 113 = some (.struct (Tryd.prog.fieldsOf 113)) := by kernel_rfl
  have hp : Tryd.prog.stoodInHeld 113 = false := by kernel_rfl
  rw [show (10000 : Nat) = 9999 + 1 from rfl, run_equalIn_agg w 9999 113 _ _ hS hp]
  simp only [Program.fieldsOf, Tryd.underlying113]
  go_simp
  by_cases h1 : p = q <;> by_cases h2 : m.toList = n.toList <;> simp [h1, h2]

/-- What comparePoints answers. -/
def cmpN (a b : D) : Int := if less a b then -1 else if less b a then 1 else 0
theorem cmpN_le (a b : D) : decide (cmpN a b ≤ 0) = le a b := by
  unfold cmpN le
  cases h1 : less a b
  · cases h2 : less b a <;> simp
  · rw [less_asymm h1]; simp
theorem cmpN_bd (a b : D) : -1 ≤ cmpN a b ∧ cmpN a b ≤ 1 := by
  unfold cmpN
  split
  · omega
  · split <;> omega
theorem cmpN_self (a : D) : cmpN a a = 0 := by unfold cmpN; rw [less_irrefl]; rfl
theorem cmpN_name {p : Int} {m n : ByteArray} : cmpN ⟨p, m⟩ ⟨p, n⟩ = cmpS m n := by
  simp [cmpN, cmpS, less, Lib.toList_data]
theorem cmpN_pos {p q : Int} {m n : ByteArray} (h : p ≠ q) : cmpN ⟨p, m⟩ ⟨q, n⟩ = cmpI p q := by
  have h1 : ¬ q = p := fun e => h e.symm
  simp [cmpN, cmpI, less, h, h1]

set_option maxRecDepth 10000 in
set_option maxHeartbeats 1000000 in
theorem compare_any (x y : D) (w : World) : Calls Tryd.prog 60 #[.agg #[.int .u32 x.pos, .string x.name], .agg #[.int .u32 y.pos, .string y.name]] w fun e w' => e = .returned (.int .i64 (cmpN x y)) ∧ Below w.heap.size w w' := by
  obtain ⟨p, m⟩ := x
  obtain ⟨q, n⟩ := y
  have he := fun w => eqPt p q m n w
  by_cases hp : p = q
  · subst hp
    cases hn : (m.toList == n.toList)
    · have H := hide (@cmpN_name p m n)
      have hpp : (p == p) = true := by simp
      go_enter Tryd.func60, Tryd.ntmps60
      go_wp2_with (go_at_call 54; refine (compareS _ _ _).mono ?_; rintro e w' ⟨rfl, rfl⟩)
      go_ret
      exact ⟨ret_int (unhide H).symm, bel2 w _ _⟩
    · have hmn : m = n := by
        apply Go.WideShapes.bytes_inj
        rw [← Lib.toList_data, ← Lib.toList_data]; exact eq_of_beq hn
      subst hmn
      have H := hide (cmpN_self ⟨p, m⟩)
      have hpp : (p == p) = true := by simp
      go_enter Tryd.func60, Tryd.ntmps60
      go_wp2
      go_ret
      exact ⟨ret_int (unhide H).symm, bel2 w _ _⟩
  · have H := hide (@cmpN_pos p q m n hp)
    have hpq : (p == q) = false := by simp [hp]
    clear hp
    go_enter Tryd.func60, Tryd.ntmps60
    go_wp2_with (go_at_call 70; refine (compareU _ _ _).mono ?_; rintro e w' ⟨rfl, rfl⟩)
    go_ret
    exact ⟨ret_int (unhide H).symm, bel2 w _ _⟩
end Ring
end Go.Proofs.YthgcfklfpllgnaaDoor
/-
  The program's merge: two sorted rows of one block are put into a row of another, in order.
-/
namespace Go.Proofs.YthgcfklfpllgnaaDoor
namespace Ring
open Go.RowKit Base Points Marks
set_option linter.unusedVariables false

/-- A row with a list laid over it from cell o on. -/
def over (F : Nat → Value) (o : Nat) (M : List D) (j : Nat) : Value := if o ≤ j ∧ j < o + M.length * 2 then icell M (j - o) else F j
theorem over_nil (F : Nat → Value) (o j : Nat) : over F o [] j = F j := by unfold over; rw [if_neg (by simp)]
theorem icell_append_left (M N : List D) (j : Nat) (h : j < M.length * 2) : icell (M ++ N) j = icell M j := by
  unfold icell
  have hj : j / 2 < M.length := by omega
  simp only [List.getD_eq_getElem?_getD, List.getElem?_append_left hj]
theorem over_snoc (F : Nat → Value) (o : Nat) (M : List D) (x : D) (j : Nat) :
    (if j = o + M.length * 2 + 1 then (.string x.name : Value) else if j = o + M.length * 2 then (.int .u32 x.pos : Value) else over F o M j) = over F o (M ++ [x]) j := by
  have hl : (M ++ [x]).length = M.length + 1 := by simp
  have hx : (M ++ [x])[M.length]? = some x := by simp
  by_cases h1 : j = o + M.length * 2 + 1
  · subst h1
    rw [if_pos rfl, over, if_pos (by omega), icell, show (o + M.length * 2 + 1 - o) % 2 = 1 by omega, show (o + M.length * 2 + 1 - o) / 2 = M.length by omega, List.getD_eq_getElem?_getD, hx]
    simp
  rw [if_neg h1]
  by_cases h0 : j = o + M.length * 2
  · subst h0
    rw [if_pos rfl, over, if_pos (by omega), icell, show (o + M.length * 2 - o) % 2 = 0 by omega, show (o + M.length * 2 - o) / 2 = M.length by omega, List.getD_eq_getElem?_getD, hx]
    simp
  rw [if_neg h0]
  unfold over
  by_cases h : o ≤ j ∧ j < o + M.length * 2
  · rw [if_pos h, if_pos (by omega), icell_append_left _ _ _ (by omega)]
  · rw [if_neg h, if_neg (by omega)]

/-- How far the merge has come: what is laid, and what is left of the two. -/
def Come (A B P : List D) (p q : Nat) : Prop := P.length = p + q ∧ List.merge A B le = P ++ List.merge (A.drop p) (B.drop q) le
theorem come_start (A B : List D) : Come A B [] 0 0 := ⟨rfl, by simp⟩
theorem drop_cons {A : List D} {p : Nat} (h : p < A.length) : A.drop p = A.getD p zero :: A.drop (p + 1) := by
  rw [List.drop_eq_getElem_cons h]; simp [h]
theorem come_left {A B P : List D} {p q : Nat} (h : Come A B P p q) (hp : p < A.length) (hc : q < B.length → le (A.getD p zero) (B.getD q zero) = true) : Come A B (P ++ [A.getD p zero]) (p + 1) q := by
  obtain ⟨hl, he⟩ := h
  refine ⟨by simp; omega, ?_⟩
  rw [he, drop_cons hp]
  by_cases hq : q < B.length
  · rw [drop_cons hq, List.cons_merge_cons, if_pos (hc hq)]; simp
  · rw [show B.drop q = [] from List.drop_eq_nil_of_le (by omega), List.merge_right, List.merge_right]; simp
theorem come_right {A B P : List D} {p q : Nat} (h : Come A B P p q) (hq : q < B.length) (hc : p < A.length → le (A.getD p zero) (B.getD q zero) = false) : Come A B (P ++ [B.getD q zero]) p (q + 1) := by
  obtain ⟨hl, he⟩ := h
  refine ⟨by simp; omega, ?_⟩
  rw [he, drop_cons hq]
  by_cases hp : p < A.length
  · rw [drop_cons hp, List.cons_merge_cons, if_neg (by rw [hc hp]; simp)]; simp
  · rw [show A.drop p = [] from List.drop_eq_nil_of_le (by omega), List.nil_merge, List.nil_merge]; simp
theorem come_end {A B P : List D} {p q : Nat} (h : Come A B P p q) (hp : A.length ≤ p) (hq : B.length ≤ q) : P = List.merge A B le := by
  rw [h.2, List.drop_eq_nil_of_le hp, List.drop_eq_nil_of_le hq]; simp

/-- A slice of points: where it has one it leads to their cells in block f. -/
def PAt (w : World) (f : Nat) (a : Option Addr) (l : List D) : Prop := l ≠ [] → ∃ o, a = some ⟨f, o, none⟩ ∧ ∀ i, i < l.length → At w f (o + i * 2) (l.getD i zero)
theorem PAt.block {w w' : World} {f : Nat} {a : Option Addr} {l : List D} (h : PAt w f a l) (hb : w'.heap[f]? = w.heap[f]?) : PAt w' f a l := by
  intro hne
  obtain ⟨o, ha, hc⟩ := h hne
  refine ⟨o, ha, fun i hi => ?_⟩
  obtain ⟨c0, c1⟩ := hc i hi
  exact ⟨by rw [World.cell?_of_block (w := w) hb]; exact c0, by rw [World.cell?_of_block (w := w) hb]; exact c1⟩
theorem PAt.head {w : World} {f : Nat} {a : Option Addr} {l : List D} {p : Nat} (h : PAt w f a (l.drop p)) (hp : p < l.length) : ∃ o, a = some ⟨f, o, none⟩ ∧ w.cell? ⟨f, o, none⟩ = some (.int .u32 (l.getD p zero).pos) ∧ w.cell? ⟨f, o + 1, none⟩ = some (.string (l.getD p zero).name) ∧ PAt w f (some ⟨f, o + 2, none⟩) (l.drop (p + 1)) := by
  obtain ⟨o, ha, hc⟩ := h (fun e => by have := congrArg List.length e; simp at this; omega)
  have e0 : ∀ i, (l.drop p).getD i zero = l.getD (p + i) zero := fun i => by simp [List.getD_eq_getElem?_getD]
  obtain ⟨c0, c1⟩ := hc 0 (by simp; omega)
  simp only [e0, Nat.zero_mul, Nat.add_zero] at c0 c1
  refine ⟨o, ha, c0, c1, fun _ => ⟨o + 2, rfl, fun i hi => ?_⟩⟩
  have h2 := hc (i + 1) (by simp at hi ⊢; omega)
  rw [e0] at h2
  have e1 : (l.drop (p + 1)).getD i zero = l.getD (p + (i + 1)) zero := by simp [List.getD_eq_getElem?_getD]; congr 1; congr 1; omega
  rw [e1, show o + 2 + i * 2 = o + (i + 1) * 2 by omega]
  exact h2
theorem pat_none {w : World} {f : Nat} {a : Option Addr} {l : List D} {p : Nat} (h : l.length ≤ p) : PAt w f a (l.drop p) := fun hne => absurd (List.drop_eq_nil_of_le h) hne
theorem pat_next {w : World} {f o cc p : Nat} {l : List D} (h : PAt w f (some ⟨f, o + 2, none⟩) (l.drop (p + 1))) (hc : l.length - p ≤ cc) (a : Option Addr) (ha : cc ≠ 1 → a = some ⟨f, o + 2, none⟩) : PAt w f a (l.drop (p + 1)) := by
  by_cases h1 : cc = 1
  · exact pat_none (by omega)
  · rw [ha h1]; exact h

set_option maxRecDepth 10000 in
set_option maxHeartbeats 4000000 in
theorem merge_some (g f o N n cap ca cb : Nat) (aa bb : Option Addr) (A B : List D) (F : Nat → Value) (w : World) (hne : g ≠ f) (hr : RowAt w g 113 N F) (hN : o + n * 2 ≤ N)
    (hf : f < w.heap.size) (ha : PAt w f aa A) (hb : PAt w f bb B) (hn : n = A.length + B.length) (hl : n ≤ 1000) (hca : A.length ≤ ca) (hcb : B.length ≤ cb) :
    Calls Tryd.prog 69 #[.slice (some ⟨g, o, none⟩) n cap, .slice aa A.length ca, .slice bb B.length cb, .func (.func 60) #[] #[]] w fun e w' =>
      e = .returned (.tuple #[]) ∧ RowAt w' g 113 N (over F o (List.merge A B le)) ∧ w.grownBy w' (some g) := by
  have hra := hide ha
  have hrb := hide hb
  have HR := hide hr
  have HNN := hide hn
  have hla : A.length ≤ 1000 := by omega
  have hlb : B.length ≤ 1000 := by omega
  have hmix : Tryd.prog.follows .mixedOrders = true := by kernel_rfl
  clear ha hb hr hn
  go_enter Tryd.func69, Tryd.ntmps69
  go_wp2
  go_loopw [1, 2, 11] (fun av bv iv wr => ∃ (p q : Nat) (P : List D) (a' b' : Option Addr) (la lb ca' cb' k : Nat), av = .slice a' la ca' ∧ bv = .slice b' lb cb' ∧ iv = .int .i64 (k : Int) ∧ k ≤ n ∧ la ≤ ca' ∧ lb ≤ cb' ∧ la ≤ 1000 ∧ lb ≤ 1000 ∧
      Hid (k = p + q ∧ la = A.length - p ∧ lb = B.length - q ∧ p ≤ A.length ∧ q ≤ B.length) ∧ Hid (PAt w f a' (A.drop p)) ∧ Hid (PAt w f b' (B.drop q)) ∧ Hid (Come A B P p q) ∧ Hid (RowAt wr g 113 N (over F o P)) ∧ Hid (w.grownBy wr (some g))) (fun _ _ iv _ => n - (intOf iv).toNat)
  case atStart => exact ⟨0, 0, [], aa, bb, _, _, ca, cb, 0, rfl, rfl, rfl, Nat.zero_le _, hca, hcb, hla, hlb, hide ⟨rfl, by omega, by omega, Nat.zero_le _, Nat.zero_le _⟩, hide (by simpa using unhide hra), hide (by simpa using unhide hrb), hide (come_start A B), hide ((unhide HR).congr (fun j _ => (over_nil F o j).symm)), hide (gb_refl _ _)⟩
  case round =>
    obtain ⟨p, q, P, a', b', la, lb, ca', cb', k, rfl, rfl, rfl, hk, hca', hcb', hla', hlb', hnum, hpa, hpb, hcome, hrow, hgb⟩ := hrel
    by_cases hlt : k < n
    · have hnm := unhide hnum
      have HN1 := unhide HNN
      have hgw : wr.heap[f]? = w.heap[f]? := (unhide hgb).block f hf (fun e => hne (by simpa using e.symm))
      have hcell : ∀ j, wr.cell? ⟨f, j, none⟩ = w.cell? ⟨f, j, none⟩ := fun j => World.cell?_of_block (w := w) hgw
      have hP : P.length = k := by rw [(unhide hcome).1]; omega
      have row := unhide hrow
      have d0 := row.cell (i := o + k * 2) (by omega)
      have d1 := row.cell (i := o + k * 2 + 1) (by omega)
      have f0 := row.frozen (o + k * 2)
      have f1 := row.frozen (o + k * 2 + 1)
      generalize over F o P (o + k * 2) = v0 at d0
      generalize over F o P (o + k * 2 + 1) = v1 at d1
      have hglt : g < wr.heap.size := row.lt
      have HCL := hide hcell
      clear hgw hcell row
      by_cases hqb : q < B.length
      · obtain ⟨ob, rfl, cb0, cb1, hnb⟩ := (unhide hpb).head hqb
        rw [← unhide HCL] at cb0 cb1
        have HNB := hide hnb
        clear hnb
        have hlb0 : ((lb : Int) == 0) = false := by simp; omega
        have hlb1 : 0 < lb := by omega
        by_cases hpa' : p < A.length
        · obtain ⟨oa, rfl, ca0, ca1, hna⟩ := (unhide hpa).head hpa'
          rw [← unhide HCL] at ca0 ca1
          have HNA := hide hna
          clear hna
          have hla0 : decide (0 < la) = true := by simp; omega
          have hla1 : 0 < la := by omega
          have hcl := hide (come_left (unhide hcome) hpa')
          have hcr := hide (come_right (unhide hcome) hqb)
          have hcc := fun w => compare_any (A.getD p zero) (B.getD q zero) w
          have hle := cmpN_le (A.getD p zero) (B.getD q zero)
          generalize A.getD p zero = x at ca0 ca1 hcl hcr hcc hle
          generalize B.getD q zero = y at cb0 cb1 hcl hcr hcc hle
          generalize cmpN x y = r at hcc hle
          have HCC := hide hcc
          clear hcc
          have q1 := cell_regrown ca0
          have q2 := cell_regrown ca1
          have q3 := cell_regrown cb0
          have q4 := cell_regrown cb1
          have cC := fun d os => Calls.regrown_of (unhide HCC (Go.Sort.grow (redrawn wr d) os))
          have HOX := hide (over_snoc F o P x)
          have HOY := hide (over_snoc F o P y)
          rw [hP] at HOX HOY
          cases e : le x y
          · have hr0 : decide (r ≤ 0) = false := hle.trans e
            have HC2 := hide (unhide hcr (fun _ => e))
            have HOV := HOY
            clear hle e hcl hcr hnm HN1 hP
            go_wp2_with fail
            refine wp_region_quiet_below hmix (by kernel_rfl) ?_
            repeat (quiet_step (exact cC _ _))
            refine wpQuiet_nil ?_
            intro _ hw'
            obtain ⟨⟨dq, osq⟩, hw''⟩ := hw'
            subst hw''
            have hbq := below_regrown wr dq osq
            generalize (Go.Sort.grow (redrawn wr dq) osq) = wc at hbq ⊢
            have z0 := (hbq.cell (p := ⟨f, ob, none⟩) (block_lt_of_cell cb0)).trans cb0
            have z1 := (hbq.cell (p := ⟨f, ob + 1, none⟩) (block_lt_of_cell cb1)).trans cb1
            have z2 := (hbq.cell (p := ⟨g, o + k * 2, none⟩) hglt).trans d0
            have z3 := (hbq.cell (p := ⟨g, o + k * 2 + 1, none⟩) hglt).trans d1
            have z4 := (hbq.frozen (p := ⟨g, o + k * 2, none⟩) hglt).trans f0
            have z5 := (hbq.frozen (p := ⟨g, o + k * 2 + 1, none⟩) hglt).trans f1
            have HROW := hide ((((unhide hrow).below hbq hglt).set (o + k * 2) (.int .u32 y.pos)).set (o + k * 2 + 1) (.string y.name))
            have HGB := hide (gb_set (gb_set (gb_trans (unhide hgb) (gb_below (r := some g) hbq (Nat.le_refl _))) (o + k * 2) (.int .u32 y.pos)) (o + k * 2 + 1) (.string y.name))
            clear hbq d0 d1 f0 f1
            go_wp2
            all_goals
              go_roundw
              case rel => exact ⟨p, q + 1, P ++ [y], _, _, _, _, _, _, k + 1, rfl, rfl, by go_num, by omega, by omega, by omega, by omega, by omega, hide (by have := unhide hnum; omega), hpa, hide (pat_next (cc := cb') (unhide HNB) (by have := unhide hnum; omega) _ (fun h => by first | rfl | simp [h] | omega)), HC2, hide ((unhide HROW).congr (fun j _ => unhide HOV j)), HGB⟩
              case measure => simp [intOf]; omega
          · have hr0 : decide (r ≤ 0) = true := hle.trans e
            have HC2 := hide (unhide hcl (fun _ => e))
            have HOV := HOX
            clear hle e hcl hcr hnm HN1 hP
            go_wp2_with fail
            refine wp_region_quiet_below hmix (by kernel_rfl) ?_
            repeat (quiet_step (exact cC _ _))
            refine wpQuiet_nil ?_
            intro _ hw'
            obtain ⟨⟨dq, osq⟩, hw''⟩ := hw'
            subst hw''
            have hbq := below_regrown wr dq osq
            generalize (Go.Sort.grow (redrawn wr dq) osq) = wc at hbq ⊢
            have z0 := (hbq.cell (p := ⟨f, oa, none⟩) (block_lt_of_cell ca0)).trans ca0
            have z1 := (hbq.cell (p := ⟨f, oa + 1, none⟩) (block_lt_of_cell ca1)).trans ca1
            have z2 := (hbq.cell (p := ⟨g, o + k * 2, none⟩) hglt).trans d0
            have z3 := (hbq.cell (p := ⟨g, o + k * 2 + 1, none⟩) hglt).trans d1
            have z4 := (hbq.frozen (p := ⟨g, o + k * 2, none⟩) hglt).trans f0
            have z5 := (hbq.frozen (p := ⟨g, o + k * 2 + 1, none⟩) hglt).trans f1
            have HROW := hide ((((unhide hrow).below hbq hglt).set (o + k * 2) (.int .u32 x.pos)).set (o + k * 2 + 1) (.string x.name))
            have HGB := hide (gb_set (gb_set (gb_trans (unhide hgb) (gb_below (r := some g) hbq (Nat.le_refl _))) (o + k * 2) (.int .u32 x.pos)) (o + k * 2 + 1) (.string x.name))
            clear hbq d0 d1 f0 f1
            go_wp2
            all_goals
              go_roundw
              case rel => exact ⟨p + 1, q, P ++ [x], _, _, _, _, _, _, k + 1, rfl, rfl, by go_num, by omega, by omega, by omega, by omega, by omega, hide (by have := unhide hnum; omega), hide (pat_next (cc := ca') (unhide HNA) (by have := unhide hnum; omega) _ (fun h => by first | rfl | simp [h] | omega)), hpb, HC2, hide ((unhide HROW).congr (fun j _ => unhide HOV j)), HGB⟩
              case measure => simp [intOf]; omega
        · have HC2 := hide (come_right (unhide hcome) hqb (fun h => absurd h hpa'))
          have HOV := hide (over_snoc F o P (B.getD q zero))
          rw [hP] at HOV
          generalize B.getD q zero = y at cb0 cb1 HC2 HOV
          have hla0 : decide (0 < la) = false := by simp; omega
          have hla1 : ¬ 0 < la := by omega
          clear hnm HN1 hP
          go_wp2
          go_quiet (fail)
          have hbq := bel_draws (Below.refl wr.heap.size wr) nq
          generalize wr.drewN nq = wc at hbq ⊢
          have z0 := (hbq.cell (p := ⟨f, ob, none⟩) (block_lt_of_cell cb0)).trans cb0
          have z1 := (hbq.cell (p := ⟨f, ob + 1, none⟩) (block_lt_of_cell cb1)).trans cb1
          have z2 := (hbq.cell (p := ⟨g, o + k * 2, none⟩) hglt).trans d0
          have z3 := (hbq.cell (p := ⟨g, o + k * 2 + 1, none⟩) hglt).trans d1
          have z4 := (hbq.frozen (p := ⟨g, o + k * 2, none⟩) hglt).trans f0
          have z5 := (hbq.frozen (p := ⟨g, o + k * 2 + 1, none⟩) hglt).trans f1
          have HROW := hide ((((unhide hrow).below hbq hglt).set (o + k * 2) (.int .u32 y.pos)).set (o + k * 2 + 1) (.string y.name))
          have HGB := hide (gb_set (gb_set (gb_trans (unhide hgb) (gb_below (r := some g) hbq (Nat.le_refl _))) (o + k * 2) (.int .u32 y.pos)) (o + k * 2 + 1) (.string y.name))
          clear hbq d0 d1 f0 f1
          go_wp2
          all_goals
            go_roundw
            case rel => exact ⟨p, q + 1, P ++ [y], _, _, _, _, _, _, k + 1, rfl, rfl, by go_num, by omega, by omega, by omega, by omega, by omega, hide (by have := unhide hnum; omega), hpa, hide (pat_next (cc := cb') (unhide HNB) (by have := unhide hnum; omega) _ (fun h => by first | rfl | simp [h] | omega)), HC2, hide ((unhide HROW).congr (fun j _ => unhide HOV j)), HGB⟩
            case measure => simp [intOf]; omega
      · have hpa' : p < A.length := by omega
        obtain ⟨oa, rfl, ca0, ca1, hna⟩ := (unhide hpa).head hpa'
        rw [← unhide HCL] at ca0 ca1
        have HNA := hide hna
        clear hna
        have HC2 := hide (come_left (unhide hcome) hpa' (fun h => absurd h hqb))
        have HOV := hide (over_snoc F o P (A.getD p zero))
        rw [hP] at HOV
        generalize A.getD p zero = x at ca0 ca1 HC2 HOV
        have hlb0 : lb = 0 := by omega
        have hla1 : 0 < la := by omega
        have HLB := hide hnum
        subst hlb0
        clear hnm HN1 hP
        go_wp2
        go_quiet (fail)
        have hbq := bel_draws (Below.refl wr.heap.size wr) nq
        generalize wr.drewN nq = wc at hbq ⊢
        have z0 := (hbq.cell (p := ⟨f, oa, none⟩) (block_lt_of_cell ca0)).trans ca0
        have z1 := (hbq.cell (p := ⟨f, oa + 1, none⟩) (block_lt_of_cell ca1)).trans ca1
        have z2 := (hbq.cell (p := ⟨g, o + k * 2, none⟩) hglt).trans d0
        have z3 := (hbq.cell (p := ⟨g, o + k * 2 + 1, none⟩) hglt).trans d1
        have z4 := (hbq.frozen (p := ⟨g, o + k * 2, none⟩) hglt).trans f0
        have z5 := (hbq.frozen (p := ⟨g, o + k * 2 + 1, none⟩) hglt).trans f1
        have HROW := hide ((((unhide hrow).below hbq hglt).set (o + k * 2) (.int .u32 x.pos)).set (o + k * 2 + 1) (.string x.name))
        have HGB := hide (gb_set (gb_set (gb_trans (unhide hgb) (gb_below (r := some g) hbq (Nat.le_refl _))) (o + k * 2) (.int .u32 x.pos)) (o + k * 2 + 1) (.string x.name))
        clear hbq d0 d1 f0 f1
        go_wp2
        all_goals
          go_roundw
          case rel => exact ⟨p + 1, q, P ++ [x], _, _, _, _, _, _, k + 1, rfl, rfl, by go_num, by omega, by omega, by omega, by omega, by omega, hide (by have := unhide hnum; omega), hide (pat_next (cc := ca') (unhide HNA) (by have := unhide hnum; omega) _ (fun h => by first | rfl | simp [h] | omega)), hpb, HC2, hide ((unhide HROW).congr (fun j _ => unhide HOV j)), HGB⟩
          case measure => simp [intOf]; omega
    · have HE : Hid (P = List.merge A B le) := come_end (unhide hcome) (by have := unhide hnum; have := unhide HNN; omega) (by have := unhide hnum; have := unhide HNN; omega)
      go_wp2
      exact bodyPost_end (v := .tuple #[]) (by simp [results, Tryd.results69, go_sem]) rfl ⟨rfl, by rw [← unhide HE]; exact unhide hrow, unhide hgb⟩
end Ring
end Go.Proofs.YthgcfklfpllgnaaDoor
/-
  The contract of the program's HashKey: the model's plain function of the bytes, for every string.
-/
namespace Go.Proofs.YthgcfklfpllgnaaDoor
namespace Hash
open Go.RowKit Base
set_option linter.unusedVariables false

set_option maxRecDepth 10000 in
set_option maxHeartbeats 400000 in
theorem hash_any (s : ByteArray) (w : World) (hs : s.size ≤ maxLen) :
    Calls Tryd.prog 66 #[.string s] w fun e w' => e = .returned (.int .u32 (hashN s.data.toList)) ∧ w' = w := by
  unfold maxLen at hs
  go_enter Tryd.func66, Tryd.ntmps66
  go_wp2
  go_loop [3, 7] (fun h i => ∃ (k : Nat) (z : Int), k ≤ s.size ∧ 0 ≤ z ∧ z < 4294967296 ∧ i = .int .i64 k ∧ h = .int .u32 z ∧ Hid (z = fold (s.data.toList.take k))) (fun _ i => s.size - (intOf i).toNat)
  case atStart => exact ⟨0, 2166136261, Nat.zero_le _, by omega, by omega, rfl, rfl, hide rfl⟩
  case round =>
    obtain ⟨k, z, hk, hz0, hz1, rfl, rfl, hf⟩ := hrel
    by_cases hlt : k < s.size
    · have HF : Hid (mixB z s[k] = fold (s.data.toList.take (k + 1))) := by show mixB z s[k] = _; rw [fold_step s k hlt, unhide hf]
      have hbd := hide (mixB_bd z s[k])
      go_wp2
      go_round
      case rel => exact ⟨k + 1, mixB z s[k], by omega, (unhide hbd).1, (unhide hbd).2, by go_num, rfl, HF⟩
      case measure => simp [intOf]; omega
    · have HZ : Hid (z = fold s.data.toList) := by show z = fold s.data.toList; rw [unhide hf, List.take_of_length_le (by simp; omega)]
      go_wp2
      go_loop [3, 18] (fun h i => ∃ (k : Nat) (y : Int), k ≤ 3 ∧ 0 ≤ y ∧ y < 4294967296 ∧ i = .int .i64 k ∧ h = .int .u32 y ∧ Hid (y = mixN k z)) (fun _ i => 3 - (intOf i).toNat)
      case atStart => exact ⟨0, z, Nat.zero_le _, hz0, hz1, rfl, rfl, hide rfl⟩
      case round =>
        obtain ⟨j, y, hj, hy0, hy1, rfl, rfl, hm⟩ := hrel
        by_cases hlt2 : j < 3
        · have HM : Hid (mixE y = mixN (j + 1) z) := by show mixE y = mixE (mixN j z); rw [unhide hm]
          have hbd := hide (mixE_bd y)
          go_wp2
          go_round
          case rel => exact ⟨j + 1, mixE y, by omega, (unhide hbd).1, (unhide hbd).2, by go_num, rfl, HM⟩
          case measure => simp [intOf]; omega
        · obtain rfl : j = 3 := by omega
          have HR : Hid (y = hashN s.data.toList) := by show y = mixN 3 (fold s.data.toList); rw [unhide hm, unhide HZ]
          go_wp2
          go_ret
          exact ⟨ret_int (unhide HR), rfl⟩
end Hash
end Go.Proofs.YthgcfklfpllgnaaDoor
