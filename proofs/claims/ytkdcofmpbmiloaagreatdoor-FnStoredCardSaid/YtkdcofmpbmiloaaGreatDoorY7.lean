/-
  The contract of the model's l1Num: the decimal digits, for every number from 0 on.
-/
import Derived.Test.YtkdcofmpbmiloaaGreatDoorY4
import Derived.Test.YtkdcofmpbmiloaaGreatDoorRows
import Derived.Deep.RegionWith
import Derived.WalkLawsBesides
import Derived.Test.YtkdcofmpbmiloaaGreatDoorY1
import Derived.Lib.AtoiTie
import Derived.Lib.AtoiAllCases
import Derived.Test.YtkdcofmpbmiloaaGreatDoorShelf
import Derived.Test.YtkdcofmpbmiloaaGreatDoorShelf
import Derived.Lib.QuietBelow
import Derived.BigQuiet
import Derived.Outline
namespace Go.Proofs.YtkdcofmpbmiloaaGreatDoor
namespace NumText
open Go.RowKit Base
set_option linter.unusedVariables false

set_option maxRecDepth 10000 in
set_option maxHeartbeats 400000 in
theorem small (n : Int) (w : World) (h0 : 0 ≤ n) (h : n < 10) :
    Calls Tryz.prog 84 #[.int .i64 n] w fun e w' => e = .returned (.string (txt n.toNat)) ∧ Below w.heap.size w w' := by
  have hcv := conv1 (P := Tryz.prog) 22 9 5 (48 + n) (by omega) (by omega) Tryz.underlying22 Tryz.underlying5 Tryz.underlying9
  have HT := hide (txt_small n h0 h)
  go_enter Tryz.func84, Tryz.ntmps84
  go_wp2
  go_ret
  exact ⟨ret_str (unhide HT), bel1 w _⟩

set_option maxRecDepth 10000 in
set_option maxHeartbeats 1000000 in
theorem step (n : Int) (w : World) (h0 : 10 ≤ n) (h : n < 9223372036854775808)
    (ih : ∀ w : World, Calls Tryz.prog 84 #[.int .i64 (n / 10)] w fun e w' => e = .returned (.string (txt (n / 10).toNat)) ∧ Below w.heap.size w w') :
    Calls Tryz.prog 84 #[.int .i64 n] w fun e w' => e = .returned (.string (txt n.toNat)) ∧ Below w.heap.size w w' := by
  have hcv := conv1 (P := Tryz.prog) 22 9 5 (48 + n % 10) (by omega) (by omega) Tryz.underlying22 Tryz.underlying5 Tryz.underlying9
  have hlt : ¬ n < 10 := by omega
  have e1 := quo10 n h0 h
  have e2 := rem10 n h0 h
  have HT := txt_step n h0
  have hts : (txt (n / 10).toNat).size ≤ 20 := by
    show (Lib.decDigits (n / 10).toNat).toArray.size ≤ 20
    have := Lib.nDigits_le20 (n / 10).toNat (by omega)
    rw [Lib.decDigits_eq]
    simpa using this
  generalize n / 10 = q at ih e1 HT hts
  generalize 48 + n % 10 = m at e2 hcv HT
  generalize txt q.toNat = t at ih HT hts
  have IH := hide ih
  have HT1 := hide HT
  clear ih HT
  go_enter Tryz.func84, Tryz.ntmps84
  go_wp2
  go_region_with (go_at_call 84; refine (unhide IH _).mono ?_; rintro e w1 ⟨rfl, hb1⟩; have hc1 := (bcell hb1 (Nat.le_refl _)).1; have hz1 := hb1.size; have hb1 := hide hb1)
  all_goals go_wp2
  all_goals
    go_ret
    refine ⟨ret_str (unhide HT1), ?_⟩
    first
      | exact ((Below.refl _ w).drew.trans (unhide hb1)).alloc hz1 _
      | exact (bel1 w _).drew.trans ((unhide hb1).mono (by simp))

theorem num_any (n : Int) (w : World) (h0 : 0 ≤ n) (h : n < 9223372036854775808) :
    Calls Tryz.prog 84 #[.int .i64 n] w fun e w' => e = .returned (.string (txt n.toNat)) ∧ Below w.heap.size w w' := by
  obtain ⟨k, hk⟩ : ∃ k : Nat, n.toNat ≤ k := ⟨_, Nat.le_refl _⟩
  induction k generalizing n w with
  | zero => exact small n w h0 (by omega)
  | succ k ih =>
    by_cases h10 : n < 10
    · exact small n w h0 h10
    · exact step n w (by omega) h (fun w => ih (n / 10) w (by omega) (by omega) (by omega))
end NumText
end Go.Proofs.YtkdcofmpbmiloaaGreatDoor
/-
  The contract of the model's l1Kind: the kind of a name by a plain table, for every string.
-/
namespace Go.Proofs.YtkdcofmpbmiloaaGreatDoor
namespace Kind
open Go.RowKit Base
set_option linter.unusedVariables false

def kindN (l : List UInt8) : Int :=
  if l = [103, 101, 116] then 1 else
  if l = [103, 101, 116, 115] then 1 else
  if l = [115, 101, 116] then 2 else
  if l = [97, 100, 100] then 2 else
  if l = [114, 101, 112, 108, 97, 99, 101] then 2 else
  if l = [97, 112, 112, 101, 110, 100] then 2 else
  if l = [112, 114, 101, 112, 101, 110, 100] then 2 else
  if l = [99, 97, 115] then 3 else
  if l = [105, 110, 99, 114] then 4 else
  if l = [100, 101, 99, 114] then 4 else
  if l = [116, 111, 117, 99, 104] then 5 else
  if l = [100, 101, 108, 101, 116, 101] then 6 else
  if l = [102, 108, 117, 115, 104, 95, 97, 108, 108] then 7 else
  if l = [118, 101, 114, 115, 105, 111, 110] then 7 else
  if l = [113, 117, 105, 116] then 7 else
  0

theorem kindN_bd (l : List UInt8) : 0 ≤ kindN l ∧ kindN l ≤ 7 := by
  unfold kindN
  repeat' split
  all_goals omega

set_option maxHeartbeats 4000000 in
theorem spec_any (s : ByteArray) (w : World) :
    Calls Tryz.prog 33 #[.string s] w fun e w' => e = .returned (.int .i64 (kindN s.toList)) ∧ w' = w := by
  by_cases h0 : s.toList = [103, 101, 116]
  · have H : Hid (kindN s.toList = 1) := by show kindN s.toList = 1; rw [h0]; decide
    go_enter Tryz.func33, Tryz.ntmps33
    go_wp2
    go_ret
    exact ⟨ret_int (unhide H).symm, rfl⟩
  by_cases h1 : s.toList = [103, 101, 116, 115]
  · have H : Hid (kindN s.toList = 1) := by show kindN s.toList = 1; rw [h1]; decide
    go_enter Tryz.func33, Tryz.ntmps33
    go_wp2
    go_ret
    exact ⟨ret_int (unhide H).symm, rfl⟩
  by_cases h2 : s.toList = [115, 101, 116]
  · have H : Hid (kindN s.toList = 2) := by show kindN s.toList = 2; rw [h2]; decide
    go_enter Tryz.func33, Tryz.ntmps33
    go_wp2
    go_ret
    exact ⟨ret_int (unhide H).symm, rfl⟩
  by_cases h3 : s.toList = [97, 100, 100]
  · have H : Hid (kindN s.toList = 2) := by show kindN s.toList = 2; rw [h3]; decide
    go_enter Tryz.func33, Tryz.ntmps33
    go_wp2
    go_ret
    exact ⟨ret_int (unhide H).symm, rfl⟩
  by_cases h4 : s.toList = [114, 101, 112, 108, 97, 99, 101]
  · have H : Hid (kindN s.toList = 2) := by show kindN s.toList = 2; rw [h4]; decide
    go_enter Tryz.func33, Tryz.ntmps33
    go_wp2
    go_ret
    exact ⟨ret_int (unhide H).symm, rfl⟩
  by_cases h5 : s.toList = [97, 112, 112, 101, 110, 100]
  · have H : Hid (kindN s.toList = 2) := by show kindN s.toList = 2; rw [h5]; decide
    go_enter Tryz.func33, Tryz.ntmps33
    go_wp2
    go_ret
    exact ⟨ret_int (unhide H).symm, rfl⟩
  by_cases h6 : s.toList = [112, 114, 101, 112, 101, 110, 100]
  · have H : Hid (kindN s.toList = 2) := by show kindN s.toList = 2; rw [h6]; decide
    go_enter Tryz.func33, Tryz.ntmps33
    go_wp2
    go_ret
    exact ⟨ret_int (unhide H).symm, rfl⟩
  by_cases h7 : s.toList = [99, 97, 115]
  · have H : Hid (kindN s.toList = 3) := by show kindN s.toList = 3; rw [h7]; decide
    go_enter Tryz.func33, Tryz.ntmps33
    go_wp2
    go_ret
    exact ⟨ret_int (unhide H).symm, rfl⟩
  by_cases h8 : s.toList = [105, 110, 99, 114]
  · have H : Hid (kindN s.toList = 4) := by show kindN s.toList = 4; rw [h8]; decide
    go_enter Tryz.func33, Tryz.ntmps33
    go_wp2
    go_ret
    exact ⟨ret_int (unhide H).symm, rfl⟩
  by_cases h9 : s.toList = [100, 101, 99, 114]
  · have H : Hid (kindN s.toList = 4) := by show kindN s.toList = 4; rw [h9]; decide
    go_enter Tryz.func33, Tryz.ntmps33
    go_wp2
    go_ret
    exact ⟨ret_int (unhide H).symm, rfl⟩
  by_cases h10 : s.toList = [116, 111, 117, 99, 104]
  · have H : Hid (kindN s.toList = 5) := by show kindN s.toList = 5; rw [h10]; decide
    go_enter Tryz.func33, Tryz.ntmps33
    go_wp2
    go_ret
    exact ⟨ret_int (unhide H).symm, rfl⟩
  by_cases h11 : s.toList = [100, 101, 108, 101, 116, 101]
  · have H : Hid (kindN s.toList = 6) := by show kindN s.toList = 6; rw [h11]; decide
    go_enter Tryz.func33, Tryz.ntmps33
    go_wp2
    go_ret
    exact ⟨ret_int (unhide H).symm, rfl⟩
  by_cases h12 : s.toList = [102, 108, 117, 115, 104, 95, 97, 108, 108]
  · have H : Hid (kindN s.toList = 7) := by show kindN s.toList = 7; rw [h12]; decide
    go_enter Tryz.func33, Tryz.ntmps33
    go_wp2
    go_ret
    exact ⟨ret_int (unhide H).symm, rfl⟩
  by_cases h13 : s.toList = [118, 101, 114, 115, 105, 111, 110]
  · have H : Hid (kindN s.toList = 7) := by show kindN s.toList = 7; rw [h13]; decide
    go_enter Tryz.func33, Tryz.ntmps33
    go_wp2
    go_ret
    exact ⟨ret_int (unhide H).symm, rfl⟩
  by_cases h14 : s.toList = [113, 117, 105, 116]
  · have H : Hid (kindN s.toList = 7) := by show kindN s.toList = 7; rw [h14]; decide
    go_enter Tryz.func33, Tryz.ntmps33
    go_wp2
    go_ret
    exact ⟨ret_int (unhide H).symm, rfl⟩
  have H : Hid (kindN s.toList = 0) := by show kindN s.toList = 0; unfold kindN; simp only [h0, h1, h2, h3, h4, h5, h6, h7, h8, h9, h10, h11, h12, h13, h14, if_false]
  have e0 : (s.toList == [103, 101, 116]) = false := beq_eq_false_iff_ne.2 h0
  have e1 : (s.toList == [103, 101, 116, 115]) = false := beq_eq_false_iff_ne.2 h1
  have e2 : (s.toList == [115, 101, 116]) = false := beq_eq_false_iff_ne.2 h2
  have e3 : (s.toList == [97, 100, 100]) = false := beq_eq_false_iff_ne.2 h3
  have e4 : (s.toList == [114, 101, 112, 108, 97, 99, 101]) = false := beq_eq_false_iff_ne.2 h4
  have e5 : (s.toList == [97, 112, 112, 101, 110, 100]) = false := beq_eq_false_iff_ne.2 h5
  have e6 : (s.toList == [112, 114, 101, 112, 101, 110, 100]) = false := beq_eq_false_iff_ne.2 h6
  have e7 : (s.toList == [99, 97, 115]) = false := beq_eq_false_iff_ne.2 h7
  have e8 : (s.toList == [105, 110, 99, 114]) = false := beq_eq_false_iff_ne.2 h8
  have e9 : (s.toList == [100, 101, 99, 114]) = false := beq_eq_false_iff_ne.2 h9
  have e10 : (s.toList == [116, 111, 117, 99, 104]) = false := beq_eq_false_iff_ne.2 h10
  have e11 : (s.toList == [100, 101, 108, 101, 116, 101]) = false := beq_eq_false_iff_ne.2 h11
  have e12 : (s.toList == [102, 108, 117, 115, 104, 95, 97, 108, 108]) = false := beq_eq_false_iff_ne.2 h12
  have e13 : (s.toList == [118, 101, 114, 115, 105, 111, 110]) = false := beq_eq_false_iff_ne.2 h13
  have e14 : (s.toList == [113, 117, 105, 116]) = false := beq_eq_false_iff_ne.2 h14
  clear h0 h1 h2 h3 h4 h5 h6 h7 h8 h9 h10 h11 h12 h13 h14
  go_enter Tryz.func33, Tryz.ntmps33
  go_wp2
  go_ret
  exact ⟨ret_int (unhide H).symm, rfl⟩

end Kind
end Go.Proofs.YtkdcofmpbmiloaaGreatDoor
/-
  What is thrown where something is full: the variable errFull, and how a call ends by it.
-/
namespace Go.Proofs.YtkdcofmpbmiloaaGreatDoor
namespace Shelf
open Go.RowKit Base Keep
set_option linter.unusedVariables false

def errV (p : Addr) : Value := .iface 145 (.pointer (some p))
def fullP (p : Addr) : List PanicEntry := [{ v := errV p, recovered := false }]
/-- The variable errFull holds an error at p. -/
structure FullIs (w : World) (p : Addr) : Prop where
  cell : w.cell? ⟨0, 0, none⟩ = some (errV p)
  lt : 0 < w.heap.size
theorem FullIs.below {w w' : World} {p : Addr} (h : FullIs w p) (hb : Below w.heap.size w w') : FullIs w' p :=
  ⟨(hb.cell (p := ⟨0, 0, none⟩) h.lt).trans h.cell, Nat.lt_of_lt_of_le h.lt hb.size⟩
theorem FullIs.keep {w w' : World} {p : Addr} {S : List Nat} (h : FullIs w p) (hk : Keeps S w w') (hS : 0 ∉ S) : FullIs w' p :=
  ⟨(World.cell?_of_block (a := ⟨0, 0, none⟩) (hk.block _ h.lt hS)).trans h.cell, Nat.lt_of_lt_of_le h.lt hk.size⟩
theorem lt_of_cell {w : World} {b o : Nat} {v : Value} (h : w.cell? ⟨b, o, none⟩ = some v) : b < w.heap.size := by
  by_cases hb : b < w.heap.size
  · exact hb
  · simp [World.cell?, Array.getElem?_eq_none (Nat.le_of_not_lt hb)] at h
theorem gave {P : Program} {f : Func} {Q : Ending → World → Prop} {a : Act} {w : World} {p : Addr} (h : Q (.panicked (fullP p)) w) (hd : a.defers = [] := by rfl) : bodyPost P f Q (Exit.panic [{ v := .iface 145 (.pointer (some p)), recovered := false }]) a w := by
  exact ⟨hd, h⟩
end Shelf
end Go.Proofs.YtkdcofmpbmiloaaGreatDoor
/-
  What CountText reckons, as a plain function of the bytes. No Go function is spoken of here.
-/
namespace Go.Proofs.YtkdcofmpbmiloaaGreatDoor
namespace Count
open Go.RowKit Base GoodKey NumText

def digB (c : UInt8) : Bool := decide (48 ≤ c.toNat) && decide (c.toNat ≤ 57)
def val (l : List UInt8) : Int := l.foldl (fun n c => 10 * n + ((c.toNat : Int) - 48)) 0
def firstB (l : List UInt8) : Bool := match l with | c :: _ :: _ => c.toNat == 48 | _ => false
def res (v m : Int) (down : Bool) : Int := if (if down then v - m else v + m) < 0 then 0 else (if down then v - m else v + m)
def countB (l : List UInt8) (m : Int) (down : Bool) : Option ByteArray :=
  if inB l.length 1 18 = true then if firstB l = true then none else if inB m 0 1000000000 = true then if l.all digB = true then
    if 18 < (txt (res (val l) m down).toNat).size then none else some (txt (res (val l) m down).toNat) else none else none else none
def countV : Option ByteArray → Value
  | some s => .tuple #[.string s, .bool true]
  | none => .tuple #[.string ByteArray.empty, .bool false]
theorem ret_count {o p : Option ByteArray} (h : o = p) : Ending.returned (countV o) = .returned (countV p) := by rw [h]

theorem val_snoc (l : List UInt8) (c : UInt8) : val (l ++ [c]) = 10 * val l + ((c.toNat : Int) - 48) := by simp [val]
theorem val_step (s : ByteArray) (k : Nat) (h : k < s.size) : val (s.data.toList.take (k + 1)) = 10 * val (s.data.toList.take k) + ((s[k].toNat : Int) - 48) := by
  rw [take_snoc s k h, val_snoc]
theorem all_step (s : ByteArray) (k : Nat) (h : k < s.size) (ha : (s.data.toList.take k).all digB = true) (h1 : ¬ (s[k].toNat : Int) < 48) (h2 : ¬ 57 < (s[k].toNat : Int)) : (s.data.toList.take (k + 1)).all digB = true := by
  rw [take_snoc s k h, List.all_append, ha]
  simp [digB]; omega
theorem all_bad (s : ByteArray) (k : Nat) (h : k < s.size) (hb : (s[k].toNat : Int) < 48 ∨ 57 < (s[k].toNat : Int)) : s.data.toList.all digB = false := by
  have hm : s[k] ∈ s.data.toList := by
    have e : s[k] = s.data.toList[k]'(by simpa using h) := rfl
    rw [e]; exact List.getElem_mem _
  have ho : digB s[k] = false := by simp [digB]; omega
  rw [List.all_eq_false]; exact ⟨_, hm, by simp [ho]⟩
theorem val_bd (l : List UInt8) (h : l.all digB = true) : 0 ≤ val l ∧ val l < 10 ^ l.length := by
  obtain ⟨n, hn⟩ : ∃ n, l.length = n := ⟨_, rfl⟩
  induction n generalizing l with
  | zero => rw [List.length_eq_zero_iff.1 hn]; simp [val]
  | succ n ih =>
    have hne : l ≠ [] := by intro e; simp [e] at hn
    have e := List.dropLast_concat_getLast hne
    have h1 : l.dropLast.all digB = true := by
      rw [List.all_eq_true] at h ⊢
      exact fun x hx => h x (List.dropLast_subset l hx)
    have h2 : digB (l.getLast hne) = true := by rw [List.all_eq_true] at h; exact h _ (List.getLast_mem hne)
    have h3 := ih _ h1 (by simp [hn])
    have hl : l.dropLast.length = n := by simp [hn]
    have e2 : val l = 10 * val l.dropLast + (((l.getLast hne).toNat : Int) - 48) := by
      have e3 := val_snoc l.dropLast (l.getLast hne)
      rw [e] at e3
      exact e3
    simp only [digB, Bool.and_eq_true, decide_eq_true_eq] at h2
    rw [e2, hn, Int.pow_succ]
    rw [hl] at h3
    omega
theorem val_17 (l : List UInt8) (h : l.all digB = true) (hl : l.length ≤ 17) : 0 ≤ val l ∧ val l < 100000000000000000 := by
  have h1 := val_bd l h
  have h2 : (10 : Int) ^ l.length ≤ 10 ^ 17 := by
    have h3 : (10 : Nat) ^ l.length ≤ 10 ^ 17 := Nat.pow_le_pow_right (by omega) hl
    have h4 : (((10 : Nat) ^ l.length : Nat) : Int) ≤ (((10 : Nat) ^ 17 : Nat) : Int) := by omega
    simpa using h4
  have h5 : (10 : Int) ^ 17 = 100000000000000000 := by decide
  omega
theorem val_18 (l : List UInt8) (h : l.all digB = true) (hl : l.length ≤ 18) : 0 ≤ val l ∧ val l < 1000000000000000000 := by
  have h1 := val_bd l h
  have h2 : (10 : Int) ^ l.length ≤ 10 ^ 18 := by
    have h3 : (10 : Nat) ^ l.length ≤ 10 ^ 18 := Nat.pow_le_pow_right (by omega) hl
    have h4 : (((10 : Nat) ^ l.length : Nat) : Int) ≤ (((10 : Nat) ^ 18 : Nat) : Int) := by omega
    simpa using h4
  have h5 : (10 : Int) ^ 18 = 1000000000000000000 := by decide
  omega
end Count
end Go.Proofs.YtkdcofmpbmiloaaGreatDoor
/-
  What readNumber reads: decimal numerals without needless noughts, as plain data; and what the program's CountText reckons. No Go function is spoken of here.
-/
namespace Go.Proofs.YtkdcofmpbmiloaaGreatDoor
namespace Count
open Go.RowKit Base GoodKey NumText
set_option linter.unusedVariables false

def plainB (l : List UInt8) : Bool := inB l.length 1 18 && !firstB l && l.all digB
def rdB (l : List UInt8) (most : Int) : Option Int := match Lib.atoiAll l with | .ok v => if 0 ≤ v ∧ v ≤ most ∧ Lib.itoa v = l then some v else none | _ => none

theorem dig_byte {c : UInt8} (h : digB c = true) : UInt8.ofNat (48 + (c.toNat - 48)) = c := by
  simp only [digB, Bool.and_eq_true, decide_eq_true_eq] at h
  rw [show 48 + (c.toNat - 48) = c.toNat by omega]
  simp
/-- A digit that is not 0 ahead. -/
def headNZ : List UInt8 → Prop
  | c :: _ => c.toNat ≠ 48
  | [] => False
theorem val_pos {l : List UInt8} (h : l.all digB = true) (hz : headNZ l) : 1 ≤ val l := by
  obtain ⟨n, hn⟩ : ∃ n, l.length = n := ⟨_, rfl⟩
  induction n generalizing l with
  | zero => rw [List.length_eq_zero_iff.1 hn] at hz; exact hz.elim
  | succ n ih =>
    have hne : l ≠ [] := by intro e; simp [e] at hn
    obtain ⟨r, c, rfl⟩ : ∃ r c, l = r ++ [c] := ⟨l.dropLast, l.getLast hne, (List.dropLast_concat_getLast hne).symm⟩
    rw [List.all_append, Bool.and_eq_true] at h
    have hc : digB c = true := by simpa using h.2
    simp only [digB, Bool.and_eq_true, decide_eq_true_eq] at hc
    rw [val_snoc]
    cases r with
    | nil => simp only [List.nil_append, headNZ] at hz; simp [val]; omega
    | cons d r' =>
      have := ih h.1 (by simpa [headNZ] using hz) (by simpa using hn)
      omega
theorem canon {l : List UInt8} (h : l.all digB = true) (hz : l.length = 1 ∨ headNZ l) (hne : l ≠ []) : Lib.decDigits (val l).toNat = l := by
  obtain ⟨n, hn⟩ : ∃ n, l.length = n := ⟨_, rfl⟩
  induction n generalizing l with
  | zero => exact absurd (List.length_eq_zero_iff.1 hn) hne
  | succ n ih =>
    obtain ⟨r, c, rfl⟩ : ∃ r c, l = r ++ [c] := ⟨l.dropLast, l.getLast hne, (List.dropLast_concat_getLast hne).symm⟩
    rw [List.all_append, Bool.and_eq_true] at h
    have hcb : digB c = true := by simpa using h.2
    have hc := hcb
    simp only [digB, Bool.and_eq_true, decide_eq_true_eq] at hc
    rw [val_snoc]
    cases r with
    | nil =>
      have e : (10 * val [] + ((c.toNat : Int) - 48)).toNat = c.toNat - 48 := by simp [val]; omega
      rw [e, Lib.decDigits_one (by omega), dig_byte hcb]
      rfl
    | cons d r' =>
      have hnz : headNZ (d :: r') := by
        rcases hz with e | e
        · simp at e
        · simpa [headNZ] using e
      have hp := val_pos h.1 hnz
      have ih' := ih h.1 (.inr hnz) (by simp) (by simpa using hn)
      generalize val (d :: r') = v at hp ih'
      have e1 : (10 * v + ((c.toNat : Int) - 48)).toNat = 10 * v.toNat + (c.toNat - 48) := by omega
      rw [e1, Lib.decDigits, dif_neg (by omega), show (10 * v.toNat + (c.toNat - 48)) / 10 = v.toNat by omega, show (10 * v.toNat + (c.toNat - 48)) % 10 = c.toNat - 48 by omega, ih', dig_byte hcb]
theorem dig_ofNat {d : Nat} (h : d < 10) : digB (UInt8.ofNat (48 + d)) = true ∧ (UInt8.ofNat (48 + d)).toNat = 48 + d := by
  have e : (UInt8.ofNat (48 + d)).toNat = 48 + d := by rw [UInt8.toNat_ofNat']; omega
  refine ⟨?_, e⟩
  unfold digB
  rw [e, decide_eq_true (show 48 ≤ 48 + d by omega), decide_eq_true (show 48 + d ≤ 57 by omega)]
  rfl
theorem dec_props (n : Nat) : (Lib.decDigits n).all digB = true ∧ val (Lib.decDigits n) = n ∧ Lib.decDigits n ≠ [] ∧ (10 ≤ n → headNZ (Lib.decDigits n)) ∧ (1 ≤ n → headNZ (Lib.decDigits n)) := by
  induction n using Nat.strongRecOn with
  | ind n ih =>
    by_cases h : n < 10
    · rw [Lib.decDigits_one h]
      obtain ⟨h1, h2⟩ := dig_ofNat h
      refine ⟨by show (digB _ && true) = true; rw [h1]; rfl, by show (10 * 0 + (((UInt8.ofNat (48 + n)).toNat : Int) - 48)) = n; rw [h2]; omega, by simp, fun hh => by omega, fun hh => ?_⟩
      simp only [headNZ]
      omega
    · rw [Lib.decDigits, dif_neg h]
      obtain ⟨i1, i2, i3, i4, i5⟩ := ih (n / 10) (by omega)
      obtain ⟨h1, h2⟩ := dig_ofNat (show n % 10 < 10 by omega)
      have hh : headNZ (Lib.decDigits (n / 10) ++ [UInt8.ofNat (48 + n % 10)]) := by
        have h5 := i5 (by omega)
        cases e : Lib.decDigits (n / 10) with
        | nil => exact absurd e i3
        | cons d r => rw [e] at h5; simpa [headNZ] using h5
      refine ⟨by rw [List.all_append, i1]; show (true && (digB _ && true)) = true; rw [h1]; rfl, ?_, by simp, fun _ => hh, fun _ => hh⟩
      rw [val_snoc, i2, h2]
      omega
theorem nDigits_low (n : Nat) (h : 1 ≤ n) : 10 ^ (Lib.nDigits n - 1) ≤ n := by
  induction n using Nat.strongRecOn with
  | ind n ih =>
    by_cases h10 : n < 10
    · rw [Lib.nDigits_small h10]; simpa using h
    · rw [Lib.nDigits_big h10, Nat.add_sub_cancel]
      have i := ih (n / 10) (by omega) (by omega)
      have hp := Lib.nDigits_pos (n / 10)
      obtain ⟨k, hk⟩ : ∃ k, Lib.nDigits (n / 10) = k + 1 := ⟨Lib.nDigits (n / 10) - 1, by omega⟩
      rw [hk] at i ⊢
      rw [Nat.add_sub_cancel] at i
      rw [Nat.pow_succ]
      omega
theorem nDigits_18 (n : Nat) : Lib.nDigits n ≤ 18 ↔ n < 1000000000000000000 := by
  have e18 : (10 : Nat) ^ 18 = 1000000000000000000 := by decide
  constructor
  · intro h
    have h1 := Lib.lt_pow_nDigits n
    have h2 : (10 : Nat) ^ Lib.nDigits n ≤ 10 ^ 18 := Nat.pow_le_pow_right (by omega) h
    omega
  · intro h
    by_cases hn : 1 ≤ n
    · have h1 := nDigits_low n hn
      by_cases h2 : Lib.nDigits n ≤ 18
      · exact h2
      · have h3 : (10 : Nat) ^ 18 ≤ 10 ^ (Lib.nDigits n - 1) := Nat.pow_le_pow_right (by omega) (by omega)
        omega
    · rw [Lib.nDigits_small (by omega)]; omega
theorem txt_18 (n : Nat) : 18 < (txt n).size ↔ 999999999999999999 < n := by
  have e : (txt n).size = Lib.nDigits n := by
    show (Lib.decDigits n).toArray.size = _
    rw [← Lib.decDigits_length n]; simp
  rw [e]
  have := nDigits_18 n
  omega
theorem plain_dec {n : Nat} (h : n < 1000000000000000000) : plainB (Lib.decDigits n) = true := by
  obtain ⟨h1, h2, h3, h4, h5⟩ := dec_props n
  have hl := Lib.decDigits_length n
  have h18 := (nDigits_18 n).2 h
  have hp := Lib.nDigits_pos n
  unfold plainB
  rw [h1]
  have hf : firstB (Lib.decDigits n) = false := by
    by_cases h10 : n < 10
    · rw [Lib.decDigits_one h10]; rfl
    · have := h4 (by omega)
      cases e : Lib.decDigits n with
      | nil => rfl
      | cons c r =>
        rw [e] at this
        cases r with
        | nil => rfl
        | cons d r' => simp only [firstB]; simpa [headNZ] using this
  rw [hf]
  simp [inB]
  omega
theorem decFrom_val : ∀ (l : List UInt8) (acc : Nat), l.all digB = true → Lib.decFrom acc l = some (l.foldl (fun n c => n * 10 + (c.toNat - 48)) acc)
  | [], acc, _ => rfl
  | c :: r, acc, h => by
    simp only [List.all_cons, Bool.and_eq_true] at h
    have hc := h.1
    simp only [digB, Bool.and_eq_true, decide_eq_true_eq] at hc
    rw [Lib.decFrom]
    have e : Lib.digitVal c = some (c.toNat - 48) := by unfold Lib.digitVal; rw [if_pos hc]
    rw [e]
    exact decFrom_val r _ h.2
theorem fold_val : ∀ (l : List UInt8) (acc : Nat), l.all digB = true → ((l.foldl (fun n c => n * 10 + (c.toNat - 48)) acc : Nat) : Int) = l.foldl (fun n c => 10 * n + ((c.toNat : Int) - 48)) (acc : Int)
  | [], acc, _ => rfl
  | c :: r, acc, h => by
    simp only [List.all_cons, Bool.and_eq_true] at h
    have hc := h.1
    simp only [digB, Bool.and_eq_true, decide_eq_true_eq] at hc
    rw [List.foldl_cons, List.foldl_cons, fold_val r _ h.2]
    congr 1
    omega
theorem atoi_plain {l : List UInt8} (h : plainB l = true) : Lib.atoiAll l = .ok (val l) := by
  unfold plainB at h
  simp only [inB, Bool.and_eq_true, decide_eq_true_eq] at h
  obtain ⟨⟨⟨h1, h2⟩, _⟩, h3⟩ := h
  rw [Lib.atoiAll_short l (by omega)]
  cases l with
  | nil => simp at h1
  | cons c r =>
    have hc := h3
    simp only [List.all_cons, Bool.and_eq_true] at hc
    have hd := hc.1
    simp only [digB, Bool.and_eq_true, decide_eq_true_eq] at hd
    have n45 : (c == 45) = false := by
      rw [beq_eq_false_iff_ne]; intro e; rw [e] at hd; simp at hd
    have n43 : (c == 43) = false := by
      rw [beq_eq_false_iff_ne]; intro e; rw [e] at hd; simp at hd
    show Lib.NumEnd.ofOption (if (c == 45) = true then (Lib.decNat r).map (fun (m : Nat) => -(m : Int)) else if (c == 43) = true then (Lib.decNat r).map (fun (m : Nat) => (m : Int)) else (Lib.decNat (c :: r)).map (fun (m : Nat) => (m : Int))) = _
    rw [n45, n43]
    have e : Lib.decNat (c :: r) = some ((c :: r).foldl (fun n c => n * 10 + (c.toNat - 48)) 0) := by
      unfold Lib.decNat
      rw [if_neg (by simp)]
      exact decFrom_val _ 0 h3
    simp only [Bool.false_eq_true, if_false, e, Option.map_some]
    have ef := fold_val (c :: r) 0 h3
    rw [ef]
    rfl
theorem rd_eq (l : List UInt8) : rdB l 999999999999999999 = if plainB l = true then some (val l) else none := by
  by_cases h : plainB l = true
  · rw [if_pos h]
    unfold rdB
    rw [atoi_plain h]
    have hp := h
    unfold plainB at hp
    simp only [inB, Bool.and_eq_true, decide_eq_true_eq] at hp
    obtain ⟨⟨⟨h1, h2⟩, h4⟩, h3⟩ := hp
    have hv := val_18 l h3 (by omega)
    have hne : l ≠ [] := by intro e; rw [e] at h1; simp at h1
    have hz : l.length = 1 ∨ headNZ l := by
      cases l with
      | nil => exact absurd rfl hne
      | cons c r =>
        cases r with
        | nil => left; rfl
        | cons d r' => right; simp only [firstB] at h4; simpa [headNZ] using h4
    have hi : Lib.itoa (val l) = l := by
      unfold Lib.itoa
      rw [if_neg (by omega)]
      exact canon h3 hz hne
    simp only
    rw [if_pos ⟨by omega, by omega, hi⟩]
  · rw [if_neg h]
    unfold rdB
    cases e : Lib.atoiAll l with
    | ok v =>
      simp only
      rw [if_neg]
      rintro ⟨h0, h1, h2⟩
      apply h
      unfold Lib.itoa at h2
      rw [if_neg (by omega)] at h2
      rw [← h2]
      exact plain_dec (by omega)
    | «syntax» => rfl
    | range => rfl
/-- What the program's CountText hands back. -/
theorem count_eq (l : List UInt8) (m : Int) (down : Bool) : countB l m down = match rdB l 999999999999999999 with
    | some v => if inB m 0 1000000000 = true then if 999999999999999999 < res v m down then none else some (txt (res v m down).toNat) else none
    | none => none := by
  rw [rd_eq]
  unfold countB
  by_cases h1 : inB l.length 1 18 = true
  · by_cases h2 : firstB l = true
    · have : ¬ plainB l = true := by unfold plainB; simp [h2]
      rw [if_pos h1, if_pos h2, if_neg this]
    · by_cases h3 : l.all digB = true
      · have hp : plainB l = true := by unfold plainB; rw [h1, h3]; simp at h2; simp [h2]
        rw [if_pos h1, if_neg h2, if_pos hp]
        simp only
        by_cases h4 : inB m 0 1000000000 = true
        · rw [if_pos h4, if_pos h3, if_pos h4]
          have hr : 0 ≤ res (val l) m down := by unfold res; split <;> omega
          have ht := txt_18 (res (val l) m down).toNat
          by_cases h5 : 999999999999999999 < res (val l) m down
          · rw [if_pos h5, if_pos (ht.2 (by omega))]
          · rw [if_neg h5, if_neg (fun e => by have := ht.1 e; omega)]
        · rw [if_neg h4, if_neg h4]
      · have : ¬ plainB l = true := by unfold plainB; rw [Bool.eq_false_iff.2 h3]; simp
        rw [if_pos h1, if_neg h2, if_neg this]
        simp only [if_neg h3]
        split <;> rfl
  · have : ¬ plainB l = true := by unfold plainB; rw [Bool.eq_false_iff.2 h1]; simp
    rw [if_neg h1, if_neg this]
end Count
end Go.Proofs.YtkdcofmpbmiloaaGreatDoor
/-
  The program's readNumber, over what the library's variables hold: what they answer, by the plain functions.
-/
namespace Go.Proofs.YtkdcofmpbmiloaaGreatDoor
namespace Count
open Go.RowKit Base GoodKey NumText
set_option linter.unusedVariables false

/-- What the library's variables hold. -/
structure Vars (w : World) : Prop where
  tab : Lib.TabIs Tryz.prog w "internal/strconv.uint64pow10" .u64 Lib.pow10Tab
  syn : ∃ tp p, w.var? Tryz.prog "strconv.ErrSyntax" = some #[.iface tp p]
  rng : ∃ tp p, w.var? Tryz.prog "strconv.ErrRange" = some #[.iface tp p]
theorem var_below {P : Program} {w w' : World} {name : String} {cs : Array Value} (h : w.var? P name = some cs) (hb : Below w.heap.size w w') : w'.var? P name = some cs := by
  unfold World.var? at *
  cases e : P.globalNamed name with
  | none => rw [e] at h; simp at h
  | some g =>
    rw [e] at h
    simp only [Option.bind_some] at h ⊢
    by_cases hg : g < w.heap.size
    · rw [hb.block g hg]; exact h
    · rw [Array.getElem?_eq_none (by omega)] at h; simp at h
theorem Vars.below {w w' : World} (h : Vars w) (hb : Below w.heap.size w w') : Vars w' := by
  obtain ⟨t, ⟨tp, p, hs⟩, ⟨tq, q, hr⟩⟩ := h
  exact ⟨var_below t hb, ⟨tp, p, var_below hs hb⟩, ⟨tq, q, var_below hr hb⟩⟩

theorem grow_below (w : World) (k : Nat) (os : Array Obj) : Below w.heap.size w (Go.Sort.grow (w.drewN k) os) :=
  ⟨rfl, rfl, rfl, by show w.heap.size ≤ (w.heap ++ os).size; simp, fun i hi => by show (w.heap ++ os)[i]? = w.heap[i]?; rw [Array.getElem?_append_left hi]⟩
theorem itoa_any (n : Int) (w : World) (h0 : 0 ≤ n) (h1 : n ≤ 9223372036854775807) (hv : Vars w) : Calls Tryz.prog 92 #[.int .i64 n] w fun e w' => e = .returned (.string (txt n.toNat)) ∧ Below w.heap.size w w' := by
  refine (Tryz.strconv_Itoa n (by omega) h1 w hv.tab).mono ?_
  rintro e w' ⟨rfl, k, os, rfl⟩
  refine ⟨?_, grow_below w k os⟩
  have e1 : Lib.itoa n = Lib.decDigits n.toNat := by unfold Lib.itoa; rw [if_neg (by omega)]
  rw [e1]
  rfl
/-- Atoi: the number and whether there is an error. -/
theorem atoi_any (s : ByteArray) (w : World) (hs : s.size ≤ 1048576) (hv : Vars w) : Calls Tryz.prog 94 #[.string s] w fun e w' => Below w.heap.size w w' ∧
    ((∃ v, Lib.atoiAll s.data.toList = .ok v ∧ e = .returned (.tuple #[.int .i64 v, .nilIface])) ∨ (∃ v tp q, (∀ u, Lib.atoiAll s.data.toList ≠ .ok u) ∧ e = .returned (.tuple #[.int .i64 v, .iface tp q]))) := by
  obtain ⟨t, ⟨tp, p, hsy⟩, ⟨tq, q, hr⟩⟩ := hv
  cases e : Lib.atoiAll s.data.toList with
  | ok v =>
    refine (Tryz.strconv_Atoi_ok s (by omega) v e w).mono ?_
    rintro e' w' ⟨rfl, h⟩
    refine ⟨?_, .inl ⟨v, rfl, rfl⟩⟩
    rcases h with rfl | ⟨t, rfl⟩
    · exact Below.refl _ _
    · exact Lib.bytesWorld_below w _ t
  | «syntax» =>
    refine (Tryz.strconv_Atoi_syntax_var s (by omega) e tp p w hsy).mono ?_
    rintro e' w' ⟨N, rfl, _, _, hb⟩
    exact ⟨hb, .inr ⟨_, _, _, by simp, rfl⟩⟩
  | range =>
    refine (Tryz.strconv_Atoi_range_var s (by omega) e tq q w hr).mono ?_
    rintro e' w' ⟨N, rfl, _, _, hb⟩
    exact ⟨hb, .inr ⟨_, _, _, by simp, rfl⟩⟩

def rdV : Option Int → Value
  | some v => .tuple #[.int .i64 v, .bool true]
  | none => .tuple #[.int .i64 0, .bool false]
theorem rd_no {l : List UInt8} {most : Int} (h : ∀ u, Lib.atoiAll l ≠ .ok u) : rdB l most = none := by
  unfold rdB
  cases e : Lib.atoiAll l with
  | ok v => exact absurd e (h v)
  | «syntax» => rfl
  | range => rfl
theorem rd_cond {l : List UInt8} {most v : Int} (h : Lib.atoiAll l = .ok v) : rdB l most = if 0 ≤ v ∧ v ≤ most ∧ Lib.itoa v = l then some v else none := by
  unfold rdB; rw [h]
theorem itoa_txt {v : Int} (h : 0 ≤ v) (s : ByteArray) : txt v.toNat = s ↔ Lib.itoa v = s.data.toList := by
  have e : Lib.itoa v = Lib.decDigits v.toNat := by unfold Lib.itoa; rw [if_neg (by omega)]
  rw [e]
  constructor
  · intro h; rw [← h]; rfl
  · intro h; apply Go.WideShapes.bytes_inj; rw [← h]; rfl

set_option maxRecDepth 10000 in
set_option maxHeartbeats 1000000 in
theorem readNumber_any (s : ByteArray) (most : Int) (w : World) (hs : s.size ≤ 1048576) (h0 : 0 ≤ most) (h1 : most ≤ 9000000000000000000) (hv : Vars w) :
    Calls Tryz.prog 91 #[.string s, .int .i64 most] w fun e w' => e = .returned (rdV (rdB s.data.toList most)) ∧ Below w.heap.size w w' := by
  have HV := hide hv
  clear hv
  go_enter Tryz.func91, Tryz.ntmps91
  go_wp2_with fail
  refine (atoi_any s _ hs (unhide HV)).mono ?_
  rintro e w1 ⟨hb1, h⟩
  have HB1 := hide hb1
  have HV1 := hide ((unhide HV).below hb1)
  clear hb1
  rcases h with ⟨v, ha, rfl⟩ | ⟨v, tp, q, ha, rfl⟩
  · have HC := hide (rd_cond (most := most) ha)
    obtain ⟨b1, b2⟩ := Lib.atoiAll_bounds ha
    clear ha
    by_cases g0 : v < 0
    · have H : Hid (rdB s.data.toList most = none) := by show _ = _; rw [unhide HC, if_neg (by omega)]
      clear HC
      go_wp2_with fail
      go_ret2
      exact ⟨by rw [unhide H]; rfl, unhide HB1⟩
    by_cases g1 : most < v
    · have H : Hid (rdB s.data.toList most = none) := by show _ = _; rw [unhide HC, if_neg (by omega)]
      clear HC
      go_wp2_with fail
      go_ret2
      exact ⟨by rw [unhide H]; rfl, unhide HB1⟩
    have hit := itoa_any v w1 (by omega) (by omega) (unhide HV1)
    have hiff := itoa_txt (show 0 ≤ v by omega) s
    by_cases g2 : txt v.toNat = s
    · have H : Hid (rdB s.data.toList most = some v) := by show _ = _; rw [unhide HC, if_pos ⟨by omega, by omega, hiff.1 g2⟩]
      have HI := hide hit
      have heq := str_eq g2
      generalize txt v.toNat = t at HI heq
      clear HC hit hiff g2
      go_wp2_with fail
      refine (unhide HI).mono ?_
      rintro e w2 ⟨rfl, hb2⟩
      have HB2 := hide ((unhide HB1).trans (hb2.mono (unhide HB1).size))
      clear hb2
      go_wp2
      go_ret2
      exact ⟨by rw [unhide H]; rfl, unhide HB2⟩
    · have H : Hid (rdB s.data.toList most = none) := by show _ = _; rw [unhide HC, if_neg (fun hh => g2 (hiff.2 hh.2.2))]
      have HI := hide hit
      have heq := str_ne g2
      generalize txt v.toNat = t at HI heq
      clear HC hit hiff g2
      go_wp2_with fail
      refine (unhide HI).mono ?_
      rintro e w2 ⟨rfl, hb2⟩
      have HB2 := hide ((unhide HB1).trans (hb2.mono (unhide HB1).size))
      clear hb2
      go_wp2
      go_ret2
      exact ⟨by rw [unhide H]; rfl, unhide HB2⟩
  · have H := hide (rd_no (most := most) ha)
    clear ha
    go_wp2_with fail
    go_ret2
    exact ⟨by rw [unhide H]; rfl, unhide HB1⟩

theorem ret_cnt {o p : Option ByteArray} (h : o = p) : Ending.returned (countV o) = .returned (countV p) := by rw [h]
theorem wf_bounds {m : Int} (h : (Lit.int .i64 m).wf = true) : -9223372036854775808 ≤ m ∧ m ≤ 9223372036854775807 := by
  simp only [Lit.wf, Bool.and_eq_true, decide_eq_true_eq] at h
  exact h
end Count
end Go.Proofs.YtkdcofmpbmiloaaGreatDoor
/-
  The program's CountText, over what the library's variables hold: what they answer, by the plain functions.
-/
namespace Go.Proofs.YtkdcofmpbmiloaaGreatDoor
namespace Count
open Go.RowKit Base GoodKey NumText
set_option linter.unusedVariables false

set_option maxRecDepth 10000 in
set_option maxHeartbeats 1000000 in
theorem count_any (s : ByteArray) (m : Int) (down : Bool) (w : World) (hs : s.size ≤ 1048576) (hm : (Lit.int .i64 m).wf = true) (hv : Vars w) :
    Calls Tryz.prog 81 #[.string s, .int .i64 m, .bool down] w fun e w' => e = .returned (countV (countB s.data.toList m down)) ∧ Below w.heap.size w w' := by
  have hmb := wf_bounds hm
  have HC := hide (count_eq s.data.toList m down)
  have hrd := readNumber_any s 999999999999999999 w hs (by omega) (by omega) hv
  have hbd : ∀ v, rdB s.data.toList 999999999999999999 = some v → 0 ≤ v ∧ v ≤ 999999999999999999 := by
    intro v e
    unfold rdB at e
    cases e2 : Lib.atoiAll s.data.toList with
    | ok u =>
      rw [e2] at e
      simp only at e
      split at e
      · rename_i hh; simp at e; omega
      · simp at e
    | «syntax» => rw [e2] at e; simp at e
    | range => rw [e2] at e; simp at e
  generalize rdB s.data.toList 999999999999999999 = o at HC hrd hbd
  have HV := hide hv
  have HR := hide hrd
  clear hrd hv hm
  cases o with
  | none =>
    clear hbd
    go_enter Tryz.func81, Tryz.ntmps81
    go_wp2_with fail
    refine (unhide HR).mono ?_
    rintro e w1 ⟨rfl, hb1⟩
    have HB1 := hide hb1
    clear hb1
    unfold rdV
    go_wp2
    go_ret2
    exact ⟨ret_cnt (o := none) (unhide HC).symm, unhide HB1⟩
  | some v =>
    obtain ⟨v0, v1⟩ := hbd v rfl
    clear hbd
    simp only at HC
    by_cases g1 : inB m 0 1000000000 = true
    · have g1' : 0 ≤ m ∧ m ≤ 1000000000 := by simp [inB] at g1; omega
      rw [if_pos g1] at HC
      clear g1
      cases down with
      | true =>
        obtain ⟨r, hr, hr0, hr1, hrr⟩ : ∃ r : Int, r = res v m true ∧ 0 ≤ r ∧ r ≤ 999999999999999999 ∧ r = max 0 (v - m) := by
          refine ⟨res v m true, rfl, ?_, ?_, ?_⟩
          · unfold res; simp; split <;> omega
          · unfold res; simp; split <;> omega
          · unfold res; simp; omega
        rw [← hr, if_neg (by omega)] at HC
        have HI := hide (fun w' (h : Vars w') => itoa_any r w' hr0 (by omega) h)
        clear hr
        subst hrr
        all_goals
          go_enter Tryz.func81, Tryz.ntmps81
          go_wp2_with fail
          refine (unhide HR).mono ?_
          rintro e w1 ⟨rfl, hb1⟩
          have HB1 := hide hb1
          have HV1 := hide ((unhide HV).below hb1)
          clear hb1
          unfold rdV
          go_wp2_with fail
          refine (unhide HI _ (unhide HV1)).mono ?_
          rintro e w2 ⟨rfl, hb2⟩
          have HB2 := hide ((unhide HB1).trans (hb2.mono (unhide HB1).size))
          clear hb2
          go_wp2
          go_ret2
          exact ⟨ret_cnt (o := some _) (unhide HC).symm, unhide HB2⟩
      | false =>
        obtain ⟨r, hr, hrr⟩ : ∃ r : Int, r = res v m false ∧ r = v + m := by
          refine ⟨res v m false, rfl, ?_⟩
          unfold res; simp; omega
        rw [← hr] at HC
        clear hr
        by_cases g : 999999999999999999 < r
        · rw [if_pos g] at HC
          subst hrr
          go_enter Tryz.func81, Tryz.ntmps81
          go_wp2_with fail
          refine (unhide HR).mono ?_
          rintro e w1 ⟨rfl, hb1⟩
          have HB1 := hide hb1
          clear hb1
          unfold rdV
          go_wp2
          go_ret2
          exact ⟨ret_cnt (o := none) (unhide HC).symm, unhide HB1⟩
        · rw [if_neg g] at HC
          have HI := hide (fun w' (h : Vars w') => itoa_any r w' (by omega) (by omega) h)
          subst hrr
          generalize txt (v + m).toNat = t at HC HI
          go_enter Tryz.func81, Tryz.ntmps81
          go_wp2_with fail
          refine (unhide HR).mono ?_
          rintro e w1 ⟨rfl, hb1⟩
          have HB1 := hide hb1
          have HV1 := hide ((unhide HV).below hb1)
          clear hb1
          unfold rdV
          go_wp2_with fail
          refine (unhide HI _ (unhide HV1)).mono ?_
          rintro e w2 ⟨rfl, hb2⟩
          have HB2 := hide ((unhide HB1).trans (hb2.mono (unhide HB1).size))
          clear hb2
          go_wp2
          go_ret2
          exact ⟨ret_cnt (o := some t) (unhide HC).symm, unhide HB2⟩
    · have g1' : m < 0 ∨ 1000000000 < m := by simp [inB] at g1; omega
      rw [if_neg g1] at HC
      clear g1
      rcases g1' with g | g
      all_goals
        go_enter Tryz.func81, Tryz.ntmps81
        go_wp2_with fail
        refine (unhide HR).mono ?_
        rintro e w1 ⟨rfl, hb1⟩
        have HB1 := hide hb1
        clear hb1
        unfold rdV
        go_wp2
        go_ret2
        exact ⟨ret_cnt (o := none) (unhide HC).symm, unhide HB1⟩
end Count
end Go.Proofs.YtkdcofmpbmiloaaGreatDoor
/-
  An item as it is told, as plain data. No Go function is spoken of here.
-/
namespace Go.Proofs.YtkdcofmpbmiloaaGreatDoor
namespace Shelf
open Go.RowKit Base Items Store GoodKey NumText
set_option linter.unusedVariables false

def valueS : ByteArray := ⟨#[86, 65, 76, 85, 69, 32]⟩
def blankS : ByteArray := ⟨#[32]⟩
def endS : ByteArray := ⟨#[13, 10]⟩
/-- The line ahead of an item's data, without its token. -/
def lineR (x : Itm) : ByteArray := valueS ++ x.key ++ blankS ++ txt x.flags.toNat ++ blankS ++ txt x.data.size
def valueR (x : Itm) (token : Bool) : ByteArray := (if token then lineR x ++ (blankS ++ txt x.token.toNat) else lineR x) ++ endS ++ x.data ++ endS
theorem txt_le (n : Nat) (h : n < 18446744073709551616) : (txt n).size ≤ 20 := by
  have e : (txt n).size = Lib.nDigits n := by
    show (Lib.decDigits n).toArray.size = _
    rw [← Lib.decDigits_length n]; simp
  rw [e]; exact Lib.nDigits_le20 n h
theorem bx5' (w : World) (t : TypeId) (v0 v1 v2 v3 v4 : Value) : (w.alloc (.cells #[v0, v1, v2, v3, v4] t)).cell? ⟨w.heap.size, 0, none⟩ = some v0 ∧ (w.alloc (.cells #[v0, v1, v2, v3, v4] t)).cell? ⟨w.heap.size, 1, none⟩ = some v1 ∧
    (w.alloc (.cells #[v0, v1, v2, v3, v4] t)).cell? ⟨w.heap.size, 2, none⟩ = some v2 ∧ (w.alloc (.cells #[v0, v1, v2, v3, v4] t)).cell? ⟨w.heap.size, 3, none⟩ = some v3 ∧ (w.alloc (.cells #[v0, v1, v2, v3, v4] t)).cell? ⟨w.heap.size, 4, none⟩ = some v4 := by
  refine ⟨?_, ?_, ?_, ?_, ?_⟩ <;> (rw [World.cell?_alloc_new]; rfl)
end Shelf
end Go.Proofs.YtkdcofmpbmiloaaGreatDoor
/-
  strconv.Itoa over what the library's table holds.
-/
namespace Go.Proofs.YtkdcofmpbmiloaaGreatDoor
namespace Tab
open Go.RowKit Base NumText
set_option linter.unusedVariables false

/-- What the library's table holds. -/
def Has (w : World) : Prop := Lib.TabIs Tryz.prog w "internal/strconv.uint64pow10" .u64 Lib.pow10Tab
theorem var_below {P : Program} {w w' : World} {name : String} {cs : Array Value} (h : w.var? P name = some cs) (hb : Below w.heap.size w w') : w'.var? P name = some cs := by
  unfold World.var? at *
  cases e : P.globalNamed name with
  | none => rw [e] at h; simp at h
  | some g =>
    rw [e] at h
    simp only [Option.bind_some] at h ⊢
    by_cases hg : g < w.heap.size
    · rw [hb.block g hg]; exact h
    · rw [Array.getElem?_eq_none (by omega)] at h; simp at h
theorem Has.below {w w' : World} (h : Has w) (hb : Below w.heap.size w w') : Has w' := var_below h hb
theorem grow_below (w : World) (k : Nat) (os : Array Obj) : Below w.heap.size w (Go.Sort.grow (w.drewN k) os) :=
  ⟨rfl, rfl, rfl, by show w.heap.size ≤ (w.heap ++ os).size; simp, fun i hi => by show (w.heap ++ os)[i]? = w.heap[i]?; rw [Array.getElem?_append_left hi]⟩
theorem itoa_any (n : Int) (w : World) (h0 : 0 ≤ n) (h1 : n ≤ 9223372036854775807) (hv : Has w) : Calls Tryz.prog 92 #[.int .i64 n] w fun e w' => e = .returned (.string (txt n.toNat)) ∧ Below w.heap.size w w' := by
  refine (Tryz.strconv_Itoa n (by omega) h1 w hv).mono ?_
  rintro e w' ⟨rfl, k, os, rfl⟩
  refine ⟨?_, grow_below w k os⟩
  have e1 : Lib.itoa n = Lib.decDigits n.toNat := by unfold Lib.itoa; rw [if_neg (by omega)]
  rw [e1]
  rfl
end Tab
end Go.Proofs.YtkdcofmpbmiloaaGreatDoor
/-
  The program's valueText: an item as it is told.
-/
namespace Go.Proofs.YtkdcofmpbmiloaaGreatDoor
namespace Shelf
open Go.RowKit Base Items Store GoodKey NumText
set_option linter.unusedVariables false

set_option maxRecDepth 10000 in
set_option maxHeartbeats 1000000 in
theorem valueText_gen (x : Itm) (token : Bool) (w : World) (hx : Small x) (h1 : 0 ≤ x.flags ∧ x.flags ≤ 1000000000) (h2 : token = true → 0 ≤ x.token ∧ x.token ≤ 1000000000) (hv : Tab.Has w) :
    Calls Tryz.prog 89 #[.agg #[.string x.key, .int .i64 x.flags, .string x.data, .int .i64 x.upto, .int .i64 x.token], .bool token] w fun e w' => e = .returned (.string (valueR x token)) ∧ Below w.heap.size w w' := by
  obtain ⟨hk, hd⟩ := hx
  have hbel : ∀ d os, Below w.heap.size w (Go.Sort.grow (redrawn (w.alloc (.cells #[.string x.key, .int .i64 x.flags, .string x.data, .int .i64 x.upto, .int .i64 x.token] 37)) d) os) := fun d os => (bel1 w _).trans ((below_regrown _ d os).mono (by simp))
  have cI := fun (n : Int) (h0 : 0 ≤ n) (hn : n ≤ 9223372036854775807) d os => Calls.regrown_of (Tab.itoa_any n (Go.Sort.grow (redrawn (w.alloc (.cells #[.string x.key, .int .i64 x.flags, .string x.data, .int .i64 x.upto, .int .i64 x.token] 37)) d) os) h0 hn (hv.below (hbel d os)))
  have c1 := cI x.flags h1.1 (by omega)
  have c2 := cI (x.data.size : Int) (by omega) (by omega)
  simp only [Int.toNat_natCast] at c2
  have s1 := txt_le x.flags.toNat (by omega)
  have s2 := txt_le x.data.size (by omega)
  have s3 : token = true → (txt x.token.toNat).size ≤ 20 := fun h => txt_le x.token.toNat (by have := h2 h; omega)
  have hi3 := hide (fun (ht : token = true) w' (h : Tab.Has w') => Tab.itoa_any x.token w' (h2 ht).1 (by have := h2 ht; omega) h)
  clear h2
  have HV := hide hv
  have HR : Hid (∀ t, t = valueR x token → Ending.returned (.string t) = .returned (.string (valueR x token))) := fun t h => by rw [h]
  obtain ⟨k0, k1, k2, k3, k4⟩ := bx5' w 37 (.string x.key) (.int .i64 x.flags) (.string x.data) (.int .i64 x.upto) (.int .i64 x.token)
  have p0 := cell_regrown k0
  have p1 := cell_regrown k1
  have p2 := cell_regrown k2
  have hmix : Tryz.prog.follows .mixedOrders = true := by kernel_rfl
  clear cI hv
  generalize ht1 : txt x.flags.toNat = t1 at c1 s1
  generalize ht2 : txt x.data.size = t2 at c2 s2
  generalize ht3 : txt x.token.toNat = t3 at hi3 s3
  have HT := hide (And.intro ht1 (And.intro ht2 ht3))
  clear ht1 ht2 ht3
  have n1 : ¬ 9223372036854775807 < 6 + x.key.size := by omega
  have n2 : ¬ 9223372036854775807 < 6 + x.key.size + 1 := by omega
  have n3 : ¬ 9223372036854775807 < 6 + x.key.size + 1 + t1.size := by omega
  have n4 : ¬ 9223372036854775807 < 6 + x.key.size + 1 + t1.size + 1 := by omega
  have n5 : ¬ 9223372036854775807 < 6 + x.key.size + 1 + t1.size + 1 + t2.size := by omega
  go_enter Tryz.func89, Tryz.ntmps89
  go_wp2_with fail
  refine wp_region_quiet_below hmix (by kernel_rfl) ?_
  repeat (quiet_step (first | exact c1 _ _ | exact c2 _ _))
  refine wpQuiet_nil ?_
  intro _ hw'
  obtain ⟨⟨dq, osq⟩, hw''⟩ := hw'
  subst hw''
  have hbw := hide (hbel dq osq)
  have q2 := p2 dq osq
  have q4 := cell_regrown k4 dq osq
  have HVc := hide ((unhide HV).below (unhide hbw))
  generalize (Go.Sort.grow (redrawn (w.alloc (.cells #[.string x.key, .int .i64 x.flags, .string x.data, .int .i64 x.upto, .int .i64 x.token] 37)) dq) osq) = wc at hbw q2 q4 HVc ⊢
  clear p0 p1 p2 c1 c2 k0 k1 k2 k3 k4 hbel
  have hls : (({ data := #[86, 65, 76, 85, 69, 32] } : ByteArray) ++ x.key ++ { data := #[32] } ++ t1 ++ { data := #[32] } ++ t2).size = 6 + x.key.size + 1 + t1.size + 1 + t2.size := by simp [ByteArray.size_append]; rfl
  generalize hl : (({ data := #[86, 65, 76, 85, 69, 32] } : ByteArray) ++ x.key ++ { data := #[32] } ++ t1 ++ { data := #[32] } ++ t2) = l at hls ⊢
  have HL := hide hl
  clear hl
  have m1 : ¬ 9223372036854775807 < l.size + 2 := by omega
  have m2 : ¬ 9223372036854775807 < l.size + 2 + x.data.size := by omega
  have m3 : ¬ 9223372036854775807 < l.size + 2 + x.data.size + 2 := by omega
  cases token
  · go_wp2
    refine bodyPost_ret (v := .string (l ++ endS ++ x.data ++ endS)) (by simp [results, Tryz.results89, go_sem, endS]; done) rfl ⟨unhide HR _ ?_, unhide hbw⟩
    obtain ⟨e1, e2, e3⟩ := unhide HT
    unfold valueR lineR
    rw [e1, e2]
    exact congrArg (fun b => b ++ endS ++ x.data ++ endS) (unhide HL).symm
  · have s3 := s3 rfl
    have hi4 := hide (unhide hi3 rfl)
    clear hi3
    have m4 : ¬ 9223372036854775807 < 1 + t3.size := by omega
    have m5 : ¬ 9223372036854775807 < l.size + (1 + t3.size) := by omega
    go_wp2_with fail
    refine (unhide hi4 _ (unhide HVc)).mono ?_
    rintro _ wd ⟨rfl, hbd⟩
    have q5 : wd.cell? ⟨w.heap.size, 2, none⟩ = some (.string x.data) := by rw [hbd.cell (block_lt_of_cell q2)]; exact q2
    have HBD := hide (Below.trans (unhide hbw) (hbd.mono (unhide hbw).size))
    clear hbd q2 q4
    have hls2 : (l ++ (({ data := #[32] } : ByteArray) ++ t3)).size = l.size + (1 + t3.size) := by simp [ByteArray.size_append]; rfl
    have m6 : ¬ 9223372036854775807 < l.size + (1 + t3.size) + 2 := by omega
    have m7 : ¬ 9223372036854775807 < l.size + (1 + t3.size) + 2 + x.data.size := by omega
    have m8 : ¬ 9223372036854775807 < l.size + (1 + t3.size) + 2 + x.data.size + 2 := by omega
    go_wp2
    refine bodyPost_ret (v := .string (l ++ (blankS ++ t3) ++ endS ++ x.data ++ endS)) (by simp [results, Tryz.results89, go_sem, endS, blankS]; done) rfl ⟨unhide HR _ ?_, unhide HBD⟩
    obtain ⟨e1, e2, e3⟩ := unhide HT
    unfold valueR lineR
    rw [e1, e2, e3]
    exact congrArg (fun b => b ++ (blankS ++ t3) ++ endS ++ x.data ++ endS) (unhide HL).symm
end Shelf
end Go.Proofs.YtkdcofmpbmiloaaGreatDoor
/-
  The model's l2Value: an item as it is told.
-/
namespace Go.Proofs.YtkdcofmpbmiloaaGreatDoor
namespace Shelf
open Go.RowKit Base Items Store GoodKey NumText
set_option linter.unusedVariables false

set_option maxRecDepth 10000 in
set_option maxHeartbeats 1000000 in
theorem l2Value_gen (x : Itm) (token : Bool) (w : World) (hx : Small x) (h1 : 0 ≤ x.flags ∧ x.flags ≤ 1000000000) (h2 : token = true → 0 ≤ x.token ∧ x.token ≤ 1000000000) :
    Calls Tryz.prog 71 #[.agg #[.string x.key, .int .i64 x.flags, .string x.data, .int .i64 x.upto, .int .i64 x.token], .bool token] w fun e w' => e = .returned (.string (valueR x token)) ∧ Below w.heap.size w w' := by
  obtain ⟨hk, hd⟩ := hx
  have hbel : ∀ d os, Below w.heap.size w (Go.Sort.grow (redrawn (w.alloc (.cells #[.string x.key, .int .i64 x.flags, .string x.data, .int .i64 x.upto, .int .i64 x.token] 37)) d) os) := fun d os => (bel1 w _).trans ((below_regrown _ d os).mono (by simp))
  obtain ⟨T, HTT⟩ : ∃ T : Int → ByteArray, Hid (∀ n, T n = txt n.toNat) := ⟨fun n => txt n.toNat, fun _ => rfl⟩
  have cI : ∀ (n : Int), 0 ≤ n → n ≤ 1000000000 → ∀ d os, Calls Tryz.prog 84 #[.int .i64 n] (Go.Sort.grow (redrawn (w.alloc (.cells #[.string x.key, .int .i64 x.flags, .string x.data, .int .i64 x.upto, .int .i64 x.token] 37)) d) os) fun e w' => e = .returned (.string (T n)) ∧ ∃ p : Regrown, w' = Go.Sort.grow (redrawn (w.alloc (.cells #[.string x.key, .int .i64 x.flags, .string x.data, .int .i64 x.upto, .int .i64 x.token] 37)) p.1) p.2 := fun n h0 hn d os => by
    rw [unhide HTT n]
    exact Calls.regrown_of (num_any n _ h0 (by omega))
  have s1 : (T x.flags).size ≤ 20 := by rw [unhide HTT]; exact txt_le x.flags.toNat (by omega)
  have s2 : (T (x.data.size : Int)).size ≤ 20 := by rw [unhide HTT]; exact txt_le _ (by omega)
  have s3 : token = true → (T x.token).size ≤ 20 := fun h => by rw [unhide HTT]; exact txt_le x.token.toNat (by have := h2 h; omega)
  have hi3 : Hid (token = true → ∀ w' : World, Calls Tryz.prog 84 #[.int .i64 x.token] w' fun e w'' => e = .returned (.string (T x.token)) ∧ Below w'.heap.size w' w'') := fun ht w' => by rw [unhide HTT]; exact num_any x.token w' (h2 ht).1 (by have := h2 ht; omega)
  clear h2
  have hf1 := h1.1
  have hf2 := h1.2
  have hds : (0 : Int) ≤ (x.data.size : Int) := by omega
  have hds2 : (x.data.size : Int) ≤ 1000000000 := by omega
  have HR : Hid (∀ t, t = valueR x token → Ending.returned (.string t) = .returned (.string (valueR x token))) := fun t h => by rw [h]
  obtain ⟨k0, k1, k2, k3, k4⟩ := bx5' w 37 (.string x.key) (.int .i64 x.flags) (.string x.data) (.int .i64 x.upto) (.int .i64 x.token)
  have p0 := cell_regrown k0
  have p1 := cell_regrown k1
  have p2 := cell_regrown k2
  have hmix : Tryz.prog.follows .mixedOrders = true := by kernel_rfl
  have HT : Hid (T x.flags = txt x.flags.toNat ∧ T (x.data.size : Int) = txt x.data.size ∧ T x.token = txt x.token.toNat) := ⟨unhide HTT _, unhide HTT _, unhide HTT _⟩
  have n1 : ¬ 9223372036854775807 < 6 + x.key.size := by omega
  have n2 : ¬ 9223372036854775807 < 6 + x.key.size + 1 := by omega
  have n3 : ¬ 9223372036854775807 < 6 + x.key.size + 1 + (T x.flags).size := by omega
  have n4 : ¬ 9223372036854775807 < 6 + x.key.size + 1 + (T x.flags).size + 1 := by omega
  have n5 : ¬ 9223372036854775807 < 6 + x.key.size + 1 + (T x.flags).size + 1 + (T (x.data.size : Int)).size := by omega
  go_enter Tryz.func71, Tryz.ntmps71
  go_wp2_with fail
  refine wp_region_quiet_below hmix (by kernel_rfl) ?_
  repeat (quiet_step (refine cI _ ?_ ?_ _ _ <;> assumption))
  refine wpQuiet_nil ?_
  intro _ hw'
  obtain ⟨⟨dq, osq⟩, hw''⟩ := hw'
  subst hw''
  have hbw := hide (hbel dq osq)
  have q2 := p2 dq osq
  have q4 := cell_regrown k4 dq osq
  generalize (Go.Sort.grow (redrawn (w.alloc (.cells #[.string x.key, .int .i64 x.flags, .string x.data, .int .i64 x.upto, .int .i64 x.token] 37)) dq) osq) = wc at hbw q2 q4 ⊢
  clear p0 p1 p2 cI k0 k1 k2 k3 k4 hbel
  have hls : (({ data := #[86, 65, 76, 85, 69, 32] } : ByteArray) ++ x.key ++ { data := #[32] } ++ (T x.flags) ++ { data := #[32] } ++ (T (x.data.size : Int))).size = 6 + x.key.size + 1 + (T x.flags).size + 1 + (T (x.data.size : Int)).size := by simp [ByteArray.size_append]; rfl
  generalize hl : (({ data := #[86, 65, 76, 85, 69, 32] } : ByteArray) ++ x.key ++ { data := #[32] } ++ (T x.flags) ++ { data := #[32] } ++ (T (x.data.size : Int))) = l at hls ⊢
  have HL := hide hl
  clear hl
  have m1 : ¬ 9223372036854775807 < l.size + 2 := by omega
  have m2 : ¬ 9223372036854775807 < l.size + 2 + x.data.size := by omega
  have m3 : ¬ 9223372036854775807 < l.size + 2 + x.data.size + 2 := by omega
  cases token
  · go_wp2
    refine bodyPost_ret (v := .string (l ++ endS ++ x.data ++ endS)) (by simp [results, Tryz.results71, go_sem, endS]; done) rfl ⟨unhide HR _ ?_, unhide hbw⟩
    obtain ⟨e1, e2, e3⟩ := unhide HT
    unfold valueR lineR
    rw [← e1, ← e2]
    exact congrArg (fun b => b ++ endS ++ x.data ++ endS) (unhide HL).symm
  · have s3 := s3 rfl
    have hi4 := hide (unhide hi3 rfl)
    clear hi3
    have m4 : ¬ 9223372036854775807 < 1 + (T x.token).size := by omega
    have m5 : ¬ 9223372036854775807 < l.size + (1 + (T x.token).size) := by omega
    go_wp2_with fail
    refine (unhide hi4 _).mono ?_
    rintro _ wd ⟨rfl, hbd⟩
    have q5 : wd.cell? ⟨w.heap.size, 2, none⟩ = some (.string x.data) := by rw [hbd.cell (block_lt_of_cell q2)]; exact q2
    have HBD := hide (Below.trans (unhide hbw) (hbd.mono (unhide hbw).size))
    clear hbd q2 q4
    have hls2 : (l ++ (({ data := #[32] } : ByteArray) ++ (T x.token))).size = l.size + (1 + (T x.token).size) := by simp [ByteArray.size_append]; rfl
    have m6 : ¬ 9223372036854775807 < l.size + (1 + (T x.token).size) + 2 := by omega
    have m7 : ¬ 9223372036854775807 < l.size + (1 + (T x.token).size) + 2 + x.data.size := by omega
    have m8 : ¬ 9223372036854775807 < l.size + (1 + (T x.token).size) + 2 + x.data.size + 2 := by omega
    go_wp2
    refine bodyPost_ret (v := .string (l ++ (blankS ++ (T x.token)) ++ endS ++ x.data ++ endS)) (by simp [results, Tryz.results71, go_sem, endS, blankS]; done) rfl ⟨unhide HR _ ?_, unhide HBD⟩
    obtain ⟨e1, e2, e3⟩ := unhide HT
    unfold valueR lineR
    rw [← e1, ← e2, ← e3]
    exact congrArg (fun b => b ++ (blankS ++ (T x.token)) ++ endS ++ x.data ++ endS) (unhide HL).symm
end Shelf
end Go.Proofs.YtkdcofmpbmiloaaGreatDoor
/-
  The contract of the program's kindOf: the kind of a name by the same table as the model's, for every string.
-/
namespace Go.Proofs.YtkdcofmpbmiloaaGreatDoor
namespace Kind
open Go.RowKit Base
set_option linter.unusedVariables false

set_option maxHeartbeats 4000000 in
theorem impl_any (s : ByteArray) (w : World) :
    Calls Tryz.prog 37 #[.string s] w fun e w' => e = .returned (.int .i64 (kindN s.toList)) ∧ w' = w := by
  by_cases h0 : s.toList = [103, 101, 116]
  · have H : Hid (kindN s.toList = 1) := by show kindN s.toList = 1; rw [h0]; decide
    go_enter Tryz.func37, Tryz.ntmps37
    go_wp2
    go_ret
    exact ⟨ret_int (unhide H).symm, rfl⟩
  by_cases h1 : s.toList = [103, 101, 116, 115]
  · have H : Hid (kindN s.toList = 1) := by show kindN s.toList = 1; rw [h1]; decide
    go_enter Tryz.func37, Tryz.ntmps37
    go_wp2
    go_ret
    exact ⟨ret_int (unhide H).symm, rfl⟩
  by_cases h2 : s.toList = [115, 101, 116]
  · have H : Hid (kindN s.toList = 2) := by show kindN s.toList = 2; rw [h2]; decide
    go_enter Tryz.func37, Tryz.ntmps37
    go_wp2
    go_ret
    exact ⟨ret_int (unhide H).symm, rfl⟩
  by_cases h3 : s.toList = [97, 100, 100]
  · have H : Hid (kindN s.toList = 2) := by show kindN s.toList = 2; rw [h3]; decide
    go_enter Tryz.func37, Tryz.ntmps37
    go_wp2
    go_ret
    exact ⟨ret_int (unhide H).symm, rfl⟩
  by_cases h4 : s.toList = [114, 101, 112, 108, 97, 99, 101]
  · have H : Hid (kindN s.toList = 2) := by show kindN s.toList = 2; rw [h4]; decide
    go_enter Tryz.func37, Tryz.ntmps37
    go_wp2
    go_ret
    exact ⟨ret_int (unhide H).symm, rfl⟩
  by_cases h5 : s.toList = [97, 112, 112, 101, 110, 100]
  · have H : Hid (kindN s.toList = 2) := by show kindN s.toList = 2; rw [h5]; decide
    go_enter Tryz.func37, Tryz.ntmps37
    go_wp2
    go_ret
    exact ⟨ret_int (unhide H).symm, rfl⟩
  by_cases h6 : s.toList = [112, 114, 101, 112, 101, 110, 100]
  · have H : Hid (kindN s.toList = 2) := by show kindN s.toList = 2; rw [h6]; decide
    go_enter Tryz.func37, Tryz.ntmps37
    go_wp2
    go_ret
    exact ⟨ret_int (unhide H).symm, rfl⟩
  by_cases h7 : s.toList = [99, 97, 115]
  · have H : Hid (kindN s.toList = 3) := by show kindN s.toList = 3; rw [h7]; decide
    go_enter Tryz.func37, Tryz.ntmps37
    go_wp2
    go_ret
    exact ⟨ret_int (unhide H).symm, rfl⟩
  by_cases h8 : s.toList = [105, 110, 99, 114]
  · have H : Hid (kindN s.toList = 4) := by show kindN s.toList = 4; rw [h8]; decide
    go_enter Tryz.func37, Tryz.ntmps37
    go_wp2
    go_ret
    exact ⟨ret_int (unhide H).symm, rfl⟩
  by_cases h9 : s.toList = [100, 101, 99, 114]
  · have H : Hid (kindN s.toList = 4) := by show kindN s.toList = 4; rw [h9]; decide
    go_enter Tryz.func37, Tryz.ntmps37
    go_wp2
    go_ret
    exact ⟨ret_int (unhide H).symm, rfl⟩
  by_cases h10 : s.toList = [116, 111, 117, 99, 104]
  · have H : Hid (kindN s.toList = 5) := by show kindN s.toList = 5; rw [h10]; decide
    go_enter Tryz.func37, Tryz.ntmps37
    go_wp2
    go_ret
    exact ⟨ret_int (unhide H).symm, rfl⟩
  by_cases h11 : s.toList = [100, 101, 108, 101, 116, 101]
  · have H : Hid (kindN s.toList = 6) := by show kindN s.toList = 6; rw [h11]; decide
    go_enter Tryz.func37, Tryz.ntmps37
    go_wp2
    go_ret
    exact ⟨ret_int (unhide H).symm, rfl⟩
  by_cases h12 : s.toList = [102, 108, 117, 115, 104, 95, 97, 108, 108]
  · have H : Hid (kindN s.toList = 7) := by show kindN s.toList = 7; rw [h12]; decide
    go_enter Tryz.func37, Tryz.ntmps37
    go_wp2
    go_ret
    exact ⟨ret_int (unhide H).symm, rfl⟩
  by_cases h13 : s.toList = [118, 101, 114, 115, 105, 111, 110]
  · have H : Hid (kindN s.toList = 7) := by show kindN s.toList = 7; rw [h13]; decide
    go_enter Tryz.func37, Tryz.ntmps37
    go_wp2
    go_ret
    exact ⟨ret_int (unhide H).symm, rfl⟩
  by_cases h14 : s.toList = [113, 117, 105, 116]
  · have H : Hid (kindN s.toList = 7) := by show kindN s.toList = 7; rw [h14]; decide
    go_enter Tryz.func37, Tryz.ntmps37
    go_wp2
    go_ret
    exact ⟨ret_int (unhide H).symm, rfl⟩
  have H : Hid (kindN s.toList = 0) := by show kindN s.toList = 0; unfold kindN; simp only [h0, h1, h2, h3, h4, h5, h6, h7, h8, h9, h10, h11, h12, h13, h14, if_false]
  have e0 : (s.toList == [103, 101, 116]) = false := beq_eq_false_iff_ne.2 h0
  have e1 : (s.toList == [103, 101, 116, 115]) = false := beq_eq_false_iff_ne.2 h1
  have e2 : (s.toList == [115, 101, 116]) = false := beq_eq_false_iff_ne.2 h2
  have e3 : (s.toList == [97, 100, 100]) = false := beq_eq_false_iff_ne.2 h3
  have e4 : (s.toList == [114, 101, 112, 108, 97, 99, 101]) = false := beq_eq_false_iff_ne.2 h4
  have e5 : (s.toList == [97, 112, 112, 101, 110, 100]) = false := beq_eq_false_iff_ne.2 h5
  have e6 : (s.toList == [112, 114, 101, 112, 101, 110, 100]) = false := beq_eq_false_iff_ne.2 h6
  have e7 : (s.toList == [99, 97, 115]) = false := beq_eq_false_iff_ne.2 h7
  have e8 : (s.toList == [105, 110, 99, 114]) = false := beq_eq_false_iff_ne.2 h8
  have e9 : (s.toList == [100, 101, 99, 114]) = false := beq_eq_false_iff_ne.2 h9
  have e10 : (s.toList == [116, 111, 117, 99, 104]) = false := beq_eq_false_iff_ne.2 h10
  have e11 : (s.toList == [100, 101, 108, 101, 116, 101]) = false := beq_eq_false_iff_ne.2 h11
  have e12 : (s.toList == [102, 108, 117, 115, 104, 95, 97, 108, 108]) = false := beq_eq_false_iff_ne.2 h12
  have e13 : (s.toList == [118, 101, 114, 115, 105, 111, 110]) = false := beq_eq_false_iff_ne.2 h13
  have e14 : (s.toList == [113, 117, 105, 116]) = false := beq_eq_false_iff_ne.2 h14
  clear h0 h1 h2 h3 h4 h5 h6 h7 h8 h9 h10 h11 h12 h13 h14
  go_enter Tryz.func37, Tryz.ntmps37
  go_wp2
  go_ret
  exact ⟨ret_int (unhide H).symm, rfl⟩
end Kind
end Go.Proofs.YtkdcofmpbmiloaaGreatDoor
/-
  The contract of the model's CountText: it answers by the plain function countB, for every text, number and direction.
-/
namespace Go.Proofs.YtkdcofmpbmiloaaGreatDoor
namespace Count
open Go.RowKit Base GoodKey NumText
set_option linter.unusedVariables false

theorem first_of (s : ByteArray) (h : 1 < s.size) : firstB s.data.toList = (s[0].toNat == 48) := by
  have e : ∃ a b l, s.data.toList = a :: b :: l := by
    have hl : s.data.toList.length = s.size := by simp
    match hh : s.data.toList, hl with
    | [], hl => simp at hl; omega
    | [a], hl => simp at hl; omega
    | a :: b :: l, _ => exact ⟨a, b, l, rfl⟩
  obtain ⟨a, b, l, e⟩ := e
  have e0 : s[0] = a := by
    have e1 : s[0] = s.data.toList[0]'(by simp; omega) := rfl
    rw [e1]; simp [e]
  rw [e, e0]; rfl
theorem first_one (s : ByteArray) (h : s.size ≤ 1) : firstB s.data.toList = false := by
  have hl : s.data.toList.length = s.size := by simp
  match hh : s.data.toList, hl with
  | [], hl => rfl
  | [a], hl => rfl
  | a :: b :: l, hl => simp at hl; omega

theorem none_1 {s : ByteArray} {m : Int} {down : Bool} (g : inB s.size 1 18 = false) : countB s.data.toList m down = none := by
  have el : s.data.toList.length = s.size := by simp
  simp [countB, el, g]
theorem none_2 {s : ByteArray} {m : Int} {down : Bool} (g : firstB s.data.toList = true) : countB s.data.toList m down = none := by
  simp [countB, g]
theorem none_3 {s : ByteArray} {m : Int} {down : Bool} (g : inB m 0 1000000000 = false) : countB s.data.toList m down = none := by
  simp [countB, g]
theorem none_4 {s : ByteArray} {m : Int} {down : Bool} (g : s.data.toList.all digB = false) : countB s.data.toList m down = none := by
  unfold countB
  rw [g]
  simp
theorem count_5 {s : ByteArray} {m : Int} {down : Bool} (g1 : inB s.size 1 18 = true) (g2 : ¬ firstB s.data.toList = true) (g3 : inB m 0 1000000000 = true) (g4 : s.data.toList.all digB = true) :
    countB s.data.toList m down = if 18 < (txt (res (val s.data.toList) m down).toNat).size then none else some (txt (res (val s.data.toList) m down).toNat) := by
  have el : s.data.toList.length = s.size := by simp
  unfold countB
  rw [el, if_pos g1, if_neg g2, if_pos g3, if_pos g4]

set_option maxHeartbeats 1000000 in
theorem spec_any (s : ByteArray) (m : Int) (down : Bool) (w : World) (hs : s.size ≤ maxLen) :
    Calls Tryz.prog 87 #[.string s, .int .i64 m, .bool down] w fun e w' => e = .returned (countV (countB s.data.toList m down)) ∧ Below w.heap.size w w' := by
  unfold maxLen at hs
  cases g1 : inB s.size 1 18
  · have H := hide (none_1 (m := m) (down := down) g1)
    go_enter Tryz.func87, Tryz.ntmps87
    go_wp2_with (go_at_call 49; refine (l1In_any _ _ _ _).mono ?_; rintro e w1 ⟨rfl, rfl⟩)
    go_ret2
    exact ⟨ret_count (unhide H).symm, Below.refl _ _⟩
  have hb : 1 ≤ s.size ∧ s.size ≤ 18 := by simp [inB] at g1; omega
  obtain ⟨hb1, hb2⟩ := hb
  have hpos : 0 < s.size := by omega
  by_cases g2 : firstB s.data.toList = true
  · have H := hide (none_2 (m := m) (down := down) g2)
    have h1 : 1 < s.size := by
      rcases Nat.lt_or_ge 1 s.size with h | h
      · exact h
      · rw [first_one s h] at g2; simp at g2
    have h2 : ((s[0].toNat : Int) == 48) = true := by rw [first_of s h1] at g2; simp at g2 ⊢; omega
    have h3 : 1 < (s.size : Int) := by omega
    clear g2
    go_enter Tryz.func87, Tryz.ntmps87
    go_wp2_with (go_at_call 49; refine (l1In_any _ _ _ _).mono ?_; rintro e w1 ⟨rfl, rfl⟩)
    go_ret2
    exact ⟨ret_count (unhide H).symm, Below.refl _ _⟩
  have hcase : ((s[0].toNat : Int) == 48) = false ∨ (((s[0].toNat : Int) == 48) = true ∧ ¬ 1 < (s.size : Int)) := by
    cases e : ((s[0].toNat : Int) == 48)
    · exact .inl rfl
    · right
      refine ⟨rfl, fun h => g2 ?_⟩
      rw [first_of s (by omega)]
      simp at e ⊢
      omega
  have G2 := hide g2
  clear g2
  rcases hcase with e0 | ⟨e0, e1⟩
  all_goals
    cases g3 : inB m 0 1000000000
    · have H := hide (none_3 (s := s) (down := down) g3)
      go_enter Tryz.func87, Tryz.ntmps87
      go_wp2_with (first | (go_at_call 49; refine (l1In_any _ _ _ _).mono ?_; rintro e w1 ⟨rfl, rfl⟩) | (go_at_call 53; refine (Num.number_any _ _).mono ?_; rintro e w1 ⟨rfl, rfl⟩))
      go_ret2
      exact ⟨ret_count (unhide H).symm, Below.refl _ _⟩
    have hm : 0 ≤ m ∧ m ≤ 1000000000 := by simp [inB] at g3; omega
    obtain ⟨hm0, hm1⟩ := hm
    have HC := hide (fun h => @count_5 s m down g1 (unhide G2) g3 h)
    go_enter Tryz.func87, Tryz.ntmps87
    go_wp2_with (first | (go_at_call 49; refine (l1In_any _ _ _ _).mono ?_; rintro e w1 ⟨rfl, rfl⟩) | (go_at_call 53; refine (Num.number_any _ _).mono ?_; rintro e w1 ⟨rfl, rfl⟩))
    go_loop [8, 9] (fun n i => ∃ (k : Nat) (z : Int), k ≤ s.size ∧ 0 ≤ z ∧ z < 1000000000000000000 ∧ i = .int .i64 k ∧ n = .int .i64 z ∧ Hid (z = val (s.data.toList.take k)) ∧ Hid ((s.data.toList.take k).all digB = true)) (fun _ i => s.size - (intOf i).toNat)
    case atStart => exact ⟨0, 0, Nat.zero_le _, by omega, by omega, rfl, rfl, hide rfl, hide rfl⟩
    case round =>
      obtain ⟨k, z, hk, hz0, hz1, rfl, rfl, hv, ha⟩ := hrel
      by_cases hlt : k < s.size
      · have hz17 : z < 100000000000000000 := by
          have h := (val_17 _ (unhide ha) (by rw [List.length_take]; omega)).2
          rw [← unhide hv] at h
          exact h
        by_cases d1 : (s[k].toNat : Int) < 48
        · have H := hide (none_4 (m := m) (down := down) (all_bad s k hlt (.inl d1)))
          go_wp2
          go_ret2
          exact ⟨ret_count (unhide H).symm, Below.refl _ _⟩
        by_cases d2 : 57 < (s[k].toNat : Int)
        · have H := hide (none_4 (m := m) (down := down) (all_bad s k hlt (.inr d2)))
          go_wp2
          go_ret2
          exact ⟨ret_count (unhide H).symm, Below.refl _ _⟩
        have HA := hide (all_step s k hlt (unhide ha) d1 d2)
        have HV : Hid (10 * z + ((s[k].toNat : Int) - 48) = val (s.data.toList.take (k + 1))) := by show 10 * z + _ = _; rw [val_step s k hlt, unhide hv]
        go_wp2
        go_round
        case rel => exact ⟨k + 1, 10 * z + ((s[k].toNat : Int) - 48), by omega, by omega, by omega, by go_num, rfl, HV, HA⟩
        case measure => simp [intOf]; omega
      · have ek : s.data.toList.take k = s.data.toList := List.take_of_length_le (by simp; omega)
        have H5 := unhide HC (by rw [← ek]; exact unhide ha)
        have hvz : val s.data.toList = z := by rw [unhide hv, ek]
        rw [hvz] at H5
        have HR : Hid (countB s.data.toList m down = if 18 < (txt (res z m down).toNat).size then none else some (txt (res z m down).toNat)) := H5
        clear H5 hvz ek
        have hrb : 0 ≤ res z m down ∧ res z m down < 9223372036854775808 := by unfold res; repeat' split; all_goals omega
        obtain ⟨hr0, hr1⟩ := hrb
        have hnum := fun w => num_any (res z m down) w hr0 hr1
        have hneg : Hid (res z m down = if (if down then z - m else z + m) < 0 then 0 else (if down then z - m else z + m)) := rfl
        generalize res z m down = r at HR hnum hneg hr0 hr1
        have HN := hide hnum
        clear hnum
        cases down
        · have hnn : ¬ z + m < 0 := by omega
          obtain rfl : r = z + m := by have := unhide hneg; simpa [hnn] using this
          by_cases g6 : 18 < ((txt (z + m).toNat).size : Int)
          · have H : Hid (countB s.data.toList m false = none) := by show countB s.data.toList m false = none; rw [unhide HR, if_pos (by omega)]
            go_wp2_with fail
            refine (unhide HN _).mono ?_
            rintro e w1 ⟨rfl, hb1⟩
            have hb1 := hide hb1
            go_wp2
            go_ret2
            exact ⟨ret_count (unhide H).symm, unhide hb1⟩
          · have H : Hid (countB s.data.toList m false = some (txt (z + m).toNat)) := by show countB s.data.toList m false = _; rw [unhide HR, if_neg (by omega)]
            go_wp2_with fail
            refine (unhide HN _).mono ?_
            rintro e w1 ⟨rfl, hb1⟩
            have hb1 := hide hb1
            go_wp2
            go_ret2
            exact ⟨ret_count (unhide H).symm, unhide hb1⟩
        · by_cases hnn : z - m < 0
          · obtain rfl : r = 0 := by have := unhide hneg; simpa [hnn] using this
            have H : Hid (countB s.data.toList m true = some (txt 0)) := by
              show countB s.data.toList m true = _; rw [unhide HR, if_neg (by rw [show (0 : Int).toNat = 0 from rfl, txt_0]; omega)]; rfl
            go_wp2_with fail
            refine (unhide HN _).mono ?_
            rintro e w1 ⟨rfl, hb1⟩
            have hb1 := hide hb1
            have g6 : ¬ 18 < ((txt 0).size : Int) := by rw [txt_0]; omega
            go_wp2
            go_ret2
            exact ⟨ret_count (unhide H).symm, unhide hb1⟩
          · obtain rfl : r = z - m := by have := unhide hneg; simpa [hnn] using this
            by_cases g6 : 18 < ((txt (z - m).toNat).size : Int)
            · have H : Hid (countB s.data.toList m true = none) := by show countB s.data.toList m true = none; rw [unhide HR, if_pos (by omega)]
              go_wp2_with fail
              refine (unhide HN _).mono ?_
              rintro e w1 ⟨rfl, hb1⟩
              have hb1 := hide hb1
              go_wp2
              go_ret2
              exact ⟨ret_count (unhide H).symm, unhide hb1⟩
            · have H : Hid (countB s.data.toList m true = some (txt (z - m).toNat)) := by show countB s.data.toList m true = _; rw [unhide HR, if_neg (by omega)]
              go_wp2_with fail
              refine (unhide HN _).mono ?_
              rintro e w1 ⟨rfl, hb1⟩
              have hb1 := hide hb1
              go_wp2
              go_ret2
              exact ⟨ret_count (unhide H).symm, unhide hb1⟩
end Count
end Go.Proofs.YtkdcofmpbmiloaaGreatDoor
/-
  Lists of good keys, as plain data. No Go function is spoken of here.
-/
namespace Go.Proofs.YtkdcofmpbmiloaaGreatDoor
namespace GoodCmd
open Go.RowKit Base GoodKey
def gkb (s : ByteArray) : Bool := gk s.data.toList
theorem all_step (ks : List ByteArray) (k : Nat) (h : k < ks.length) (ha : (ks.take k).all gkb = true) (hg : gkb (ks.getD k ByteArray.empty) = true) : (ks.take (k + 1)).all gkb = true := by
  rw [List.take_succ_eq_append_getElem h, List.all_append, ha]
  simp [List.getD_eq_getElem?_getD, List.getElem?_eq_getElem h] at hg
  simp [hg]
theorem all_bad (ks : List ByteArray) (k : Nat) (h : k < ks.length) (hg : gkb (ks.getD k ByteArray.empty) = false) : ks.all gkb = false := by
  rw [List.all_eq_false]
  refine ⟨ks[k], List.getElem_mem _, ?_⟩
  simp [List.getD_eq_getElem?_getD, List.getElem?_eq_getElem h] at hg
  simp [hg]
theorem all_whole (ks : List ByteArray) (k : Nat) (hk : k ≤ ks.length) (h : ¬ k < ks.length) (ha : (ks.take k).all gkb = true) : ks.all gkb = true := by
  rw [List.take_of_length_le (by omega)] at ha
  exact ha
end GoodCmd
end Go.Proofs.YtkdcofmpbmiloaaGreatDoor
/-
  The plain function by which both GoodCmd answer: of a kind, the keys and the other fields. No Go function is spoken of here.
-/
namespace Go.Proofs.YtkdcofmpbmiloaaGreatDoor
namespace GoodCmd
open Go.RowKit Base GoodKey Kind

def numB (named : Bool) (n : Int) : Bool := decide (n = 0) || (named && decide (0 < n) && decide (n ≤ 1000000000))
def datB (bd : Bool) (dt : ByteArray) : Bool := decide (dt.size = 0) || (bd && decide (dt.size ≤ 100))
def formB (lo hi : Int) (bf bx bd bn bq : Bool) (ks : List ByteArray) (f x n : Int) (dt : ByteArray) (q : Bool) : Bool :=
  (inB ks.length lo hi && ks.all gkb) && numB bf f && numB bx x && numB bn n && datB bd dt && (!q || bq)
def gcB (k : Int) (ks : List ByteArray) (f x n : Int) (dt : ByteArray) (q : Bool) : Bool :=
  if k = 1 then formB 1 10 false false false false false ks f x n dt q else
  if k = 2 then formB 1 1 true true true false true ks f x n dt q else
  if k = 3 then formB 1 1 true true true true true ks f x n dt q else
  if k = 4 then formB 1 1 false false false true true ks f x n dt q else
  if k = 5 then formB 1 1 false true false false true ks f x n dt q else
  if k = 6 then formB 1 1 false false false false true ks f x n dt q else
  if k = 7 then formB 0 0 false false false false false ks f x n dt q else false

theorem gcB_bad (k : Int) (ks : List ByteArray) (f x n : Int) (dt : ByteArray) (q : Bool) (h : ks.all gkb = false) : gcB k ks f x n dt q = false := by
  unfold gcB formB
  rw [h]
  simp
theorem dat_empty (dt : ByteArray) : dt.toList.isEmpty = decide (dt.size = 0) := by
  rw [Lib.toList_data]
  have e : dt.data.toList.length = dt.size := by simp
  rw [← e]
  cases dt.data.toList with
  | nil => rfl
  | cons a l => rfl
theorem dat_nil (dt : ByteArray) : dt.toList = [] ↔ dt.size = 0 := by
  have := dat_empty dt
  rw [Bool.eq_iff_iff] at this
  simpa [List.isEmpty_iff] using this

variable {lo hi : Int} {bf bx bd bn bq : Bool} {ks : List ByteArray} {f x n : Int} {dt : ByteArray} {q : Bool}
theorem num_no {b : Bool} {z : Int} (h : ¬ inB z 0 1000000000 = true) : numB b z = false := by
  unfold inB at h
  unfold numB
  simp only [Bool.and_eq_true, decide_eq_true_eq] at h
  cases b
  · simp; omega
  · simp; omega
theorem num_yes {z : Int} (h : inB z 0 1000000000 = true) : numB true z = true := by
  unfold inB at h
  unfold numB
  simp only [Bool.and_eq_true, decide_eq_true_eq] at h
  simp; omega
theorem num_zero {b : Bool} {z : Int} (h : z = 0) : numB b z = true := by subst h; simp [numB]
theorem num_not0 {z : Int} (h : ¬ z = 0) : numB false z = false := by simp [numB, h]
theorem dat_no {b : Bool} (h : 100 < (dt.size : Int)) : datB b dt = false := by
  unfold datB
  rw [decide_eq_false (show ¬ dt.size = 0 by omega), decide_eq_false (show ¬ dt.size ≤ 100 by omega)]
  simp
theorem dat_yes (h : (dt.size : Int) ≤ 100) : datB true dt = true := by
  unfold datB
  simp; omega
theorem dat_zero {b : Bool} (h : dt.toList = []) : datB b dt = true := by simp [datB, (dat_nil dt).1 h]
theorem dat_not0 (h : ¬ dt.toList = []) : datB false dt = false := by
  have : ¬ dt.size = 0 := fun e => h ((dat_nil dt).2 e)
  simp [datB, this]
theorem form_g (h : (inB ks.length lo hi && ks.all gkb) = false) : false = formB lo hi bf bx bd bn bq ks f x n dt q := by simp only [formB, h, Bool.false_and]
theorem form_fin (h : (inB ks.length lo hi && ks.all gkb) = true) (h1 : numB bf f = true) (h2 : numB bx x = true) (h3 : numB bn n = true) (h4 : datB bd dt = true) : formB lo hi bf bx bd bn bq ks f x n dt q = (!q || bq) := by
  simp only [formB, h, h1, h2, h3, h4, Bool.true_and]
theorem dat_non (h : ¬ dt.toList = []) (hb : ¬ bd = true) : datB bd dt = false := by
  rw [Bool.eq_false_iff.2 hb]; exact dat_not0 h
theorem dat_big (hb : bd = true) (h : (dt.size : Int) ≤ 100) : datB bd dt = true := by rw [hb]; exact dat_yes h
theorem form_f (h : numB bf f = false) : false = formB lo hi bf bx bd bn bq ks f x n dt q := by simp [formB, h]
theorem form_x (h : numB bx x = false) : false = formB lo hi bf bx bd bn bq ks f x n dt q := by simp [formB, h]
theorem form_n (h : numB bn n = false) : false = formB lo hi bf bx bd bn bq ks f x n dt q := by simp [formB, h]
theorem form_d (h : datB bd dt = false) : false = formB lo hi bf bx bd bn bq ks f x n dt q := by simp [formB, h]
theorem form_q (hq : q = true) (hb : bq = false) : false = formB lo hi bf bx bd bn bq ks f x n dt q := by simp [formB, hq, hb]
theorem form_end (ha : ks.all gkb = true) (h1 : numB bf f = true) (h2 : numB bx x = true) (h3 : numB bn n = true) (h4 : datB bd dt = true) : formB lo hi bf bx bd bn bq ks f x n dt q = (inB ks.length lo hi && (!q || bq)) := by
  simp [formB, ha, h1, h2, h3, h4]
theorem ne_of {z : Int} (h : (z != 0) = true) : ¬ z = 0 := by simpa using h
theorem eq_of {z : Int} (h : (z != 0) = false) : z = 0 := by simpa using h
theorem gcB0 : gcB 0 ks f x n dt q = false := rfl
theorem gcB1 : gcB 1 ks f x n dt q = formB 1 10 false false false false false ks f x n dt q := rfl
theorem gcB2 : gcB 2 ks f x n dt q = formB 1 1 true true true false true ks f x n dt q := rfl
theorem gcB3 : gcB 3 ks f x n dt q = formB 1 1 true true true true true ks f x n dt q := rfl
theorem gcB4 : gcB 4 ks f x n dt q = formB 1 1 false false false true true ks f x n dt q := rfl
theorem gcB5 : gcB 5 ks f x n dt q = formB 1 1 false true false false true ks f x n dt q := rfl
theorem gcB6 : gcB 6 ks f x n dt q = formB 1 1 false false false false true ks f x n dt q := rfl
theorem gcB7 : gcB 7 ks f x n dt q = formB 0 0 false false false false false ks f x n dt q := rfl
theorem one_len (l : List ByteArray) : ((l.length : Int) == 1) = inB l.length 1 1 := by
  rw [Bool.eq_iff_iff]
  simp only [inB, beq_iff_eq, Bool.and_eq_true, decide_eq_true_eq]
  omega
theorem zero_len (l : List ByteArray) : ((l.length : Int) == 0) = inB l.length 0 0 := by
  rw [Bool.eq_iff_iff]
  simp only [inB, beq_iff_eq, Bool.and_eq_true, decide_eq_true_eq]
  omega
end GoodCmd
end Go.Proofs.YtkdcofmpbmiloaaGreatDoor
