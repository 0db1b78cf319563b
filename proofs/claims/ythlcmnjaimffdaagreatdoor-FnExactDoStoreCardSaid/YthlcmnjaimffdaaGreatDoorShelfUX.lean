/-
  The program's untilOf: when an item goes.
-/
import Derived.Test.YthlcmnjaimffdaaGreatDoorShelfRF
import Derived.Test.YthlcmnjaimffdaaGreatDoorCounts
namespace Go.Proofs.YthlcmnjaimffdaaGreatDoor
namespace Shelf
open Go.RowKit Base Items Keep Own Chain Store GoodKey
set_option linter.unusedVariables false

def untilR (now expire : Int) : Int := if expire = 0 then 0 else now + expire

set_option maxRecDepth 10000 in
set_option maxHeartbeats 1000000 in
theorem untilOf_any (now expire : Int) (w : World) (h1 : 0 ≤ now ∧ now ≤ 1000000000) (h2 : 0 ≤ expire ∧ expire ≤ 1000000000) :
    Calls Tryz.prog 77 #[.int .i64 now, .int .i64 expire] w fun e w' => e = .returned (.int .i64 (untilR now expire)) ∧ Below w.heap.size w w' := by
  by_cases g : expire = 0
  · subst g
    have e : untilR now 0 = 0 := rfl
    rw [e]
    go_enter Tryz.func77, Tryz.ntmps77
    go_wp2
    first
      | exact ⟨rfl, Below.refl _ _⟩
      | exact bodyPost_ret (v := .int .i64 0) (by simp [results, Tryz.results77, go_sem]; done) rfl ⟨rfl, Below.refl _ _⟩
  · have e : untilR now expire = now + expire := if_neg g
    rw [e]
    have hw : IntKind.i64.wrap (now + expire) = now + expire := by rw [IntKind.wrap_i64]; omega
    have hd : decide (expire = 0) = false := decide_eq_false g
    go_enter Tryz.func77, Tryz.ntmps77
    go_wp2
    first
      | exact ⟨rfl, Below.refl _ _⟩
      | exact bodyPost_ret (v := .int .i64 (now + expire)) (by simp [results, Tryz.results77, go_sem]; done) rfl ⟨rfl, Below.refl _ _⟩
end Shelf
end Go.Proofs.YthlcmnjaimffdaaGreatDoor
/-
  The program's refusalOf: why an item is not kept.
-/
namespace Go.Proofs.YthlcmnjaimffdaaGreatDoor
namespace Shelf
open Go.RowKit Base Items Keep Own Chain Store GoodKey
set_option linter.unusedVariables false

def notStoredT : ByteArray := ⟨#[78, 79, 84, 95, 83, 84, 79, 82, 69, 68, 13, 10]⟩
def existsT : ByteArray := ⟨#[69, 88, 73, 83, 84, 83, 13, 10]⟩
def refusalR (l : List UInt8) (there : Bool) (tok num : Int) : ByteArray :=
  if l = [97, 100, 100] then (if there then notStoredT else ⟨#[]⟩) else
  if l = [114, 101, 112, 108, 97, 99, 101] then (if there then ⟨#[]⟩ else notStoredT) else
  if l = [97, 112, 112, 101, 110, 100] then (if there then ⟨#[]⟩ else notStoredT) else
  if l = [112, 114, 101, 112, 101, 110, 100] then (if there then ⟨#[]⟩ else notStoredT) else
  if l = [99, 97, 115] then (if there then if tok = num then ⟨#[]⟩ else existsT else notFoundT) else
  ⟨#[]⟩

set_option maxRecDepth 10000 in
set_option maxHeartbeats 4000000 in
theorem refusalOf_any (s : ByteArray) (a : Option Addr) (cap nk : Nat) (f x n : Int) (dt : ByteArray) (q : Bool) (it : Itm) (there : Bool) (w : World) :
    Calls Tryz.prog 90 #[.agg #[.string s, .slice a nk cap, .int .i64 f, .int .i64 x, .int .i64 n, .string dt, .bool q], .agg #[.string it.key, .int .i64 it.flags, .string it.data, .int .i64 it.upto, .int .i64 it.token], .bool there] w fun e w' => e = .returned (.string (refusalR s.toList there it.token n)) ∧ Below w.heap.size w w' := by
  by_cases h0 : s.toList = [97, 100, 100]
  · cases there
    · have H : Hid (refusalR s.toList false it.token n = ⟨#[]⟩) := by show refusalR s.toList false it.token n = ⟨#[]⟩; rw [h0]; unfold refusalR; simp
      go_enter Tryz.func90, Tryz.ntmps90
      go_wp2
      go_ret
      exact ⟨congrArg (fun b => Ending.returned (.string b)) (unhide H).symm, by first | exact Below.refl _ _ | exact bel1 w _ | exact bel2 w _ _⟩
    · have H : Hid (refusalR s.toList true it.token n = notStoredT) := by show refusalR s.toList true it.token n = notStoredT; rw [h0]; unfold refusalR; simp
      go_enter Tryz.func90, Tryz.ntmps90
      go_wp2
      go_ret
      exact ⟨congrArg (fun b => Ending.returned (.string b)) (unhide H).symm, by first | exact Below.refl _ _ | exact bel1 w _ | exact bel2 w _ _⟩
  by_cases h1 : s.toList = [114, 101, 112, 108, 97, 99, 101]
  · cases there
    · have H : Hid (refusalR s.toList false it.token n = notStoredT) := by show refusalR s.toList false it.token n = notStoredT; rw [h1]; unfold refusalR; simp
      go_enter Tryz.func90, Tryz.ntmps90
      go_wp2
      go_ret
      exact ⟨congrArg (fun b => Ending.returned (.string b)) (unhide H).symm, by first | exact Below.refl _ _ | exact bel1 w _ | exact bel2 w _ _⟩
    · have H : Hid (refusalR s.toList true it.token n = ⟨#[]⟩) := by show refusalR s.toList true it.token n = ⟨#[]⟩; rw [h1]; unfold refusalR; simp
      go_enter Tryz.func90, Tryz.ntmps90
      go_wp2
      go_ret
      exact ⟨congrArg (fun b => Ending.returned (.string b)) (unhide H).symm, by first | exact Below.refl _ _ | exact bel1 w _ | exact bel2 w _ _⟩
  by_cases h2 : s.toList = [97, 112, 112, 101, 110, 100]
  · cases there
    · have H : Hid (refusalR s.toList false it.token n = notStoredT) := by show refusalR s.toList false it.token n = notStoredT; rw [h2]; unfold refusalR; simp
      go_enter Tryz.func90, Tryz.ntmps90
      go_wp2
      go_ret
      exact ⟨congrArg (fun b => Ending.returned (.string b)) (unhide H).symm, by first | exact Below.refl _ _ | exact bel1 w _ | exact bel2 w _ _⟩
    · have H : Hid (refusalR s.toList true it.token n = ⟨#[]⟩) := by show refusalR s.toList true it.token n = ⟨#[]⟩; rw [h2]; unfold refusalR; simp
      go_enter Tryz.func90, Tryz.ntmps90
      go_wp2
      go_ret
      exact ⟨congrArg (fun b => Ending.returned (.string b)) (unhide H).symm, by first | exact Below.refl _ _ | exact bel1 w _ | exact bel2 w _ _⟩
  by_cases h3 : s.toList = [112, 114, 101, 112, 101, 110, 100]
  · cases there
    · have H : Hid (refusalR s.toList false it.token n = notStoredT) := by show refusalR s.toList false it.token n = notStoredT; rw [h3]; unfold refusalR; simp
      go_enter Tryz.func90, Tryz.ntmps90
      go_wp2
      go_ret
      exact ⟨congrArg (fun b => Ending.returned (.string b)) (unhide H).symm, by first | exact Below.refl _ _ | exact bel1 w _ | exact bel2 w _ _⟩
    · have H : Hid (refusalR s.toList true it.token n = ⟨#[]⟩) := by show refusalR s.toList true it.token n = ⟨#[]⟩; rw [h3]; unfold refusalR; simp
      go_enter Tryz.func90, Tryz.ntmps90
      go_wp2
      go_ret
      exact ⟨congrArg (fun b => Ending.returned (.string b)) (unhide H).symm, by first | exact Below.refl _ _ | exact bel1 w _ | exact bel2 w _ _⟩
  by_cases h4 : s.toList = [99, 97, 115]
  · by_cases g : it.token = n
    · have hd : decide (it.token = n) = true := decide_eq_true g
      cases there
      · have H : Hid (refusalR s.toList false it.token n = notFoundT) := by show refusalR s.toList false it.token n = notFoundT; rw [h4]; unfold refusalR; simp
        go_enter Tryz.func90, Tryz.ntmps90
        go_wp2
        go_ret
        exact ⟨congrArg (fun b => Ending.returned (.string b)) (unhide H).symm, by first | exact Below.refl _ _ | exact bel1 w _ | exact bel2 w _ _⟩
      · have H : Hid (refusalR s.toList true it.token n = ⟨#[]⟩) := by show refusalR s.toList true it.token n = ⟨#[]⟩; rw [h4]; unfold refusalR; simp [g]
        go_enter Tryz.func90, Tryz.ntmps90
        go_wp2
        go_ret
        exact ⟨congrArg (fun b => Ending.returned (.string b)) (unhide H).symm, by first | exact Below.refl _ _ | exact bel1 w _ | exact bel2 w _ _⟩
    · have hd : decide (it.token = n) = false := decide_eq_false g
      cases there
      · have H : Hid (refusalR s.toList false it.token n = notFoundT) := by show refusalR s.toList false it.token n = notFoundT; rw [h4]; unfold refusalR; simp
        go_enter Tryz.func90, Tryz.ntmps90
        go_wp2
        go_ret
        exact ⟨congrArg (fun b => Ending.returned (.string b)) (unhide H).symm, by first | exact Below.refl _ _ | exact bel1 w _ | exact bel2 w _ _⟩
      · have H : Hid (refusalR s.toList true it.token n = existsT) := by show refusalR s.toList true it.token n = existsT; rw [h4]; unfold refusalR; simp [g]
        go_enter Tryz.func90, Tryz.ntmps90
        go_wp2
        go_ret
        exact ⟨congrArg (fun b => Ending.returned (.string b)) (unhide H).symm, by first | exact Below.refl _ _ | exact bel1 w _ | exact bel2 w _ _⟩
  have H : Hid (refusalR s.toList there it.token n = ⟨#[]⟩) := by show refusalR s.toList there it.token n = ⟨#[]⟩; unfold refusalR; rw [if_neg h0, if_neg h1, if_neg h2, if_neg h3, if_neg h4]
  have e0 : (s.toList == [97, 100, 100]) = false := beq_eq_false_iff_ne.mpr h0
  have e1 : (s.toList == [114, 101, 112, 108, 97, 99, 101]) = false := beq_eq_false_iff_ne.mpr h1
  have e2 : (s.toList == [97, 112, 112, 101, 110, 100]) = false := beq_eq_false_iff_ne.mpr h2
  have e3 : (s.toList == [112, 114, 101, 112, 101, 110, 100]) = false := beq_eq_false_iff_ne.mpr h3
  have e4 : (s.toList == [99, 97, 115]) = false := beq_eq_false_iff_ne.mpr h4
  go_enter Tryz.func90, Tryz.ntmps90
  go_wp2
  go_ret
  exact ⟨congrArg (fun b => Ending.returned (.string b)) (unhide H).symm, by first | exact Below.refl _ _ | exact bel1 w _ | exact bel2 w _ _⟩
end Shelf
end Go.Proofs.YthlcmnjaimffdaaGreatDoor
/-
  The program's itemOf: the item that a writing command keeps.
-/
namespace Go.Proofs.YthlcmnjaimffdaaGreatDoor
namespace Shelf
open Go.RowKit Base Items Keep Own Chain Store GoodKey
set_option linter.unusedVariables false

def itemR (now : Int) (l : List UInt8) (key : ByteArray) (f x : Int) (dt : ByteArray) (old : Itm) : Itm :=
  if l = [97, 112, 112, 101, 110, 100] then { old with data := old.data ++ dt } else
  if l = [112, 114, 101, 112, 101, 110, 100] then { old with data := dt ++ old.data } else
  { key := key, flags := f, data := dt, upto := untilR now x, token := 0 }

set_option maxRecDepth 10000 in
set_option maxHeartbeats 4000000 in
theorem itemOf_grown (now : Int) (s : ByteArray) (a : Option Addr) (cap nk : Nat) (f x n : Int) (dt : ByteArray) (q : Bool) (it : Itm) (w : World) (h1 : dt.size ≤ 1048576) (h2 : it.data.size ≤ 1048576) (hn : s.toList = [97, 112, 112, 101, 110, 100]) :
    Calls Tryz.prog 91 #[.int .i64 now, .agg #[.string s, .slice a nk cap, .int .i64 f, .int .i64 x, .int .i64 n, .string dt, .bool q], .agg #[.string it.key, .int .i64 it.flags, .string it.data, .int .i64 it.upto, .int .i64 it.token]] w fun e w' => e = .returned (.agg #[.string it.key, .int .i64 it.flags, .string (it.data ++ dt), .int .i64 it.upto, .int .i64 it.token]) ∧ Below w.heap.size w w' := by
  have m1 : ¬ 9223372036854775807 < it.data.size + dt.size := by omega
  go_enter Tryz.func91, Tryz.ntmps91
  go_wp2
  exact bodyPost_ret (v := .agg #[.string it.key, .int .i64 it.flags, .string (it.data ++ dt), .int .i64 it.upto, .int .i64 it.token]) (by simp [results, Tryz.results91, go_sem]; done) rfl ⟨rfl, bel3 w _ _ _⟩

set_option maxRecDepth 10000 in
set_option maxHeartbeats 4000000 in
theorem itemOf_led (now : Int) (s : ByteArray) (a : Option Addr) (cap nk : Nat) (f x n : Int) (dt : ByteArray) (q : Bool) (it : Itm) (w : World) (h1 : dt.size ≤ 1048576) (h2 : it.data.size ≤ 1048576) (hn : s.toList = [112, 114, 101, 112, 101, 110, 100]) :
    Calls Tryz.prog 91 #[.int .i64 now, .agg #[.string s, .slice a nk cap, .int .i64 f, .int .i64 x, .int .i64 n, .string dt, .bool q], .agg #[.string it.key, .int .i64 it.flags, .string it.data, .int .i64 it.upto, .int .i64 it.token]] w fun e w' => e = .returned (.agg #[.string it.key, .int .i64 it.flags, .string (dt ++ it.data), .int .i64 it.upto, .int .i64 it.token]) ∧ Below w.heap.size w w' := by
  have m1 : ¬ 9223372036854775807 < dt.size + it.data.size := by omega
  go_enter Tryz.func91, Tryz.ntmps91
  go_wp2
  exact bodyPost_ret (v := .agg #[.string it.key, .int .i64 it.flags, .string (dt ++ it.data), .int .i64 it.upto, .int .i64 it.token]) (by simp [results, Tryz.results91, go_sem]; done) rfl ⟨rfl, bel3 w _ _ _⟩
end Shelf
end Go.Proofs.YthlcmnjaimffdaaGreatDoor
/-
  What a command leaves of the items, and its answer: plain outcomes. No Go function is spoken of here.
-/
namespace Go.Proofs.YthlcmnjaimffdaaGreatDoor
namespace Shelf
open Go.RowKit Base Items Store GoodKey NumText
set_option linter.unusedVariables false

/-- The items, the next token, how many were forgotten, the answer. -/
structure Out where
  its : List Itm
  nx : Int
  lost : Nat
  ans : ByteArray
/-- How a command's answer is told: by a return, or, where something is full, by giving up. -/
def AnsEnd (p : Addr) (ans : ByteArray) (e : Ending) : Prop := e = .returned (.string ans) ∨ (ans = fullT ∧ e = .panicked (fullP p))
def largeT : ByteArray := ⟨#[83, 69, 82, 86, 69, 82, 95, 69, 82, 82, 79, 82, 32, 108, 97, 114, 103, 101, 13, 10]⟩
def badT : ByteArray := ⟨#[67, 76, 73, 69, 78, 84, 95, 69, 82, 82, 79, 82, 32, 98, 97, 100, 13, 10]⟩
def storedT : ByteArray := ⟨#[83, 84, 79, 82, 69, 68, 13, 10]⟩
def oldO (its : List Itm) (key : ByteArray) : Itm := match atN its key with
  | some k => its.getD k zero
  | none => zero
def putO (lim nx : Int) (its : List Itm) (x : Itm) (ans : ByteArray) : Out := match putR lim nx its x with
  | none => ⟨its, nx, 0, fullT⟩
  | some (r, n) => ⟨r, nx + 1, n, ans⟩
def setO (lim nx : Int) (its : List Itm) (now : Int) (nm : List UInt8) (key : ByteArray) (f x n : Int) (dt : ByteArray) : Out :=
  if refusalR nm (atN its key).isSome (oldO its key).token n = ⟨#[]⟩ then
    (if (itemR now nm key f x dt (oldO its key)).data.size ≤ 100 then putO lim nx its (itemR now nm key f x dt (oldO its key)) storedT else ⟨its, nx, 0, largeT⟩)
  else ⟨its, nx, 0, refusalR nm (atN its key).isSome (oldO its key).token n⟩
end Shelf
end Go.Proofs.YthlcmnjaimffdaaGreatDoor
