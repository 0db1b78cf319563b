/-
  Contracts of the model's l2Now, l2Old and l2At, by plain functions of the items.
-/
import Derived.Test.YthlcmnjaimffdaaStoreS
namespace Go.Proofs.Ythlcmnjaimffdaa
namespace Store
open Go.RowKit Base GoodKey Items
set_option linter.unusedVariables false

def oldB (x : Itm) (now : Int) : Bool := (x.upto != 0) && decide (x.upto ≤ now)
def hasKey (key : ByteArray) (x : Itm) : Bool := x.key.toList == key.toList
def atN (its : List Itm) (key : ByteArray) : Option Nat := its.findIdx? (hasKey key)
def atI (its : List Itm) (key : ByteArray) : Int := match atN its key with | some k => k | none => -1
theorem atN_hit {its : List Itm} {key : ByteArray} {k : Nat} (hk : k < its.length) (hn : ∀ j, j < k → hasKey key (its.getD j zero) = false) (h : hasKey key (its.getD k zero) = true) : atN its key = some k := by
  unfold atN
  rw [List.findIdx?_eq_some_iff_getElem]
  refine ⟨hk, ?_, fun j hj => ?_⟩
  · simpa [List.getD_eq_getElem?_getD, List.getElem?_eq_getElem hk] using h
  · have := hn j hj
    rw [List.getD_eq_getElem?_getD, List.getElem?_eq_getElem (show j < its.length by omega)] at this
    simpa using this
theorem atN_none {its : List Itm} {key : ByteArray} (hn : ∀ j, j < its.length → hasKey key (its.getD j zero) = false) : atN its key = none := by
  unfold atN
  rw [List.findIdx?_eq_none_iff]
  intro x hx
  obtain ⟨j, hj, rfl⟩ := List.getElem_of_mem hx
  have := hn j hj
  rw [List.getD_eq_getElem?_getD, List.getElem?_eq_getElem hj] at this
  simpa using this
theorem atN_lt {its : List Itm} {key : ByteArray} {k : Nat} (h : atN its key = some k) : k < its.length := by
  unfold atN at h
  exact (List.findIdx?_eq_some_iff_getElem.1 h).1

set_option maxRecDepth 10000 in
set_option maxHeartbeats 400000 in
theorem l2Now_any (n : Int) (w : World) :
    Calls Try.prog 32 #[.int .i64 n] w fun e w' => e = .returned (.bool (inB n 0 1000000000)) ∧ w' = w := by
  go_enter Try.func32, Try.ntmps32
  go_wp2_with (go_at_call 22; refine (l1In_any _ _ _ _).mono ?_; rintro e w' ⟨rfl, rfl⟩)
  go_ret
  exact ⟨rfl, rfl⟩

set_option maxRecDepth 10000 in
set_option maxHeartbeats 400000 in
theorem l2Old_any (x : Itm) (now : Int) (w : World) :
    Calls Try.prog 40 #[.agg #[.string x.key, .int .i64 x.flags, .string x.data, .int .i64 x.upto, .int .i64 x.token], .int .i64 now] w fun e w' => e = .returned (.bool (oldB x now)) ∧ Below w.heap.size w w' := by
  cases h : (x.upto != 0)
  · have H : Hid (oldB x now = false) := by show oldB x now = false; rw [oldB, h]; rfl
    go_enter Try.func40, Try.ntmps40
    go_wp2
    go_ret
    exact ⟨ret_bool (unhide H).symm, bel1 w _⟩
  · have H : Hid (oldB x now = decide (x.upto ≤ now)) := by show oldB x now = _; rw [oldB, h]; rfl
    go_enter Try.func40, Try.ntmps40
    go_wp2
    go_ret
    exact ⟨ret_bool (unhide H).symm, bel1 w _⟩

set_option maxRecDepth 10000 in
set_option maxHeartbeats 400000 in
theorem l2At_some (lim nx : Int) (b off cap : Nat) (its : List Itm) (key : ByteArray) (w : World) (hb : b < w.heap.size) (hc : ∀ i, i < its.length → At w b (off + i * 5) (its.getD i zero)) (hl : its.length ≤ maxLen) :
    Calls Try.prog 39 #[.agg #[.int .i64 lim, .int .i64 nx, .slice (some ⟨b, off, none⟩) its.length cap], .string key] w fun e w' => e = .returned (.int .i64 (atI its key)) ∧ Below w.heap.size w w' := by
  unfold maxLen at hl
  have hcs := hide hc
  clear hc
  go_enter Try.func39, Try.ntmps39
  go_wp2
  go_loopw [10] (fun i wr => ∃ (k : Nat), k ≤ its.length ∧ i = .int .i64 k ∧ Hid (∀ j, j < k → hasKey key (its.getD j zero) = false) ∧ Hid (Below w.heap.size w wr)) (fun i _ => its.length - (intOf i).toNat)
  case atStart => exact ⟨0, Nat.zero_le _, rfl, hide (fun j hj => by omega), hide (bel1 w _)⟩
  case round =>
    obtain ⟨k, hk, rfl, hn, hbel⟩ := hrel
    by_cases hlt : k < its.length
    · obtain ⟨c0, c1, c2, c3, c4⟩ := (unhide hcs k hlt).below (unhide hbel) hb
      have hhit := hide (@atN_hit its key k hlt (unhide hn))
      have hmiss : Hid (hasKey key (its.getD k zero) = false → ∀ j, j < k + 1 → hasKey key (its.getD j zero) = false) := by
        intro h j hj
        by_cases e : j = k
        · rw [e]; exact h
        · exact unhide hn j (by omega)
      generalize its.getD k zero = x at c0 c1 c2 c3 c4 hhit hmiss
      have hzb := (unhide hbel).size
      cases e : (x.key.toList == key.toList)
      · have H := hide (unhide hmiss e)
        clear hhit hmiss
        go_wp2
        go_roundw
        case rel => exact ⟨k + 1, by omega, by go_num, H, hide ((unhide hbel).alloc hzb _)⟩
        case measure => simp [intOf]; omega
      · have H : Hid (atI its key = k) := by show atI its key = k; rw [atI, unhide hhit e]
        clear hhit hmiss
        go_wp2
        go_ret
        exact ⟨ret_int (unhide H).symm, (unhide hbel).alloc hzb _⟩
    · obtain rfl : k = its.length := by omega
      have H : Hid (atI its key = -1) := by show atI its key = -1; rw [atI, atN_none (unhide hn)]
      go_wp2
      go_ret
      exact ⟨ret_int (unhide H).symm, unhide hbel⟩

/-- What FindItem hands back. -/
def findB (lim nx : Int) (its : List Itm) (now : Int) (key : ByteArray) : Option Itm :=
  if gsB lim nx its = true then if inB now 0 1000000000 = true then match atN its key with | some k => if oldB (its.getD k zero) now = true then none else some (its.getD k zero) | none => none else none else none

def itemV (x : Itm) : Value := .agg #[.string x.key, .int .i64 x.flags, .string x.data, .int .i64 x.upto, .int .i64 x.token]
def findV : Option Itm → Value
  | some x => .tuple #[itemV x, .bool true]
  | none => .tuple #[itemV zero, .bool false]
theorem ret_find {o p : Option Itm} (h : o = p) : Ending.returned (findV o) = .returned (findV p) := by rw [h]

end Store
end Go.Proofs.Ythlcmnjaimffdaa
