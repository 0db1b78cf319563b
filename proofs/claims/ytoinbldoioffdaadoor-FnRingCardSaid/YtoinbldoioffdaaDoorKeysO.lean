/-
  The program's goodKeys and the model's l3Keys at any slice of texts, also one that holds nothing.
-/
import Derived.Test.YtoinbldoioffdaaDoorKeysI
import Derived.Test.YtoinbldoioffdaaDoorKeysS
namespace Go.Proofs.YtoinbldoioffdaaDoor
namespace Ring
open Go.RowKit Base KeysS
set_option linter.unusedVariables false

set_option maxRecDepth 10000 in
set_option maxHeartbeats 400000 in
theorem ikeys_nil (ka : Option Addr) (kc : Nat) (w : World) : Calls Tryd.prog 13 #[.slice ka 0 kc, .int .i64 0, .int .i64 60] w fun e w' => e = .returned (.bool true) ∧ Below w.heap.size w w' := by
  go_enter Tryd.func13, Tryd.ntmps13
  go_wp2_with fail
  go_loopw [21] (fun iv wr => iv = .int .i64 0 ∧ Hid (Below w.heap.size w wr)) (fun _ _ => 0)
  case atStart => exact ⟨rfl, hide (Below.refl _ _)⟩
  case round =>
    obtain ⟨rfl, hb⟩ := hrel
    go_wp2
    go_ret
    exact ⟨rfl, unhide hb⟩
set_option maxRecDepth 10000 in
set_option maxHeartbeats 400000 in
theorem skeys_nil (ka : Option Addr) (kc : Nat) (w : World) : Calls Tryd.prog 17 #[.slice ka 0 kc] w fun e w' => e = .returned (.bool true) ∧ Below w.heap.size w w' := by
  go_enter Tryd.func17, Tryd.ntmps17
  go_wp2_with fail
  go_loopw [7] (fun iv wr => iv = .int .i64 0 ∧ Hid (Below w.heap.size w wr)) (fun _ _ => 0)
  case atStart => exact ⟨rfl, hide (Below.refl _ _)⟩
  case round =>
    obtain ⟨rfl, hb⟩ := hrel
    go_wp2
    go_ret
    exact ⟨rfl, unhide hb⟩
theorem kB_nil : kB [] = true := by decide
theorem ikeys_opt (ka : Option Addr) (kc : Nat) (ks : List ByteArray) (w : World) (hck : StrsAt w ka ks) (hkl : ks.length ≤ maxLen) (hks : ∀ s ∈ ks, s.size ≤ maxLen) :
    Calls Tryd.prog 13 #[.slice ka ks.length kc, .int .i64 0, .int .i64 60] w fun e w' => e = .returned (.bool (kB ks)) ∧ Below w.heap.size w w' := by
  by_cases h0 : ks = []
  · subst h0
    rw [kB_nil]
    exact ikeys_nil ka kc w
  · obtain ⟨kb, ko, rfl, hkb, hkc⟩ := hck h0
    exact KeysI.keys_any kb ko kc ks 0 60 w hkb hkc hkl hks
theorem skeys_opt (ka : Option Addr) (kc : Nat) (ks : List ByteArray) (w : World) (hck : StrsAt w ka ks) (hkl : ks.length ≤ maxLen) (hks : ∀ s ∈ ks, s.size ≤ maxLen) :
    Calls Tryd.prog 17 #[.slice ka ks.length kc] w fun e w' => e = .returned (.bool (kB ks)) ∧ Below w.heap.size w w' := by
  by_cases h0 : ks = []
  · subst h0
    rw [kB_nil]
    exact skeys_nil ka kc w
  · obtain ⟨kb, ko, rfl, hkb, hkc⟩ := hck h0
    exact (mkeys_any kb ko kc ks w hkb hkc hkl hks).mono fun e w' h => ⟨h.1, by rw [h.2]; exact Below.refl _ _⟩
end Ring
end Go.Proofs.YtoinbldoioffdaaDoor
