/-
  FnExactHashKey returns true for every string: the statement, whole, no condition.
-/
import Derived.Test.YtcbmdloapmmghaaHashKey
import Derived.Test.YtcbmdloapmmghaaHashI
namespace Go.Proofs.Ytcbmdloapmmghaa
open Go.RowKit Base Hash
theorem hashKey_holds : Rows.FnExactHashKeySaid :=
  HashKeyL.over fun s w hs => (hash_any s w (by unfold maxLen; omega)).mono fun e w' ⟨he, hw⟩ => ⟨he, by rw [hw]; exact Below.refl _ _⟩
end Go.Proofs.Ytcbmdloapmmghaa
