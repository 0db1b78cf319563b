/-
  FnExactGoodStore returns true for every store: the program's GoodStore answers as the model's, and leaves its argument alone. No condition.
-/
import Derived.Test.YthlcmnjaimffdaaGoodStore
import Derived.Test.YthlcmnjaimffdaaGoodStoreI
namespace Go.Proofs.Ythlcmnjaimffdaa
theorem goodStore_holds : Rows.FnExactGoodStoreSaid :=
  GoodStoreL.over (fun lim nx b off cap its w hb hc hl hcap hs => Store.impl_some lim nx b off cap its w hb hc (by unfold maxLen; omega) hcap hs)
end Go.Proofs.Ythlcmnjaimffdaa
