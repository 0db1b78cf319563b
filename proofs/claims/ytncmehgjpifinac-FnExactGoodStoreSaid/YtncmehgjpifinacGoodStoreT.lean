/-
  FnExactGoodStore returns true for every store: the program's GoodStore answers as the model's, and leaves its argument alone. No condition.
-/
import Derived.Test.YtncmehgjpifinacGoodStore
import Derived.Test.YtncmehgjpifinacGoodStoreI
namespace Go.Proofs.Ytncmehgjpifinac
theorem goodStore_holds : Rows.FnExactGoodStoreSaid :=
  GoodStoreL.over (fun lim nx b off cap its w hb hc hl hcap hs => Store.impl_some lim nx b off cap its w hb hc (by unfold maxLen; omega) hcap hs)
end Go.Proofs.Ytncmehgjpifinac
