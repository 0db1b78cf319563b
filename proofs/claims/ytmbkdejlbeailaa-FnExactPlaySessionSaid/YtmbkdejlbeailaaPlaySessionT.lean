/-
  FnExactPlaySession returns true for every slice of numbers and every slice of texts: the program's PlaySession answers as the model's, and leaves its arguments alone. No condition.
-/
import Derived.Test.YtmbkdejlbeailaaPlaySession
namespace Go.Proofs.Ytmbkdejlbeailaa
theorem playSession_holds : Rows.FnExactPlaySessionSaid := PlaySessionL.over Rnd.play_any
end Go.Proofs.Ytmbkdejlbeailaa
