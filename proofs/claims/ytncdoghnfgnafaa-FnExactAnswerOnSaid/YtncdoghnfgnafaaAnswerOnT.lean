/-
  FnExactAnswerOn returns true for every lane and numbers: the program's AnswerOn answers as the model's, leaves its argument alone, and its answer owns its memory. No condition.
-/
import Derived.Test.YtncdoghnfgnafaaAnswerOn
import Derived.Test.YtncdoghnfgnafaaAnswerI
namespace Go.Proofs.Ytncdoghnfgnafaa
theorem answerOn_holds : Rows.FnExactAnswerOnSaid := AnswerOnL.over Lanes.answerI_some
end Go.Proofs.Ytncdoghnfgnafaa
