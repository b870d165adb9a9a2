
/- The first test of chapter 2 by the evaluator: messages. -/
import Derived.Test.YtnakmgeompjhpaaGreatAwM
namespace Go.Proofs.YtnakmgeompjhpaaGreat
open Go Go.RowKit Ev
theorem run_Q3 : (tblQ3.all fun x => runsS Tryz.prog gN2 orcL 300 lst2 x) = true := by kernel_rfl
end Go.Proofs.YtnakmgeompjhpaaGreat
