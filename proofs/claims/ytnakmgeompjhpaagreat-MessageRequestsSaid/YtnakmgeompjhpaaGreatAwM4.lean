
/- The first test of chapter 2 by the evaluator: headers. -/
import Derived.Test.YtnakmgeompjhpaaGreatAwM
namespace Go.Proofs.YtnakmgeompjhpaaGreat
open Go Go.RowKit Ev
theorem run_H : (tblH.all fun x => runsS Tryz.prog gN2 orcA 300 lst2 x) = true := by kernel_rfl
end Go.Proofs.YtnakmgeompjhpaaGreat
