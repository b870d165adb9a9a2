
/- The first test of chapter 2 by the evaluator: lines read. -/
import Derived.Test.YtnakmgeompjhpaaGreatAwM
namespace Go.Proofs.YtnakmgeompjhpaaGreat
open Go Go.RowKit Ev
theorem run_R : (tblR.all fun x => runsS Tryz.prog gN2 orcP 300 lst2 x) = true := by kernel_rfl
end Go.Proofs.YtnakmgeompjhpaaGreat
