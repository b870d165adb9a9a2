
/- The first test of chapter 2 by the evaluator: lines. -/
import Derived.Test.YtnakmgeompjhpaaGreatAwM
namespace Go.Proofs.YtnakmgeompjhpaaGreat
open Go Go.RowKit Ev
theorem run_M : (tblM.all fun x => runsS Tryz.prog gN2 orcA 300 lst2 x) = true := by kernel_rfl
theorem run_P : (tblP.all fun x => runsS Tryz.prog gN2 orcP 300 lst2 x) = true := by kernel_rfl
end Go.Proofs.YtnakmgeompjhpaaGreat
