/- The examples of chapter 1, run by the evaluator of closed calls: the test as a whole. -/
import Derived.Test.YtoaimgfekbnijaaDoorAwData
namespace Go.Proofs.YtoaimgfekbnijaaDoor
open Go Go.RowKit Ev
theorem run_awake : runs Tryd.prog gN (memo lst tblAll noOrc) 400 lst (13, #[], .bool true) = true := by kernel_rfl
end Go.Proofs.YtoaimgfekbnijaaDoor
