/- The examples of chapter 1, run by the evaluator of closed calls: the test as a whole. -/
import Derived.Test.YtbpoljebkhccjaaGreatDoorAwData
namespace Go.Proofs.YtbpoljebkhccjaaGreatDoor
open Go Go.RowKit Ev
theorem run_awake : runs Tryz.prog gN (memo lst tblAll noOrc) 400 lst (9, #[], .bool true) = true := by kernel_rfl
end Go.Proofs.YtbpoljebkhccjaaGreatDoor
