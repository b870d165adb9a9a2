/- The first test of chapter 2 by the evaluator: the whole. -/
import Derived.Test.YtlcmcknbbmokjaaGreatPm9
namespace Go.Proofs.YtlcmcknbbmokjaaGreat
open Go Go.RowKit Ev
theorem run_awake2 : runs Tryz.prog gN2 orcG 400 lst2 (15, #[], .bool true) = true := by kernel_rfl
end Go.Proofs.YtlcmcknbbmokjaaGreat
