/- The first test of chapter 2 by the evaluator: the whole. -/
import Derived.Test.YtphoclgibnhjfaaGreatPm6
namespace Go.Proofs.YtphoclgibnhjfaaGreat
open Go Go.RowKit Ev
theorem run_awake2 : runs Tryz.prog gN2 orcG 400 lst2 (12, #[], .bool true) = true := by kernel_rfl
end Go.Proofs.YtphoclgibnhjfaaGreat
