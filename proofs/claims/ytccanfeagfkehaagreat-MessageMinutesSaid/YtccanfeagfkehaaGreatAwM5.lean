
/- The first test of chapter 2 by the evaluator: the whole. -/
import Derived.Test.YtccanfeagfkehaaGreatAwM
namespace Go.Proofs.YtccanfeagfkehaaGreat
open Go Go.RowKit Ev
theorem run_awake2 : runs Tryz.prog gN2 orcG 400 lst2 (4, #[], .bool true) = true := by kernel_rfl
end Go.Proofs.YtccanfeagfkehaaGreat
