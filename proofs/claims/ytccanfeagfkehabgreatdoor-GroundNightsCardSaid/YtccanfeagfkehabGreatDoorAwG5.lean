
/- The first test of chapter 4 by the evaluator: the whole. -/
import Derived.Test.YtccanfeagfkehabGreatDoorAwG
namespace Go.Proofs.YtccanfeagfkehabGreatDoor
open Go Go.RowKit Ev
theorem run_awake4 : runs Tryz.prog gN4 orcG 400 lst4 (4, #[], .bool true) = true := by kernel_rfl
end Go.Proofs.YtccanfeagfkehabGreatDoor
