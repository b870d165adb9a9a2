/- The first test of chapter 2 by the evaluator: lines. · The first test of chapter 2 by the evaluator: lines read. · The first test of chapter 2 by the evaluator: headers. -/
import Derived.Test.YtlcmcknbbmokjaaGreatPm9
namespace Go.Proofs.YtlcmcknbbmokjaaGreat
open Go Go.RowKit Ev
theorem run_M : (tblM.all fun x => runsS Tryz.prog gN2 orcA 300 lst2 x) = true := by kernel_rfl
theorem run_P : (tblP.all fun x => runsS Tryz.prog gN2 orcP 300 lst2 x) = true := by kernel_rfl
end Go.Proofs.YtlcmcknbbmokjaaGreat
namespace Go.Proofs.YtlcmcknbbmokjaaGreat
open Go Go.RowKit Ev
theorem run_R : (tblR.all fun x => runsS Tryz.prog gN2 orcP 300 lst2 x) = true := by kernel_rfl
end Go.Proofs.YtlcmcknbbmokjaaGreat
namespace Go.Proofs.YtlcmcknbbmokjaaGreat
open Go Go.RowKit Ev
theorem run_H : (tblH.all fun x => runsS Tryz.prog gN2 orcA 300 lst2 x) = true := by kernel_rfl
end Go.Proofs.YtlcmcknbbmokjaaGreat
