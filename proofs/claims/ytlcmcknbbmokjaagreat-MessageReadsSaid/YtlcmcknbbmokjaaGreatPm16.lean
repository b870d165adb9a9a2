/- The first test of chapter 2 by the evaluator: small calls. -/
import Derived.Test.YtlcmcknbbmokjaaGreatPm9
namespace Go.Proofs.YtlcmcknbbmokjaaGreat
open Go Go.RowKit Ev
theorem run_A : (tblA.all fun x => runsS Tryz.prog gN2 noOrc 300 lst2 x) = true := by kernel_rfl
theorem run_D : (tblD.all fun x => runsS Tryz.prog gN2 noOrc 300 lst2 x) = true := by kernel_rfl
theorem run_N : (tblN.all fun x => runsS Tryz.prog gN2 noOrc 300 lst2 x) = true := by kernel_rfl
theorem run_B : (tblB.all fun x => runsS Tryz.prog gN2 orcA 300 lst2 x) = true := by kernel_rfl
theorem run_C : (tblC.all fun x => runsS Tryz.prog gN2 orcB 300 lst2 x) = true := by kernel_rfl
end Go.Proofs.YtlcmcknbbmokjaaGreat
