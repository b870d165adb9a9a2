/- The first test of chapter 4 by the evaluator: assignments. -/
import Derived.Test.YtkjhnemfebgcnaaGreatDoorGc8
namespace Go.Proofs.YtkjhnemfebgcnaaGreatDoor
open Go Go.RowKit Ev
theorem run_R : (tblR.all fun x => runsR Tryz.prog gN4 orcABC 300 lst4 x) = true := by kernel_rfl
theorem run_F : (tblF.all fun x => runsS Tryz.prog gN4 orcABC 300 lst4 x) = true := by kernel_rfl
end Go.Proofs.YtkjhnemfebgcnaaGreatDoor
