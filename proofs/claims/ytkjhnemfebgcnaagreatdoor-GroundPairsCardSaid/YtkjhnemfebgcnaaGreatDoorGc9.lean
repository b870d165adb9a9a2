/- The first test of chapter 4 by the evaluator: small calls. -/
import Derived.Test.YtkjhnemfebgcnaaGreatDoorGc8
namespace Go.Proofs.YtkjhnemfebgcnaaGreatDoor
open Go Go.RowKit Ev
theorem run_A : (tblA.all fun x => runsS Tryz.prog gN4 noOrc 300 lst4 x) = true := by kernel_rfl
theorem run_A2 : (tblA2.all fun x => runsS Tryz.prog gN4 noOrc 300 lst4 x) = true := by kernel_rfl
theorem run_A3 : (tblA3.all fun x => runsS Tryz.prog gN4 noOrc 300 lst4 x) = true := by kernel_rfl
theorem run_B : (tblB.all fun x => runsS Tryz.prog gN4 orcA 300 lst4 x) = true := by kernel_rfl
theorem run_B2 : (tblB2.all fun x => runsS Tryz.prog gN4 orcA23 300 lst4 x) = true := by kernel_rfl
theorem run_C : (tblC.all fun x => runsS Tryz.prog gN4 orcAB 300 lst4 x) = true := by kernel_rfl
end Go.Proofs.YtkjhnemfebgcnaaGreatDoor
