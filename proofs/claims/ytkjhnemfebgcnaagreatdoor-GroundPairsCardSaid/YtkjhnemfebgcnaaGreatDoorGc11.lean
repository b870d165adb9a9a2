/- The first test of chapter 4 by the evaluator: seats. -/
import Derived.Test.YtkjhnemfebgcnaaGreatDoorGc8
namespace Go.Proofs.YtkjhnemfebgcnaaGreatDoor
open Go Go.RowKit Ev
theorem run_E : (tblE.all fun x => runsS Tryz.prog gN4 orcE 300 lst4 x) = true := by kernel_rfl
end Go.Proofs.YtkjhnemfebgcnaaGreatDoor
