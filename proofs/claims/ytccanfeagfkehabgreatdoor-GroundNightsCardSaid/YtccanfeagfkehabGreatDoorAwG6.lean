
/- The statements' first test: the program returns the results of the examples of chapter 4. -/
import Derived.Test.YtccanfeagfkehabGreatDoorAwG1
import Derived.Test.YtccanfeagfkehabGreatDoorAwG2
import Derived.Test.YtccanfeagfkehabGreatDoorAwG3
import Derived.Test.YtccanfeagfkehabGreatDoorAwG4
import Derived.Test.YtccanfeagfkehabGreatDoorAwG5
namespace Go.Proofs.YtccanfeagfkehabGreatDoor
open Go Go.RowKit Ev
theorem no_orc : OrcOk Tryz.prog gN4 noOrc := orc_none _ _
theorem kA : ∀ x ∈ tblA, KnownS Tryz.prog gN4 lst4 x := knownS_all no_orc good_lst4 run_A
theorem kA2 : ∀ x ∈ tblA2, KnownS Tryz.prog gN4 lst4 x := knownS_all no_orc good_lst4 run_A2
theorem kA3 : ∀ x ∈ tblA3, KnownS Tryz.prog gN4 lst4 x := knownS_all no_orc good_lst4 run_A3
theorem known_app {l m : TblS} (hl : ∀ x ∈ l, KnownS Tryz.prog gN4 lst4 x) (hm : ∀ x ∈ m, KnownS Tryz.prog gN4 lst4 x) : ∀ x ∈ l ++ m, KnownS Tryz.prog gN4 lst4 x := fun x hx => by
  rcases List.mem_append.1 hx with h | h
  · exact hl x h
  · exact hm x h
theorem oA : OrcOk Tryz.prog gN4 orcA := memoS_ok good_lst4 (by kernel_rfl) kA no_orc
theorem kB : ∀ x ∈ tblB, KnownS Tryz.prog gN4 lst4 x := knownS_all oA good_lst4 run_B
theorem oA23 : OrcOk Tryz.prog gN4 orcA23 := memoS_ok good_lst4 (by kernel_rfl) (known_app kA2 kA) no_orc
theorem kB2 : ∀ x ∈ tblB2, KnownS Tryz.prog gN4 lst4 x := knownS_all oA23 good_lst4 run_B2
theorem oAB : OrcOk Tryz.prog gN4 orcAB := memoS_ok good_lst4 (by kernel_rfl) (known_app kB kA) no_orc
theorem kC : ∀ x ∈ tblC, KnownS Tryz.prog gN4 lst4 x := knownS_all oAB good_lst4 run_C
theorem oABC : OrcOk Tryz.prog gN4 orcABC := memoS_ok good_lst4 (by kernel_rfl) (known_app (known_app kC kB) kA) no_orc
theorem kD : ∀ x ∈ tblD, KnownS Tryz.prog gN4 lst4 x := knownS_all oABC good_lst4 run_D
theorem kF : ∀ x ∈ tblF, KnownS Tryz.prog gN4 lst4 x := knownS_all oABC good_lst4 run_F
theorem kR : ∀ x ∈ tblR, KnownR Tryz.prog gN4 lst4 x := knownR_all oABC good_lst4 run_R
theorem oD : OrcOk Tryz.prog gN4 orcD := memoS_ok good_lst4 (by kernel_rfl) kD no_orc
theorem kR2 : ∀ x ∈ tblR2, KnownR Tryz.prog gN4 lst4 x := knownR_all oD good_lst4 run_R2
theorem oE : OrcOk Tryz.prog gN4 orcE := memoS_ok good_lst4 (by kernel_rfl) (known_app (known_app (known_app kB2 kA3) kA2) kA) no_orc
theorem kE : ∀ x ∈ tblE, KnownS Tryz.prog gN4 lst4 x := knownS_all oE good_lst4 run_E
theorem oG : OrcOk Tryz.prog gN4 orcG := memoR_ok good_lst4 (by kernel_rfl) (fun x hx => (List.mem_append.1 hx).elim (kR x) (kR2 x)) (memoS_ok good_lst4 (by kernel_rfl) (known_app (known_app (known_app (known_app kD kF) kE) kB2) kA3) no_orc)
theorem awake4_true (w : World) (h : Reads lst4 w) : Calls Tryz.prog 4 #[] w fun e w' => e = .returned (.bool true) ∧ Below w.heap.size w w' :=
  (known oG good_lst4 run_awake4).calls w h
end Go.Proofs.YtccanfeagfkehabGreatDoor
