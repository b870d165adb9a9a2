/- math/bits.OnesCount of a mask. -/
import Derived.Test.YtbpoljebkhccjaaDoorHeap
import Derived.WalkKit
namespace Go.Proofs.YtbpoljebkhccjaaDoor
open Go Go.RowKit
/-- How many weekdays a mask has. -/
def popc (m : Nat) : Nat := (List.range 7).countP (fun i => m / 2 ^ i % 2 == 1)
set_option maxRecDepth 100000 in
set_option maxHeartbeats 2000000 in
theorem ones64 (m : Nat) (h : m < 128) (w : World) :
    Calls Tryd.prog 100 #[.int .u64 m] w fun r w' => r = .returned (.int .i64 (popc m)) ∧ w' = w := by
  go_enter Tryd.func100, Tryd.ntmps100
  go_wp2_with fail
  go_ret
  refine ⟨ret_int ?_, rfl⟩
  clear w
  revert m
  decide +kernel
set_option maxRecDepth 100000 in
theorem ones (m : Nat) (h : m < 128) (w : World) :
    Calls Tryd.prog 91 #[.int .u64 m] w fun r w' => r = .returned (.int .i64 (popc m)) ∧ w' = w := by
  go_enter Tryd.func91, Tryd.ntmps91
  go_wp2_with fail
  refine (ones64 m h _).mono ?_
  rintro e w1 ⟨rfl, rfl⟩
  go_wp2_with fail
  go_ret
  exact ⟨rfl, rfl⟩
end Go.Proofs.YtbpoljebkhccjaaDoor
