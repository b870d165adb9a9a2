
/- Contracts of package calendar: days of dates, Sundays, checks. -/
import Derived.Test.YtnakmgeompjhpaaGreatCal
namespace Go.Proofs.YtnakmgeompjhpaaGreat
open Go.RowKit
theorem checkDay_any (d : Int) (w : World) : Calls Tryz.prog 74 #[.int .i64 d] w fun r w' => r = .returned (.int .i64 (rng d 0 99999)) ∧ w' = w := by
  go_enter Tryz.func74, Tryz.ntmps74
  go_wp2_with fail
  refine (checkRange_any _ _ _ _).mono ?_
  rintro e w' ⟨rfl, rfl⟩
  go_wp2_with fail
  go_ret
  exact ⟨rfl, rfl⟩
theorem checkMask_any (d : Int) (w : World) : Calls Tryz.prog 75 #[.int .i64 d] w fun r w' => r = .returned (.int .i64 (rng d 1 127)) ∧ w' = w := by
  go_enter Tryz.func75, Tryz.ntmps75
  go_wp2_with fail
  refine (checkRange_any _ _ _ _).mono ?_
  rintro e w' ⟨rfl, rfl⟩
  go_wp2_with fail
  go_ret
  exact ⟨rfl, rfl⟩
theorem rng_ok {n a b : Int} (h1 : a ≤ n) (h2 : n ≤ b) : rng n a b = 0 := by simp [rng, h1, h2]
theorem rng_bad {n a b : Int} (h : ¬ (a ≤ n ∧ n ≤ b)) : rng n a b = 3 := by simp only [rng, if_neg h]
end Go.Proofs.YtnakmgeompjhpaaGreat
