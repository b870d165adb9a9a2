
/- Contracts of package calendar: CheckPeriod, daysIn. -/
import Derived.Test.YtnakmgeompjhpaaGreatHas
import Derived.Test.YtnakmgeompjhpaaGreatTail
namespace Go.Proofs.YtnakmgeompjhpaaGreat
open Go.RowKit
def perErr (a b m : Int) : Int := fst [rng a 0 99999, rng b 0 99999, unl (decide (a ≤ b)) 11, unl (decide (wrap64 (b - a) ≤ 400)) 4, rng m 1 127]
set_option maxRecDepth 100000 in
theorem CheckPeriod_any (a b m : Int) (w : World) :
    Calls Tryz.prog 35 #[.agg #[.int .i64 a, .int .i64 b, .int .i64 m]] w fun r w' => r = .returned (.int .i64 (perErr a b m)) ∧ Below w.heap.size w w' := by
  have HP : Hid (perErr a b m = fst [rng a 0 99999, rng b 0 99999, unl (decide (a ≤ b)) 11, unl (decide (wrap64 (b - a) ≤ 400)) 4, rng m 1 127]) := Lib.hid rfl
  obtain ⟨W, HW, hb0, k0, k1, k2⟩ : ∃ W, Hid (w.alloc (.cells #[.int .i64 a, .int .i64 b, .int .i64 m] 23) = W) ∧ Below w.heap.size w W ∧ W.cell? ⟨w.heap.size, 0, none⟩ = some (.int .i64 a) ∧ W.cell? ⟨w.heap.size, 1, none⟩ = some (.int .i64 b) ∧ W.cell? ⟨w.heap.size, 2, none⟩ = some (.int .i64 m) := ⟨_, Lib.hid rfl, below_alloc w _, by simp, by simp, by simp⟩
  go_enter Tryz.func35, Tryz.ntmps35
  go_wp2_with fail
  rw [HW.out]
  refine quiet_tail_drew 22 (by kernel_rfl) (by kernel_rfl) ?_
  simp only [List.take_succ_cons, List.take_zero, List.drop_succ_cons, List.drop_zero]
  repeat (first
    | go_big_quiet_step ((first
      | (go_at_call 74; exact Calls.quiet_of_same (checkDay_any _ _))
      | (go_at_call 75; exact Calls.quiet_of_same (checkMask_any _ _))
      | (go_at_call 34; exact Calls.quiet_of_same (unless_any _ _ _)))))
  refine wpQuiet_nil ?_
  intro V hV
  have hbV : Below w.heap.size w V := by obtain ⟨nq, rfl⟩ := hV; exact hb0.trans ⟨rfl, rfl, rfl, Nat.le_refl _, fun _ _ => rfl⟩
  clear hV k0 k1 k2 hb0
  go_wp2_with fail
  refine (fe_new [_, _, _, _, _] _ _ _ _ _ rfl rfl (by simp)).mono ?_
  rintro e w2 ⟨rfl, hw⟩
  have hb2 : Below w.heap.size w w2 := by rw [hw]; exact b_then hbV (below_alloc _ _)
  clear hw
  go_wp2_with fail
  go_ret
  exact ⟨ret_int (by rw [HP.out]), hb2⟩
end Go.Proofs.YtnakmgeompjhpaaGreat
