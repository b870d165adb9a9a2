/- Contracts of the reference: ranges, days, periods (for seats without the reference's other functions). -/
import Derived.Test.YtnakmgeompjhpaaGreatPer
import Derived.Test.YtnakmgeompjhpaaGreatKept
namespace Go.Proofs.YtnakmgeompjhpaaGreat
open Go Go.RowKit
theorem hRange_any (n a b : Int) (w : World) :
    Calls Tryz.prog 42 #[.int .i64 n, .int .i64 a, .int .i64 b] w fun r w' => r = .returned (.int .i64 (rng n a b)) ∧ w' = w := by
  by_cases h1 : n < a
  · have H : Hid (rng n a b = 3) := Lib.hid (by unfold rng; rw [if_neg (by omega)])
    go_enter Tryz.func42, Tryz.ntmps42
    go_wp2_with fail
    go_ret
    exact ⟨by rw [H.out]; rfl, rfl⟩
  · by_cases h2 : b < n
    · have H : Hid (rng n a b = 3) := Lib.hid (by unfold rng; rw [if_neg (by omega)])
      go_enter Tryz.func42, Tryz.ntmps42
      go_wp2_with fail
      go_ret
      exact ⟨by rw [H.out]; rfl, rfl⟩
    · have H : Hid (rng n a b = 0) := Lib.hid (by unfold rng; rw [if_pos (by omega)])
      go_enter Tryz.func42, Tryz.ntmps42
      go_wp2_with fail
      go_ret
      exact ⟨by rw [H.out]; rfl, rfl⟩
theorem hDay_any (d : Int) (w : World) :
    Calls Tryz.prog 76 #[.int .i64 d] w fun r w' => r = .returned (.int .i64 (rng d 0 99999)) ∧ w' = w := by
  go_enter Tryz.func76, Tryz.ntmps76
  go_wp2_with (go_at_call 42; refine (hRange_any _ _ _ _).mono ?_; rintro e w' ⟨rfl, rfl⟩)
  go_ret
  exact ⟨rfl, rfl⟩
theorem hPer_eq (a b m : Int) :
    perErr a b m = if ¬ (0 ≤ a ∧ a ≤ 99999) then 3 else if ¬ (0 ≤ b ∧ b ≤ 99999) then 3 else if b < a then 11 else if 400 < b - a then 4 else rng m 1 127 := by
  unfold perErr
  by_cases h1 : 0 ≤ a ∧ a ≤ 99999
  · rw [if_neg (by simpa using h1)]
    by_cases h2 : 0 ≤ b ∧ b ≤ 99999
    · rw [if_neg (by simpa using h2), rng_ok h1.1 h1.2, rng_ok h2.1 h2.2]
      have hw : wrap64 (b - a) = b - a := by unfold wrap64; omega
      rw [hw]
      by_cases h3 : b < a
      · rw [if_pos h3, decide_eq_false (by omega)]
        simp [fst, unl]
      · rw [if_neg h3, decide_eq_true (by omega)]
        by_cases h4 : 400 < b - a
        · rw [if_pos h4, decide_eq_false (by omega)]
          simp [fst, unl]
        · rw [if_neg h4, decide_eq_true (by omega)]
          simp only [fst, unl, if_true]
          by_cases h5 : rng m 1 127 = 0
          · simp [h5]
          · simp [h5]
    · rw [if_pos (by simpa using h2), rng_ok h1.1 h1.2, rng_bad h2]
      simp [fst]
  · rw [if_pos (by simpa using h1), rng_bad h1]
    simp [fst]
set_option maxRecDepth 100000 in
theorem hPeriod_any (a b m : Int) (w : World) :
    Calls Tryz.prog 40 #[.agg #[.int .i64 a, .int .i64 b, .int .i64 m]] w fun r w' => r = .returned (.int .i64 (perErr a b m)) ∧ Below w.heap.size w w' := by
  obtain ⟨W, HW, hb0, hc0, hc1, hc2⟩ : ∃ W, Hid (w.alloc (.cells #[.int .i64 a, .int .i64 b, .int .i64 m] 23) = W) ∧ Below w.heap.size w W ∧ W.cell? ⟨w.heap.size, 0, none⟩ = some (.int .i64 a) ∧ W.cell? ⟨w.heap.size, 1, none⟩ = some (.int .i64 b) ∧ W.cell? ⟨w.heap.size, 2, none⟩ = some (.int .i64 m) := ⟨_, Lib.hid rfl, below_alloc w _, by simp, by simp, by simp⟩
  have HP := Lib.hid (hPer_eq a b m)
  by_cases h1 : 0 ≤ a ∧ a ≤ 99999
  · have RA : Hid (rng a 0 99999 = 0) := Lib.hid (rng_ok h1.1 h1.2)
    by_cases h2 : 0 ≤ b ∧ b ≤ 99999
    · have RB : Hid (rng b 0 99999 = 0) := Lib.hid (rng_ok h2.1 h2.2)
      by_cases h3 : b < a
      · have HQ : Hid (perErr a b m = 11) := Lib.hid (by rw [HP.out, if_neg (by simpa using h1), if_neg (by simpa using h2), if_pos h3])
        go_enter Tryz.func40, Tryz.ntmps40
        go_wp2_with fail
        rw [HW.out]
        refine (hDay_any _ _).mono ?_
        rintro e w2 ⟨rfl, hw⟩
        rw [hw, RA.out]
        clear hw
        go_wp2_with fail
        refine (hDay_any _ _).mono ?_
        rintro e w2 ⟨rfl, hw⟩
        rw [hw, RB.out]
        clear hw
        go_wp2_with fail
        go_ret
        exact ⟨by rw [HQ.out]; rfl, hb0⟩
      · by_cases h4 : 400 < b - a
        · have HQ : Hid (perErr a b m = 4) := Lib.hid (by rw [HP.out, if_neg (by simpa using h1), if_neg (by simpa using h2), if_neg h3, if_pos h4])
          go_enter Tryz.func40, Tryz.ntmps40
          go_wp2_with fail
          rw [HW.out]
          refine (hDay_any _ _).mono ?_
          rintro e w2 ⟨rfl, hw⟩
          rw [hw, RA.out]
          clear hw
          go_wp2_with fail
          refine (hDay_any _ _).mono ?_
          rintro e w2 ⟨rfl, hw⟩
          rw [hw, RB.out]
          clear hw
          go_wp2_with fail
          go_ret
          exact ⟨by rw [HQ.out]; rfl, hb0⟩
        · have HQ : Hid (perErr a b m = rng m 1 127) := Lib.hid (by rw [HP.out, if_neg (by simpa using h1), if_neg (by simpa using h2), if_neg h3, if_neg h4])
          go_enter Tryz.func40, Tryz.ntmps40
          go_wp2_with fail
          rw [HW.out]
          refine (hDay_any _ _).mono ?_
          rintro e w2 ⟨rfl, hw⟩
          rw [hw, RA.out]
          clear hw
          go_wp2_with fail
          refine (hDay_any _ _).mono ?_
          rintro e w2 ⟨rfl, hw⟩
          rw [hw, RB.out]
          clear hw
          go_wp2_with fail
          refine (hRange_any _ _ _ _).mono ?_
          rintro e w2 ⟨rfl, hw⟩
          rw [hw]
          clear hw
          go_wp2_with fail
          go_ret
          exact ⟨by rw [HQ.out]; rfl, hb0⟩
    · have RB : Hid (rng b 0 99999 = 3) := Lib.hid (rng_bad h2)
      have HQ : Hid (perErr a b m = 3) := Lib.hid (by rw [HP.out, if_neg (by simpa using h1), if_pos h2])
      go_enter Tryz.func40, Tryz.ntmps40
      go_wp2_with fail
      rw [HW.out]
      refine (hDay_any _ _).mono ?_
      rintro e w2 ⟨rfl, hw⟩
      rw [hw, RA.out]
      clear hw
      go_wp2_with fail
      refine (hDay_any _ _).mono ?_
      rintro e w2 ⟨rfl, hw⟩
      rw [hw, RB.out]
      clear hw
      go_wp2_with fail
      go_ret
      exact ⟨by rw [HQ.out]; rfl, hb0⟩
  · have RA : Hid (rng a 0 99999 = 3) := Lib.hid (rng_bad h1)
    have HQ : Hid (perErr a b m = 3) := Lib.hid (by rw [HP.out, if_pos h1])
    go_enter Tryz.func40, Tryz.ntmps40
    go_wp2_with fail
    rw [HW.out]
    refine (hDay_any _ _).mono ?_
    rintro e w2 ⟨rfl, hw⟩
    rw [hw, RA.out]
    clear hw
    go_wp2_with fail
    go_ret
    exact ⟨by rw [HQ.out]; rfl, hb0⟩
end Go.Proofs.YtnakmgeompjhpaaGreat
