/- Contracts: the reference's Shift and CheckPeriod; turn. -/
import Derived.Test.YtoaimgfekbnijaaDoorParts1
namespace Go.Proofs.YtoaimgfekbnijaaDoor
open Go Go.RowKit
theorem tm7 (x : Int) : ((x.tmod 7) + 7).tmod 7 = x % 7 := by
  have h1 := Int.tmod_add_tdiv_mul x 7
  have h2 := Int.lt_tmod_of_pos x (show (0 : Int) < 7 by decide)
  have h3 := Int.tmod_lt_of_pos x (show (0 : Int) < 7 by decide)
  rw [Int.tmod_eq_emod_of_nonneg (by omega)]
  generalize x.tmod 7 = r at *
  generalize x.tdiv 7 = q at *
  omega
theorem tm7_bd (x : Int) : -7 < x.tmod 7 ∧ x.tmod 7 < 7 := ⟨Int.lt_tmod_of_pos x (by decide), Int.tmod_lt_of_pos x (by decide)⟩
theorem tm7e (x : Int) : ((x.tmod 7) + 7) % 7 = x % 7 := by
  have h := tm7 x
  have hb := tm7_bd x
  rwa [Int.tmod_eq_emod_of_nonneg (by omega)] at h
/-- What the exact moved mask is, as the program reckons it. -/
def tv (n s : Nat) : Int := bits BinOp.and IntKind.i64 (bits BinOp.or IntKind.i64 ((n : Int) * 2 ^ s) ((n : Int) / 2 ^ (7 - s))) 127
theorem tv_eq : ∀ n, n < 128 → ∀ s, s < 7 → tv n s = (refN n s 7 : Nat) := by decide +kernel
set_option maxRecDepth 100000 in
theorem turn_any (n s : Nat) (d : Int) (w : World) (hn : n < 128) (hs : d % 7 = (s : Int)) :
    Calls Tryd.prog 57 #[.int .i64 n, .int .i64 d] w fun r w' => r = .returned (.int .i64 (refN n s 7 : Nat)) ∧ ∃ q, w' = w.drewN q := by
  have hs7 : s < 7 := by omega
  have hb1 := (tm7_bd d).1
  have hb2 := (tm7_bd d).2
  have HT := Lib.hid (tv_eq n hn s hs7)
  have HE1 : Hid ((d.tmod 7 + 7).tmod 7 = (s : Int)) := Lib.hid (by rw [tm7]; exact hs)
  have HE2 : Hid ((d.tmod 7 + 7) % 7 = (s : Int)) := Lib.hid (by rw [tm7e]; exact hs)
  go_enter Tryd.func57, Tryd.ntmps57
  go_wp2_with fail
  first | rw [HE1.out] | rw [HE2.out]
  clear HE1 HE2 hb1 hb2 hs
  obtain rfl | rfl | rfl | rfl | rfl | rfl | rfl : s = 0 ∨ s = 1 ∨ s = 2 ∨ s = 3 ∨ s = 4 ∨ s = 5 ∨ s = 6 := by omega
  all_goals
    go_quiet (fail)
    go_wp2_with fail
    go_ret
    exact ⟨by rw [← HT.out]; first | rfl | (unfold tv; rw [show (n : Int) * 2 ^ 0 = n from by simp]; rfl), nq, rfl⟩
theorem perErr_eq (a b m : Int) :
    perErr a b m = if ¬ (0 ≤ a ∧ a ≤ 99999) then 3 else if ¬ (0 ≤ b ∧ b ≤ 99999) then 3 else if b < a then 11 else if 400 < b - a then 4 else rng m 1 127 := by
  unfold perErr
  by_cases h1 : 0 ≤ a ∧ a ≤ 99999
  · rw [if_neg (by simpa using h1)]
    by_cases h2 : 0 ≤ b ∧ b ≤ 99999
    · rw [if_neg (by simpa using h2), rng_ok h1.1 h1.2, rng_ok h2.1 h2.2]
      have hw : wrap64 (b - a) = b - a := by unfold wrap64; omega
      rw [hw]
      by_cases h3 : b < a
      · rw [if_pos h3, decide_eq_false (by omega)]
        simp [fst, unl]
      · rw [if_neg h3, decide_eq_true (by omega)]
        by_cases h4 : 400 < b - a
        · rw [if_pos h4, decide_eq_false (by omega)]
          simp [fst, unl]
        · rw [if_neg h4, decide_eq_true (by omega)]
          simp only [fst, unl, if_true]
          by_cases h5 : rng m 1 127 = 0
          · simp [h5]
          · simp [h5]
    · rw [if_pos (by simpa using h2), rng_ok h1.1 h1.2, rng_bad h2]
      simp [fst]
  · rw [if_pos (by simpa using h1), rng_bad h1]
    simp [fst]
set_option maxRecDepth 100000 in
theorem qCheckPeriod_any (a b m : Int) (w : World) :
    Calls Tryd.prog 16 #[.agg #[.int .i64 a, .int .i64 b, .int .i64 m]] w fun r w' => r = .returned (.int .i64 (perErr a b m)) ∧ Below w.heap.size w w' := by
  obtain ⟨W, HW, hb0, hc0, hc1, hc2⟩ : ∃ W, Hid (w.alloc (.cells #[.int .i64 a, .int .i64 b, .int .i64 m] 23) = W) ∧ Below w.heap.size w W ∧ W.cell? ⟨w.heap.size, 0, none⟩ = some (.int .i64 a) ∧ W.cell? ⟨w.heap.size, 1, none⟩ = some (.int .i64 b) ∧ W.cell? ⟨w.heap.size, 2, none⟩ = some (.int .i64 m) := ⟨_, Lib.hid rfl, below_alloc w _, by simp, by simp, by simp⟩
  have HP := Lib.hid (perErr_eq a b m)
  by_cases h1 : 0 ≤ a ∧ a ≤ 99999
  · have RA : Hid (rng a 0 99999 = 0) := Lib.hid (rng_ok h1.1 h1.2)
    by_cases h2 : 0 ≤ b ∧ b ≤ 99999
    · have RB : Hid (rng b 0 99999 = 0) := Lib.hid (rng_ok h2.1 h2.2)
      by_cases h3 : b < a
      · have HQ : Hid (perErr a b m = 11) := Lib.hid (by rw [HP.out, if_neg (by simpa using h1), if_neg (by simpa using h2), if_pos h3])
        go_enter Tryd.func16, Tryd.ntmps16
        go_wp2_with fail
        rw [HW.out]
        refine (qCheckDay_any _ _).mono ?_
        rintro e w2 ⟨rfl, hw⟩
        rw [hw, RA.out]
        clear hw
        go_wp2_with fail
        refine (qCheckDay_any _ _).mono ?_
        rintro e w2 ⟨rfl, hw⟩
        rw [hw, RB.out]
        clear hw
        go_wp2_with fail
        go_ret
        exact ⟨by rw [HQ.out]; rfl, hb0⟩
      · by_cases h4 : 400 < b - a
        · have HQ : Hid (perErr a b m = 4) := Lib.hid (by rw [HP.out, if_neg (by simpa using h1), if_neg (by simpa using h2), if_neg h3, if_pos h4])
          go_enter Tryd.func16, Tryd.ntmps16
          go_wp2_with fail
          rw [HW.out]
          refine (qCheckDay_any _ _).mono ?_
          rintro e w2 ⟨rfl, hw⟩
          rw [hw, RA.out]
          clear hw
          go_wp2_with fail
          refine (qCheckDay_any _ _).mono ?_
          rintro e w2 ⟨rfl, hw⟩
          rw [hw, RB.out]
          clear hw
          go_wp2_with fail
          go_ret
          exact ⟨by rw [HQ.out]; rfl, hb0⟩
        · have HQ : Hid (perErr a b m = rng m 1 127) := Lib.hid (by rw [HP.out, if_neg (by simpa using h1), if_neg (by simpa using h2), if_neg h3, if_neg h4])
          go_enter Tryd.func16, Tryd.ntmps16
          go_wp2_with fail
          rw [HW.out]
          refine (qCheckDay_any _ _).mono ?_
          rintro e w2 ⟨rfl, hw⟩
          rw [hw, RA.out]
          clear hw
          go_wp2_with fail
          refine (qCheckDay_any _ _).mono ?_
          rintro e w2 ⟨rfl, hw⟩
          rw [hw, RB.out]
          clear hw
          go_wp2_with fail
          refine (qRange_any _ _ _ _).mono ?_
          rintro e w2 ⟨rfl, hw⟩
          rw [hw]
          clear hw
          go_wp2_with fail
          go_ret
          exact ⟨by rw [HQ.out]; rfl, hb0⟩
    · have RB : Hid (rng b 0 99999 = 3) := Lib.hid (rng_bad h2)
      have HQ : Hid (perErr a b m = 3) := Lib.hid (by rw [HP.out, if_neg (by simpa using h1), if_pos h2])
      go_enter Tryd.func16, Tryd.ntmps16
      go_wp2_with fail
      rw [HW.out]
      refine (qCheckDay_any _ _).mono ?_
      rintro e w2 ⟨rfl, hw⟩
      rw [hw, RA.out]
      clear hw
      go_wp2_with fail
      refine (qCheckDay_any _ _).mono ?_
      rintro e w2 ⟨rfl, hw⟩
      rw [hw, RB.out]
      clear hw
      go_wp2_with fail
      go_ret
      exact ⟨by rw [HQ.out]; rfl, hb0⟩
  · have RA : Hid (rng a 0 99999 = 3) := Lib.hid (rng_bad h1)
    have HQ : Hid (perErr a b m = 3) := Lib.hid (by rw [HP.out, if_pos h1])
    go_enter Tryd.func16, Tryd.ntmps16
    go_wp2_with fail
    rw [HW.out]
    refine (qCheckDay_any _ _).mono ?_
    rintro e w2 ⟨rfl, hw⟩
    rw [hw, RA.out]
    clear hw
    go_wp2_with fail
    go_ret
    exact ⟨by rw [HQ.out]; rfl, hb0⟩
end Go.Proofs.YtoaimgfekbnijaaDoor
