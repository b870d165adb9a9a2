/- Contracts of package calendar: days of dates, Sundays, checks. -/
import Derived.Test.YtoaimgfekbnijaaDoorCal
namespace Go.Proofs.YtoaimgfekbnijaaDoor
open Go.RowKit
theorem weekday_any (d : Int) (w : World) (h1 : 0 ≤ d) (h2 : d ≤ 1000000) :
    Calls Tryd.prog 72 #[.int .i64 d] w fun r w' => r = .returned (.int .i64 (Cal.wd d)) ∧ w' = w := by
  go_enter Tryd.func72, Tryd.ntmps72
  go_wp2
  go_ret
  exact ⟨ret_int (by unfold Cal.wd; rfl), rfl⟩
theorem week_any (d : Int) (w : World) (h1 : 0 ≤ d) (h2 : d ≤ 1000000) :
    Calls Tryd.prog 63 #[.int .i64 d] w fun r w' => r = .returned (.int .i64 ((d + 5) / 7)) ∧ w' = w := by
  go_enter Tryd.func63, Tryd.ntmps63
  go_wp2
  go_ret
  exact ⟨rfl, rfl⟩

theorem dayOf_any (y m d : Int) (w : World) (ht : HeldTab w) (h1 : 2000 ≤ y) (h2 : y ≤ 2300) (h3 : 1 ≤ m) (h4 : m ≤ 12) (h5 : 1 ≤ d) (h6 : d ≤ 31) :
    Calls Tryd.prog 68 #[.int .i64 y, .int .i64 m, .int .i64 d] w fun r w' => r = .returned (.int .i64 (Cal.dn y m.toNat d)) ∧ w' = w := by
  obtain ⟨n, rfl⟩ := Int.eq_ofNat_of_zero_le (show 0 ≤ m by omega)
  simp only [Int.toNat_natCast]
  have hdb := Cal.db_bd y h1 (by omega)
  go_enter Tryd.func68, Tryd.ntmps68
  go_wp2_with fail
  refine (daysBefore_any _ _ (by omega) (by omega)).mono ?_
  rintro e w' ⟨rfl, rfl⟩
  go_wp2_with fail
  go_loop [7, 8] (fun t i => ∃ k : Nat, 1 ≤ k ∧ k ≤ n ∧ i = .int .i64 k ∧ t = .int .i64 (Cal.db y + d - 1 + Cal.cum y (k - 1))) (fun _ i => n - (intOf i).toNat)
  case atStart => exact ⟨1, by omega, by omega, rfl, by simp [Cal.cum]⟩
  case round =>
    obtain ⟨k, hk1, hk2, rfl, rfl⟩ := hrel
    have hcb := Cal.cum_bd y (k - 1) (by omega)
    by_cases hlt : k < n
    · have hml := Cal.ml_bd y k hk1 (by omega)
      have HS : Hid (Cal.cum y k = Cal.cum y (k - 1) + Cal.ml y k) := Lib.hid (by
        obtain ⟨j, rfl⟩ : ∃ j, k = j + 1 := ⟨k - 1, by omega⟩
        rfl)
      go_wp2_with fail
      refine (monthLength_any _ _ _ ht (by omega) (by omega) (by omega) (by omega)).mono ?_
      rintro e w' ⟨rfl, rfl⟩
      rw [Int.toNat_natCast]
      go_wp2_with fail
      go_round
      case rel => exact ⟨k + 1, by omega, by omega, by go_num, by rw [Nat.add_sub_cancel, HS.out]; go_num⟩
      case measure => simp [intOf]; omega
    · obtain rfl : k = n := by omega
      go_wp2_with fail
      go_ret
      exact ⟨ret_int (by unfold Cal.dn; rfl), rfl⟩

theorem yearOf_any (d y : Int) (w : World) (h0 : 0 ≤ d) (h3 : d ≤ 109000) (h4 : Cal.db y ≤ d) (h5 : d < Cal.db (y + 1)) (h1 : 2000 ≤ y) (h2 : y ≤ 2300) :
    Calls Tryd.prog 79 #[.int .i64 d] w fun r w' => r = .returned (.int .i64 y) ∧ w' = w := by
  have hs : 2000 + d / 366 ≤ y := by
    have := Cal.db_lo (y + 1) (by omega) (by omega)
    omega
  go_enter Tryd.func79, Tryd.ntmps79
  go_wp2_with fail
  go_loop [3] (fun t => ∃ z : Int, 2000 ≤ z ∧ z ≤ y ∧ t = .int .i64 z) (fun t => (y - intOf t).toNat)
  case atStart => exact ⟨_, by omega, hs, rfl⟩
  case round =>
    obtain ⟨z, hz1, hz2, rfl⟩ := hrel
    by_cases hlt : z < y
    · have hle : Cal.db (z + 1) ≤ d := by have := Cal.db_mono (z + 1) y (by omega); omega
      go_wp2_with fail
      refine (daysBefore_any _ _ (by omega) (by omega)).mono ?_
      rintro e w' ⟨rfl, rfl⟩
      go_wp2_with fail
      go_round
      case rel => exact ⟨z + 1, by omega, by omega, rfl⟩
      case measure => simp [intOf]; omega
    · obtain rfl : z = y := by omega
      go_wp2_with fail
      refine (daysBefore_any _ _ (by omega) (by omega)).mono ?_
      rintro e w' ⟨rfl, rfl⟩
      go_wp2_with fail
      go_ret
      exact ⟨rfl, rfl⟩

theorem lastSunday_any (y m : Int) (w : World) (ht : HeldTab w) (h1 : 2000 ≤ y) (h2 : y ≤ 2300) (h3 : 1 ≤ m) (h4 : m ≤ 12) :
    Calls Tryd.prog 80 #[.int .i64 y, .int .i64 m] w fun r w' => r = .returned (.int .i64 (Cal.ls y m.toNat)) ∧ w' = w := by
  have hb := Cal.dn_bd y m.toNat 31 h1 h2 (by omega) (by omega) (by omega)
  have hw := Cal.wd_bd (Cal.dn y m.toNat 31)
  have HL : Hid (Cal.ls y m.toNat = Cal.dn y m.toNat 31 - (Cal.wd (Cal.dn y m.toNat 31) - 6 + 7) % 7) := Lib.hid rfl
  go_enter Tryd.func80, Tryd.ntmps80
  go_wp2_with fail
  refine (dayOf_any _ _ _ _ ht h1 h2 h3 h4 (by omega) (by omega)).mono ?_
  rintro e w' ⟨rfl, rfl⟩
  generalize Cal.dn y m.toNat 31 = n at *
  go_wp2_with fail
  refine (weekday_any _ _ (by omega) (by omega)).mono ?_
  rintro e w' ⟨rfl, rfl⟩
  go_wp2_with fail
  go_ret
  exact ⟨ret_int (by rw [HL.out]; simp), rfl⟩

theorem checkDay_any (d : Int) (w : World) : Calls Tryd.prog 66 #[.int .i64 d] w fun r w' => r = .returned (.int .i64 (rng d 0 99999)) ∧ w' = w := by
  go_enter Tryd.func66, Tryd.ntmps66
  go_wp2_with fail
  refine (checkRange_any _ _ _ _).mono ?_
  rintro e w' ⟨rfl, rfl⟩
  go_wp2_with fail
  go_ret
  exact ⟨rfl, rfl⟩
theorem checkMoment_any (d : Int) (w : World) : Calls Tryd.prog 83 #[.int .i64 d] w fun r w' => r = .returned (.int .i64 (rng d 0 143999999)) ∧ w' = w := by
  go_enter Tryd.func83, Tryd.ntmps83
  go_wp2_with fail
  refine (checkRange_any _ _ _ _).mono ?_
  rintro e w' ⟨rfl, rfl⟩
  go_wp2_with fail
  go_ret
  exact ⟨rfl, rfl⟩
theorem checkOffset_any (d : Int) (w : World) : Calls Tryd.prog 98 #[.int .i64 d] w fun r w' => r = .returned (.int .i64 (rng d (-720) 840)) ∧ w' = w := by
  go_enter Tryd.func98, Tryd.ntmps98
  go_wp2_with fail
  refine (checkRange_any _ _ _ _).mono ?_
  rintro e w' ⟨rfl, rfl⟩
  go_wp2_with fail
  go_ret
  exact ⟨rfl, rfl⟩
theorem checkMask_any (d : Int) (w : World) : Calls Tryd.prog 90 #[.int .i64 d] w fun r w' => r = .returned (.int .i64 (rng d 1 127)) ∧ w' = w := by
  go_enter Tryd.func90, Tryd.ntmps90
  go_wp2_with fail
  refine (checkRange_any _ _ _ _).mono ?_
  rintro e w' ⟨rfl, rfl⟩
  go_wp2_with fail
  go_ret
  exact ⟨rfl, rfl⟩
theorem rng_ok {n a b : Int} (h1 : a ≤ n) (h2 : n ≤ b) : rng n a b = 0 := by simp [rng, h1, h2]
theorem rng_bad {n a b : Int} (h : ¬ (a ≤ n ∧ n ≤ b)) : rng n a b = 3 := by simp only [rng, if_neg h]
theorem Weekday_any (d : Int) (w : World) :
    Calls Tryd.prog 29 #[.int .i64 d] w fun r w' => r = .returned (num2 (rng d 0 99999) (Cal.wd d)) ∧ w' = w := by
  by_cases h : 0 ≤ d ∧ d ≤ 99999
  · have HR : Hid (rng d 0 99999 = 0) := Lib.hid (rng_ok h.1 h.2)
    obtain ⟨h1, h2⟩ := h
    go_enter Tryd.func29, Tryd.ntmps29
    go_wp2_with fail
    refine (checkDay_any _ _).mono ?_
    rintro e w' ⟨rfl, rfl⟩
    rw [HR.out]
    go_wp2_with fail
    refine (weekday_any _ _ (by omega) (by omega)).mono ?_
    rintro e w' ⟨rfl, rfl⟩
    go_wp2_with fail
    go_ret2
    exact ⟨by rw [HR.out]; rfl, rfl⟩
  · have HR : Hid (rng d 0 99999 = 3) := Lib.hid (rng_bad h)
    clear h
    go_enter Tryd.func29, Tryd.ntmps29
    go_wp2_with fail
    refine (checkDay_any _ _).mono ?_
    rintro e w' ⟨rfl, rfl⟩
    rw [HR.out]
    go_wp2_with fail
    go_ret2
    exact ⟨by rw [HR.out]; rfl, rfl⟩
end Go.Proofs.YtoaimgfekbnijaaDoor
