
/- Contracts of package calendar: days of dates, Sundays, checks. -/
import Derived.Test.YtccanfeagfkehabGreatDoorCal
namespace Go.Proofs.YtccanfeagfkehabGreatDoor
open Go.RowKit
theorem weekday_any (d : Int) (w : World) (h1 : 0 ≤ d) (h2 : d ≤ 1000000) :
    Calls Tryz.prog 140 #[.int .i64 d] w fun r w' => r = .returned (.int .i64 (Cal.wd d)) ∧ w' = w := by
  go_enter Tryz.func140, Tryz.ntmps140
  go_wp2
  go_ret
  exact ⟨ret_int (by unfold Cal.wd; rfl), rfl⟩

theorem dayOf_any (y m d : Int) (w : World) (ht : HeldTab w) (h1 : 2000 ≤ y) (h2 : y ≤ 2300) (h3 : 1 ≤ m) (h4 : m ≤ 12) (h5 : 1 ≤ d) (h6 : d ≤ 31) :
    Calls Tryz.prog 139 #[.int .i64 y, .int .i64 m, .int .i64 d] w fun r w' => r = .returned (.int .i64 (Cal.dn y m.toNat d)) ∧ w' = w := by
  obtain ⟨n, rfl⟩ := Int.eq_ofNat_of_zero_le (show 0 ≤ m by omega)
  simp only [Int.toNat_natCast]
  have hdb := Cal.db_bd y h1 (by omega)
  go_enter Tryz.func139, Tryz.ntmps139
  go_wp2_with fail
  refine (daysBefore_any _ _ (by omega) (by omega)).mono ?_
  rintro e w' ⟨rfl, rfl⟩
  go_wp2_with fail
  go_loop [7, 8] (fun t i => ∃ k : Nat, 1 ≤ k ∧ k ≤ n ∧ i = .int .i64 k ∧ t = .int .i64 (Cal.db y + d - 1 + Cal.cum y (k - 1))) (fun _ i => n - (intOf i).toNat)
  case atStart => exact ⟨1, by omega, by omega, rfl, by simp [Cal.cum]⟩
  case round =>
    obtain ⟨k, hk1, hk2, rfl, rfl⟩ := hrel
    have hcb := Cal.cum_bd y (k - 1) (by omega)
    by_cases hlt : k < n
    · have hml := Cal.ml_bd y k hk1 (by omega)
      have HS : Hid (Cal.cum y k = Cal.cum y (k - 1) + Cal.ml y k) := Lib.hid (by
        obtain ⟨j, rfl⟩ : ∃ j, k = j + 1 := ⟨k - 1, by omega⟩
        rfl)
      go_wp2_with fail
      refine (monthLength_any _ _ _ ht (by omega) (by omega) (by omega) (by omega)).mono ?_
      rintro e w' ⟨rfl, rfl⟩
      rw [Int.toNat_natCast]
      go_wp2_with fail
      go_round
      case rel => exact ⟨k + 1, by omega, by omega, by go_num, by rw [Nat.add_sub_cancel, HS.out]; go_num⟩
      case measure => simp [intOf]; omega
    · obtain rfl : k = n := by omega
      go_wp2_with fail
      go_ret
      exact ⟨ret_int (by unfold Cal.dn; rfl), rfl⟩

theorem lastSunday_any (y m : Int) (w : World) (ht : HeldTab w) (h1 : 2000 ≤ y) (h2 : y ≤ 2300) (h3 : 1 ≤ m) (h4 : m ≤ 12) :
    Calls Tryz.prog 129 #[.int .i64 y, .int .i64 m] w fun r w' => r = .returned (.int .i64 (Cal.ls y m.toNat)) ∧ w' = w := by
  have hb := Cal.dn_bd y m.toNat 31 h1 h2 (by omega) (by omega) (by omega)
  have hw := Cal.wd_bd (Cal.dn y m.toNat 31)
  have HL : Hid (Cal.ls y m.toNat = Cal.dn y m.toNat 31 - (Cal.wd (Cal.dn y m.toNat 31) - 6 + 7) % 7) := Lib.hid rfl
  go_enter Tryz.func129, Tryz.ntmps129
  go_wp2_with fail
  refine (dayOf_any _ _ _ _ ht h1 h2 h3 h4 (by omega) (by omega)).mono ?_
  rintro e w' ⟨rfl, rfl⟩
  generalize Cal.dn y m.toNat 31 = n at *
  go_wp2_with fail
  refine (weekday_any _ _ (by omega) (by omega)).mono ?_
  rintro e w' ⟨rfl, rfl⟩
  go_wp2_with fail
  go_ret
  exact ⟨ret_int (by rw [HL.out]; simp), rfl⟩

theorem checkMoment_any (d : Int) (w : World) : Calls Tryz.prog 35 #[.int .i64 d] w fun r w' => r = .returned (.int .i64 (rng d 0 143999999)) ∧ w' = w := by
  go_enter Tryz.func35, Tryz.ntmps35
  go_wp2_with fail
  refine (checkRange_any _ _ _ _).mono ?_
  rintro e w' ⟨rfl, rfl⟩
  go_wp2_with fail
  go_ret
  exact ⟨rfl, rfl⟩
theorem rng_ok {n a b : Int} (h1 : a ≤ n) (h2 : n ≤ b) : rng n a b = 0 := by simp [rng, h1, h2]
theorem rng_bad {n a b : Int} (h : ¬ (a ≤ n ∧ n ≤ b)) : rng n a b = 3 := by simp only [rng, if_neg h]
end Go.Proofs.YtccanfeagfkehabGreatDoor
