/- Contracts: the reference's months, years and days of dates. -/
import Derived.Test.YtbpoljebkhccjaaGreatDoorTurnMath
namespace Go.Proofs.YtbpoljebkhccjaaGreatDoor
open Go Go.RowKit
theorem leap_4 {y : Int} (h : y % 4 ≠ 0) : Cal.leap y = false := by unfold Cal.leap Cal.lp; exact decide_eq_false (by omega)
theorem leap_100 {y : Int} (h4 : y % 4 = 0) (h : y % 100 ≠ 0) : Cal.leap y = true := by unfold Cal.leap Cal.lp; exact decide_eq_true (by omega)
theorem leap_400 {y : Int} (h : y % 400 = 0) : Cal.leap y = true := by unfold Cal.leap Cal.lp; exact decide_eq_true (by omega)
theorem leap_no {y : Int} (h1 : y % 100 = 0) (h : y % 400 ≠ 0) : Cal.leap y = false := by unfold Cal.leap Cal.lp; exact decide_eq_false (by omega)
theorem qleap_any (y : Int) (w : World) (h1 : 0 ≤ y) (h2 : y ≤ 3000) :
    Calls Tryz.prog 116 #[.int .i64 y] w fun r w' => r = .returned (.bool (Cal.leap y)) ∧ w' = w := by
  by_cases h4 : y % 4 = 0
  · have b4 : (y % 4 == 0) = true := by simp [h4]
    by_cases h100 : y % 100 = 0
    · have b100 : (y % 100 != 0) = false := by simp [h100]
      by_cases h400 : y % 400 = 0
      · have b400 : (y % 400 == 0) = true := by simp [h400]
        have HL : Hid (Cal.leap y = true) := Lib.hid (leap_400 h400)
        clear h4 h100 h400
        go_enter Tryz.func116, Tryz.ntmps116
        go_wp2_with fail
        go_ret
        exact ⟨by rw [HL.out]; rfl, rfl⟩
      · have b400 : (y % 400 == 0) = false := by simp [h400]
        have HL : Hid (Cal.leap y = false) := Lib.hid (leap_no h100 h400)
        clear h4 h100 h400
        go_enter Tryz.func116, Tryz.ntmps116
        go_wp2_with fail
        go_ret
        exact ⟨by rw [HL.out]; rfl, rfl⟩
    · have b100 : (y % 100 != 0) = true := by simp [h100]
      have HL : Hid (Cal.leap y = true) := Lib.hid (leap_100 h4 h100)
      clear h4 h100
      go_enter Tryz.func116, Tryz.ntmps116
      go_wp2_with fail
      go_ret
      exact ⟨by rw [HL.out]; rfl, rfl⟩
  · have b4 : (y % 4 == 0) = false := by simp [h4]
    have HL : Hid (Cal.leap y = false) := Lib.hid (leap_4 h4)
    clear h4
    go_enter Tryz.func116, Tryz.ntmps116
    go_wp2_with fail
    go_ret
    exact ⟨by rw [HL.out]; rfl, rfl⟩
theorem qyearLength_any (y : Int) (w : World) (h1 : 0 ≤ y) (h2 : y ≤ 3000) :
    Calls Tryz.prog 78 #[.int .i64 y] w fun r w' => r = .returned (.int .i64 (365 + Cal.lv y)) ∧ w' = w := by
  cases hl : Cal.leap y
  all_goals
    have HL := Lib.hid hl
    clear hl
    go_enter Tryz.func78, Tryz.ntmps78
    go_wp2_with fail
    refine (qleap_any _ _ h1 h2).mono ?_
    rintro e w' ⟨rfl, hw⟩
    rw [hw, HL.out]
    clear hw
    go_wp2_with fail
    go_ret
    exact ⟨by unfold Cal.lv; rw [HL.out]; rfl, rfl⟩
theorem qLength_any (y : Int) (m : Nat) (w : World) (h1 : 0 ≤ y) (h2 : y ≤ 3000) (m1 : 1 ≤ m) (m2 : m ≤ 12) :
    Calls Tryz.prog 77 #[.int .i64 y, .int .i64 m] w fun r w' => r = .returned (.int .i64 (Cal.ml y m)) ∧ w' = w := by
  have hm : m = 2 ∨ m = 1 ∨ m = 3 ∨ m = 4 ∨ m = 5 ∨ m = 6 ∨ m = 7 ∨ m = 8 ∨ m = 9 ∨ m = 10 ∨ m = 11 ∨ m = 12 := by omega
  clear m1 m2
  rcases hm with rfl | hm
  · cases hl : Cal.leap y
    all_goals
      have HL := Lib.hid hl
      clear hl
      go_enter Tryz.func77, Tryz.ntmps77
      go_wp2_with fail
      refine (qleap_any _ _ h1 h2).mono ?_
      rintro e w' ⟨rfl, hw⟩
      rw [hw, HL.out]
      clear hw
      go_wp2_with fail
      go_ret
      exact ⟨by rw [Cal.ml_2]; unfold Cal.lv; rw [HL.out]; rfl, rfl⟩
  · have HM : Hid (Cal.ml y m = Cal.tab.getD (m - 1) 0) := Lib.hid (Cal.ml_ne y m (by omega))
    rcases hm with rfl | rfl | rfl | rfl | rfl | rfl | rfl | rfl | rfl | rfl | rfl
    all_goals
      go_enter Tryz.func77, Tryz.ntmps77
      go_wp2_with fail
      go_ret
      exact ⟨by rw [HM.out]; rfl, rfl⟩
theorem qWeekday_any (d : Int) (w : World) (h1 : 0 ≤ d) (h2 : d ≤ 1000000) :
    Calls Tryz.prog 20 #[.int .i64 d] w fun r w' => r = .returned (.int .i64 (Cal.wd d)) ∧ w' = w := by
  go_enter Tryz.func20, Tryz.ntmps20
  go_wp2
  go_ret
  exact ⟨ret_int (by unfold Cal.wd; rfl), rfl⟩
theorem cum_bd2 (y : Int) (k : Nat) (h1 : 1 ≤ k) (h : k ≤ 12) : 0 ≤ Cal.cum y (k - 1) ∧ Cal.cum y (k - 1) ≤ 341 ∧ Cal.cum y k = Cal.cum y (k - 1) + Cal.ml y k := by
  have := Cal.cum_bd y (k - 1) (by omega)
  exact ⟨by omega, by omega, cum_step y k h1⟩
theorem qDay_any (y d : Int) (m : Nat) (w : World) (h1 : 2000 ≤ y) (h2 : y ≤ 2300) (m1 : 1 ≤ m) (m2 : m ≤ 12) (d1 : 1 ≤ d) (d2 : d ≤ 31) :
    Calls Tryz.prog 13 #[.int .i64 y, .int .i64 m, .int .i64 d] w fun r w' => r = .returned (.int .i64 (Cal.dn y m d)) ∧ w' = w := by
  go_enter Tryz.func13, Tryz.ntmps13
  go_wp2_with fail
  go_loop [7, 8] (fun n i => ∃ k : Nat, 1 ≤ k ∧ k ≤ m ∧ i = .int .i64 k ∧ n = .int .i64 (d - 1 + Cal.cum y (k - 1))) (fun _ i => m - (intOf i).toNat)
  case atStart => exact ⟨1, by omega, by omega, rfl, by simp [Cal.cum]⟩
  case round =>
    obtain ⟨k, hk1, hk2, rfl, rfl⟩ := hrel
    obtain ⟨c1, c2, c3⟩ := cum_bd2 y k hk1 (by omega)
    by_cases hlt : k < m
    · have hml := Cal.ml_bd y k hk1 (by omega)
      have HS := Lib.hid c3
      clear c3
      go_wp2_with fail
      refine (qLength_any y k _ (by omega) (by omega) hk1 (by omega)).mono ?_
      rintro e w' ⟨rfl, hw⟩
      rw [hw]
      clear hw
      go_wp2_with fail
      go_round
      case rel => exact ⟨k + 1, by omega, by omega, by go_num, by rw [Nat.add_sub_cancel, HS.out]; go_num⟩
      case measure => simp [intOf]; omega
    · obtain rfl : k = m := by omega
      clear c3
      have HC : Hid (Cal.dn y k d = Cal.db y + d - 1 + Cal.cum y (k - 1)) := Lib.hid rfl
      generalize Cal.cum y (k - 1) = c at *
      go_wp2_with fail
      go_loop [7, 9] (fun n i => ∃ z : Int, 2000 ≤ z ∧ z ≤ y ∧ i = .int .i64 z ∧ n = .int .i64 (d - 1 + c + Cal.db z)) (fun _ i => (y - intOf i).toNat)
      case atStart => exact ⟨2000, by omega, by omega, rfl, by rw [Cal.db_2000]; simp⟩
      case round =>
        obtain ⟨z, hz1, hz2, rfl, rfl⟩ := hrel
        have hdb := Cal.db_bd z hz1 (by omega)
        by_cases hlt : z < y
        · have HS := Lib.hid (Cal.db_succ z)
          have hlv := Cal.lv_bd z
          go_wp2_with fail
          refine (qyearLength_any z _ (by omega) (by omega)).mono ?_
          rintro e w' ⟨rfl, hw⟩
          rw [hw]
          clear hw
          go_wp2_with fail
          go_round
          case rel => exact ⟨z + 1, by omega, by omega, by go_num, by rw [HS.out]; go_num⟩
          case measure => simp [intOf]; omega
        · obtain rfl : z = y := by omega
          go_wp2_with fail
          go_ret
          exact ⟨ret_int (by rw [HC.out]; omega), rfl⟩
set_option maxRecDepth 100000 in
theorem qDate_any (d y t : Int) (m : Nat) (w : World) (h0 : 0 ≤ d) (h1 : d ≤ 99999) (hd : IsDate d y m t) :
    Calls Tryz.prog 19 #[.int .i64 d] w fun r w' => r = .returned (.agg #[.int .i64 y, .int .i64 m, .int .i64 t]) ∧ Below w.heap.size w w' := by
  obtain ⟨y1, y2, d1, d2, m1, m2, r1, r2, t0⟩ := hd
  have HT0 := Lib.hid t0
  clear t0
  go_enter Tryz.func19, Tryz.ntmps19
  go_wp2_with fail
  go_loop [0, 3] (fun n i => ∃ z : Int, 2000 ≤ z ∧ z ≤ y ∧ i = .int .i64 z ∧ n = .int .i64 (d - Cal.db z)) (fun _ i => (y - intOf i).toNat)
  case atStart => exact ⟨2000, by omega, by omega, rfl, by rw [Cal.db_2000]; simp⟩
  case round =>
    obtain ⟨z, hz1, hz2, rfl, rfl⟩ := hrel
    have hdb := Cal.db_bd z hz1 (by omega)
    have hs := Cal.db_succ z
    have hlv := Cal.lv_bd z
    by_cases hlt : z < y
    · have hle := Cal.db_mono (z + 1) y (by omega)
      have hge : 365 + Cal.lv z ≤ d - Cal.db z := by omega
      have HS := Lib.hid hs
      clear hs r1 r2
      go_wp2_with fail
      refine (qyearLength_any z _ (by omega) (by omega)).mono ?_
      rintro e w' ⟨rfl, hw⟩
      rw [hw]
      clear hw
      go_wp2_with fail
      refine (qyearLength_any z _ (by omega) (by omega)).mono ?_
      rintro e w' ⟨rfl, hw⟩
      rw [hw]
      clear hw
      go_wp2_with fail
      go_round
      case rel => exact ⟨z + 1, by omega, by omega, by go_num, by rw [HS.out]; go_num⟩
      case measure => simp [intOf]; omega
    · obtain rfl : z = y := by omega
      have hlt2 : d - Cal.db z < 365 + Cal.lv z := by omega
      have hn0 : 0 ≤ d - Cal.db z := by omega
      go_wp2_with fail
      refine (qyearLength_any z _ (by omega) (by omega)).mono ?_
      rintro e w' ⟨rfl, hw⟩
      rw [hw]
      clear hw
      go_wp2_with fail
      generalize hq : d - Cal.db z = q at *
      clear hq d1 d2 hdb hs
      go_loop [0, 4] (fun n i => ∃ k : Nat, 1 ≤ k ∧ k ≤ m ∧ i = .int .i64 k ∧ n = .int .i64 (q - Cal.cum z (k - 1))) (fun _ i => m - (intOf i).toNat)
      case atStart => exact ⟨1, by omega, by omega, rfl, by simp [Cal.cum]⟩
      case round =>
        obtain ⟨k, hk1, hk2, rfl, rfl⟩ := hrel
        obtain ⟨c1, c2, c3⟩ := cum_bd2 z k hk1 (by omega)
        have hml := Cal.ml_bd z k hk1 (by omega)
        by_cases hlt : k < m
        · have hcm := cum_le z k (m - 1) (by omega) (by omega)
          have hge : Cal.ml z k ≤ q - Cal.cum z (k - 1) := by omega
          have HC := Lib.hid c3
          clear c3
          go_wp2_with fail
          refine (qLength_any z k _ (by omega) (by omega) hk1 (by omega)).mono ?_
          rintro e w' ⟨rfl, hw⟩
          rw [hw]
          clear hw
          go_wp2_with fail
          refine (qLength_any z k _ (by omega) (by omega) hk1 (by omega)).mono ?_
          rintro e w' ⟨rfl, hw⟩
          rw [hw]
          clear hw
          go_wp2_with fail
          go_round
          case rel => exact ⟨k + 1, by omega, by omega, by go_num, by rw [Nat.add_sub_cancel, HC.out]; go_num⟩
          case measure => simp [intOf]; omega
        · obtain rfl : k = m := by omega
          have hlt2 : q - Cal.cum z (k - 1) < Cal.ml z k := by omega
          clear c3
          go_wp2_with fail
          refine (qLength_any z k _ (by omega) (by omega) hk1 (by omega)).mono ?_
          rintro e w' ⟨rfl, hw⟩
          rw [hw]
          clear hw
          go_wp2_with fail
          exact bodyPost_ret (v := .agg #[.int .i64 z, .int .i64 k, .int .i64 (q - Cal.cum z (k - 1) + 1)]) (by simp [results, Tryz.results19, go_sem]) rfl ⟨by rw [HT0.out], below_alloc _ _⟩
set_option maxRecDepth 100000 in
theorem qCheckDate_any (y m d : Int) (w : World) :
    Calls Tryz.prog 11 #[.int .i64 y, .int .i64 m, .int .i64 d] w fun r w' => r = .returned (.int .i64 (dayErr y m d)) ∧ w' = w := by
  by_cases hy : 2000 ≤ y ∧ y ≤ 2273
  · have RY : Hid (rng y 2000 2273 = 0) := Lib.hid (rng_ok hy.1 hy.2)
    by_cases hm : 1 ≤ m ∧ m ≤ 12
    · have RM : Hid (rng m 1 12 = 0) := Lib.hid (rng_ok hm.1 hm.2)
      by_cases hd : 1 ≤ d ∧ d ≤ 31
      · have RD : Hid (rng d 1 31 = 0) := Lib.hid (rng_ok hd.1 hd.2)
        obtain ⟨y1, y2⟩ := hy
        obtain ⟨d1, d2⟩ := hd
        obtain ⟨n, rfl⟩ := Int.eq_ofNat_of_zero_le (show 0 ≤ m by omega)
        have hn1 : 1 ≤ n := by omega
        have hn2 : n ≤ 12 := by omega
        have HE : Hid (dayErr y n d = if Cal.ml y n < d ∨ 99999 < Cal.dn y n d then 7 else 0) := Lib.hid (by unfold dayErr dayIn; rw [RY.out, RM.out, RD.out]; rw [Int.toNat_natCast]; rfl)
        have hml := Cal.ml_bd y n hn1 hn2
        have hdn := Cal.dn_bd y n d y1 (by omega) hn2 d1 d2
        clear hm
        by_cases hl : Cal.ml y n < d
        · have HF : Hid (dayErr y n d = 7) := Lib.hid (by rw [HE.out, if_pos (.inl hl)])
          go_enter Tryz.func11, Tryz.ntmps11
          go_wp2_with fail
          refine (qRange_any _ _ _ _).mono ?_
          rintro e w2 ⟨rfl, hw⟩
          rw [hw, RY.out]
          clear hw
          go_wp2_with fail
          refine (qRange_any _ _ _ _).mono ?_
          rintro e w2 ⟨rfl, hw⟩
          rw [hw, RM.out]
          clear hw
          go_wp2_with fail
          refine (qRange_any _ _ _ _).mono ?_
          rintro e w2 ⟨rfl, hw⟩
          rw [hw, RD.out]
          clear hw
          go_wp2_with fail
          refine (qLength_any y n _ (by omega) (by omega) hn1 hn2).mono ?_
          rintro e w2 ⟨rfl, hw⟩
          rw [hw]
          clear hw
          go_wp2_with fail
          go_ret
          exact ⟨by rw [HF.out]; rfl, rfl⟩
        · have HF : Hid (dayErr y n d = if 99999 < Cal.dn y n d then 7 else 0) := Lib.hid (by rw [HE.out]; simp [hl])
          by_cases hk : 99999 < Cal.dn y n d
          · have HG : Hid (dayErr y n d = 7) := Lib.hid (by rw [HF.out, if_pos hk])
            go_enter Tryz.func11, Tryz.ntmps11
            go_wp2_with fail
            refine (qRange_any _ _ _ _).mono ?_
            rintro e w2 ⟨rfl, hw⟩
            rw [hw, RY.out]
            clear hw
            go_wp2_with fail
            refine (qRange_any _ _ _ _).mono ?_
            rintro e w2 ⟨rfl, hw⟩
            rw [hw, RM.out]
            clear hw
            go_wp2_with fail
            refine (qRange_any _ _ _ _).mono ?_
            rintro e w2 ⟨rfl, hw⟩
            rw [hw, RD.out]
            clear hw
            go_wp2_with fail
            refine (qLength_any y n _ (by omega) (by omega) hn1 hn2).mono ?_
            rintro e w2 ⟨rfl, hw⟩
            rw [hw]
            clear hw
            go_wp2_with fail
            refine (qDay_any y d n _ y1 (by omega) hn1 hn2 d1 d2).mono ?_
            rintro e w2 ⟨rfl, hw⟩
            rw [hw]
            clear hw
            go_wp2_with fail
            go_ret
            exact ⟨by rw [HG.out]; rfl, rfl⟩
          · have HG : Hid (dayErr y n d = 0) := Lib.hid (by rw [HF.out, if_neg hk])
            go_enter Tryz.func11, Tryz.ntmps11
            go_wp2_with fail
            refine (qRange_any _ _ _ _).mono ?_
            rintro e w2 ⟨rfl, hw⟩
            rw [hw, RY.out]
            clear hw
            go_wp2_with fail
            refine (qRange_any _ _ _ _).mono ?_
            rintro e w2 ⟨rfl, hw⟩
            rw [hw, RM.out]
            clear hw
            go_wp2_with fail
            refine (qRange_any _ _ _ _).mono ?_
            rintro e w2 ⟨rfl, hw⟩
            rw [hw, RD.out]
            clear hw
            go_wp2_with fail
            refine (qLength_any y n _ (by omega) (by omega) hn1 hn2).mono ?_
            rintro e w2 ⟨rfl, hw⟩
            rw [hw]
            clear hw
            go_wp2_with fail
            refine (qDay_any y d n _ y1 (by omega) hn1 hn2 d1 d2).mono ?_
            rintro e w2 ⟨rfl, hw⟩
            rw [hw]
            clear hw
            go_wp2_with fail
            go_ret
            exact ⟨by rw [HG.out]; rfl, rfl⟩
      · have RD : Hid (rng d 1 31 = 3) := Lib.hid (rng_bad hd)
        have HG : Hid (dayErr y m d = 3) := Lib.hid (by unfold dayErr dayIn; rw [RY.out, RM.out, RD.out]; rfl)
        go_enter Tryz.func11, Tryz.ntmps11
        go_wp2_with fail
        refine (qRange_any _ _ _ _).mono ?_
        rintro e w2 ⟨rfl, hw⟩
        rw [hw, RY.out]
        clear hw
        go_wp2_with fail
        refine (qRange_any _ _ _ _).mono ?_
        rintro e w2 ⟨rfl, hw⟩
        rw [hw, RM.out]
        clear hw
        go_wp2_with fail
        refine (qRange_any _ _ _ _).mono ?_
        rintro e w2 ⟨rfl, hw⟩
        rw [hw, RD.out]
        clear hw
        go_wp2_with fail
        go_ret
        exact ⟨by rw [HG.out]; rfl, rfl⟩
    · have RM : Hid (rng m 1 12 = 3) := Lib.hid (rng_bad hm)
      have HG : Hid (dayErr y m d = 3) := Lib.hid (by unfold dayErr dayIn; rw [RY.out, RM.out]; rfl)
      go_enter Tryz.func11, Tryz.ntmps11
      go_wp2_with fail
      refine (qRange_any _ _ _ _).mono ?_
      rintro e w2 ⟨rfl, hw⟩
      rw [hw, RY.out]
      clear hw
      go_wp2_with fail
      refine (qRange_any _ _ _ _).mono ?_
      rintro e w2 ⟨rfl, hw⟩
      rw [hw, RM.out]
      clear hw
      go_wp2_with fail
      go_ret
      exact ⟨by rw [HG.out]; rfl, rfl⟩
  · have RY : Hid (rng y 2000 2273 = 3) := Lib.hid (rng_bad hy)
    have HG : Hid (dayErr y m d = 3) := Lib.hid (by unfold dayErr dayIn; rw [RY.out]; rfl)
    go_enter Tryz.func11, Tryz.ntmps11
    go_wp2_with fail
    refine (qRange_any _ _ _ _).mono ?_
    rintro e w2 ⟨rfl, hw⟩
    rw [hw, RY.out]
    clear hw
    go_wp2_with fail
    go_ret
    exact ⟨by rw [HG.out]; rfl, rfl⟩
end Go.Proofs.YtbpoljebkhccjaaGreatDoor
