/- The walk of TopBeaconYears. -/
import Derived.Test.YtijnabgehlkghaaDoorYears0
import Derived.Test.YtijnabgehlkghaaDoorBeacon2
namespace Go.Proofs.YtijnabgehlkghaaDoor
open Go.RowKit
set_option maxRecDepth 100000 in
set_option maxHeartbeats 2000000 in
theorem Years_true (a b yr : Int) (w : World) (ht : HeldTab w) (hs : HeldSea w) (hp : HeldPow w) (hy1 : 0 ≤ yr) (hy2 : yr ≤ 65535) :
    Calls Tryd.prog 10 #[.int .i64 a, .int .i64 b, .int .u16 yr] w (IsTrue w) := by
  have HT := Lib.hid ht
  have HS := Lib.hid hs
  have HP := Lib.hid hp
  clear ht hs hp
  by_cases ha : 0 ≤ a ∧ a ≤ 99999
  · by_cases hb : 0 ≤ b ∧ b ≤ 99999
    · have RA : Hid (rng a 0 99999 = 0) := Lib.hid (rng_ok ha.1 ha.2)
      have RB : Hid (rng b 0 99999 = 0) := Lib.hid (rng_ok hb.1 hb.2)
      obtain ⟨y, m, t, hd⟩ := date_ex a ha.1 ha.2
      obtain ⟨y', m', t', hd'⟩ := date_ex b hb.1 hb.2
      have HL := Lib.hid (dateT_less hd hd')
      have HE : Hid (((dateT y m t).toList == (dateT y' m' t').toList) = (a == b)) := Lib.hid (by rw [dateT_same hd hd']; rfl)
      have HD := Lib.hid hd
      go_enter Tryd.func10, Tryd.ntmps10
      go_wp2_with fail
      refine (qCheckDay_any _ _).mono ?_
      rintro e w1 ⟨rfl, hw⟩
      rw [hw, RA.out]
      clear hw
      go_wp2_with fail
      refine (qCheckDay_any _ _).mono ?_
      rintro e w1 ⟨rfl, hw⟩
      rw [hw, RB.out]
      clear hw
      go_wp2_with fail
      refine (PrintDate_ok a y t m _ HT.out HP.out ha.1 ha.2 hd).mono ?_
      rintro e w1 ⟨rfl, hb1⟩
      have ht1 := HT.out.below hb1
      have hp1 := HP.out.below hb1
      go_wp2_with fail
      refine (PrintDate_ok b y' t' m' _ ht1 hp1 hb.1 hb.2 hd').mono ?_
      rintro e w2 ⟨rfl, hb2⟩
      have hb12 := b_then hb1 hb2
      clear ht1 hp1 hb1 hb2
      have hl := HL.out
      have he := HE.out
      generalize dateT y m t = s1 at *
      generalize dateT y' m' t' = s2 at *
      go_wp2_with fail
      clear hl he
      refine (Date_ok a y t m _ (HT.out.below hb12) ha.1 ha.2 hd).mono ?_
      rintro e w3 ⟨rfl, hb3⟩
      have hb13 := b_then hb12 hb3
      clear hb3 hb12
      have hyb := hd.y1
      have hyb2 := hd.y2
      by_cases hyc : y ≤ 2071
      · have HD28 := Lib.hid (day28 hd hyc)
        have HWD := Lib.hid (wd28 a)
        have hhi : rng (a + 10227) 0 99999 = 0 := by
          have hdm := Cal.db_mono (y + 1) 2072 (by omega)
          have h72 : Cal.db 2072 = 26298 := by decide
          have := hd.d2
          exact rng_ok (by omega) (by omega)
        have HHI := Lib.hid hhi
        clear hhi
        go_wp2_with fail
        refine (Day_any _ _ _ _ (HT.out.below (b_then hb13 (below_alloc _ _)))).mono ?_
        rintro e w4 ⟨rfl, hb4⟩
        rw [HD28.out.1, HD28.out.2, num2_ok]
        have hbV := b_then (b_then hb13 (below_alloc _ _)) hb4
        clear hb4 hb13
        go_wp2_with fail
        refine (Weekday_any _ _).mono ?_
        rintro e w5 ⟨rfl, hw⟩
        rw [hw, RA.out, num2_ok]
        clear hw
        go_wp2_with fail
        refine (Weekday_any _ _).mono ?_
        rintro e w5 ⟨rfl, hw⟩
        rw [hw, HHI.out, num2_ok, HWD.out]
        clear hw
        generalize Cal.wd a = wa at *
        go_wp2_with fail
        have hZ : 2000 ≤ 2000 + yr % 273 ∧ 2000 + yr % 273 ≤ 2272 := by omega
        generalize 2000 + yr % 273 = z at *
        obtain ⟨hz1, hz2⟩ := hZ
        have H11 := Lib.hid (err11 z hz1 (by omega))
        have H12 := Lib.hid (err11 (z + 1) (by omega) (by omega))
        have HS2 : Hid (Cal.db (z + 1) - Cal.db z = Cal.cum z 12 ∧ (Cal.cum z 12 = 365 ∨ Cal.cum z 12 = 366)) := Lib.hid (by
          have := Cal.db_succ z; have := Cal.cum_12 z; have := Cal.lv_bd z
          omega)
        have HDB := Lib.hid (Cal.db_bd z hz1 (by omega))
        have HDB2 := Lib.hid (Cal.db_bd (z + 1) (by omega) (by omega))
        go_loopw [20, 21, 22, 23, 24, 25] (fun tot mo _ _ _ _ wr => ∃ k : Nat, 1 ≤ k ∧ k ≤ 13 ∧ mo = .int .i64 k ∧ tot = .int .i64 (Cal.cum z (k - 1)) ∧ Below w.heap.size w wr) (fun _ mo _ _ _ _ _ => 13 - (intOf mo).toNat)
        case atStart => exact ⟨1, by omega, by omega, rfl, by simp [Cal.cum], hbV⟩
        case round =>
          obtain ⟨k, hk1, hk2, rfl, rfl, hbr⟩ := hrel
          by_cases hlt : k ≤ 12
          · have hml := Cal.ml_bd z k hk1 hlt
            have hcb := Cal.cum_bd z (k - 1) (by omega)
            have HCK : Hid (Cal.cum z k = Cal.cum z (k - 1) + Cal.ml z k) := Lib.hid (by
              obtain ⟨j, rfl⟩ : ∃ j, k = j + 1 := ⟨k - 1, by omega⟩
              rfl)
            have HER : Hid (∀ j : Nat, 28 ≤ j → j ≤ 31 → dayErr z k j = if (j : Int) ≤ Cal.ml z k then 0 else 7) := Lib.hid (fun j h1 h2 => dayErr_month z k j hz1 hz2 hk1 hlt (by omega) (by omega))
            generalize Cal.ml z k = l at *
            generalize Cal.cum z (k - 1) = c at *
            have hk12 : (k : Int) ≤ 12 := by omega
            go_wp2_with fail
            go_loopw [22, 23, 24, 25] (fun la d _ _ wi => ∃ j : Nat, 28 ≤ j ∧ j ≤ 32 ∧ d = .int .i64 j ∧ la = .int .i64 (lastOf l j) ∧ Below w.heap.size w wi) (fun _ d _ _ _ => 32 - (intOf d).toNat)
            case atStart => exact ⟨28, by omega, by omega, rfl, by rw [lastOf_28], hbr⟩
            case round =>
              obtain ⟨j, hj1, hj2, rfl, rfl, hbi⟩ := hrel
              by_cases hjl : j ≤ 31
              · by_cases hm : (j : Int) ≤ l
                · have HER0 : Hid (dayErr z k j = 0) := Lib.hid (by rw [HER.out j hj1 hjl, if_pos hm])
                  have HLO := Lib.hid (lastOf_ok l j hj1 hm)
                  go_wp2_with fail
                  refine (Day_any z k j _ (HT.out.below hbi)).mono ?_
                  rintro e w5 ⟨rfl, hb5⟩
                  rw [HER0.out, num2_ok]
                  have hbi5 := b_then hbi hb5
                  clear hb5
                  go_wp2_with fail
                  go_roundw
                  case rel => exact ⟨j + 1, by omega, by omega, by go_num, by rw [HLO.out], hbi5⟩
                  case measure => simp [intOf]; omega
                · have HER0 : Hid (dayErr z k j = 7) := Lib.hid (by rw [HER.out j hj1 hjl, if_neg hm])
                  have HLO := Lib.hid (lastOf_no l j hj1 (by omega) (by omega))
                  go_wp2_with fail
                  refine (Day_any z k j _ (HT.out.below hbi)).mono ?_
                  rintro e w5 ⟨rfl, hb5⟩
                  rw [HER0.out, num2_bad _ (by decide)]
                  have hbi5 := b_then hbi hb5
                  clear hb5
                  go_wp2_with fail
                  go_roundw
                  case rel => exact ⟨j + 1, by omega, by omega, by go_num, by rw [HLO.out], hbi5⟩
                  case measure => simp [intOf]; omega
              · obtain rfl : j = 32 := by omega
                have HLO := Lib.hid (lastOf_end l (by omega))
                rw [HLO.out]
                go_wp2_with fail
                go_roundw
                case rel => exact ⟨k + 1, by omega, by omega, by go_num, by rw [Nat.add_sub_cancel, HCK.out], hbi⟩
                case measure => simp [intOf]; omega
          · obtain rfl : k = 13 := by omega
            have hs2 := HS2.out
            have hdb := HDB.out
            have hdb2 := HDB2.out
            clear hlt hk1 hk2
            simp only [show 13 - 1 = 12 from rfl] at *
            generalize Cal.cum z 12 = c at *
            go_wp2_with fail
            refine (Day_any z 1 1 _ (HT.out.below hbr)).mono ?_
            rintro e w5 ⟨rfl, hb5⟩
            rw [H11.out.1, H11.out.2, num2_ok]
            have hbr5 := b_then hbr hb5
            clear hb5
            go_wp2_with fail
            refine (Day_any (z + 1) 1 1 _ (HT.out.below hbr5)).mono ?_
            rintro e w6 ⟨rfl, hb6⟩
            rw [H12.out.1, H12.out.2, num2_ok]
            have hbr6 := b_then hbr5 hb6
            clear hb6
            generalize Cal.db (z + 1) = g at *
            generalize Cal.db z = f at *
            go_wp2_with fail
            all_goals
              refine (beaconDay_true _ (HT.out.below hbr6) (HS.out.below hbr6)).mono ?_
              rintro e w7 ⟨rfl, hb7⟩
              have hb8 := b_then hbr6 hb7
              go_wp2_with fail
              go_ret
              exact ⟨rfl, hb8⟩
      · go_wp2_with fail
        have hbV := b_then hb13 (below_alloc w3 (.cells #[.int .i64 y, .int .i64 m, .int .i64 t] 45))
        clear hb13
        have hZ : 2000 ≤ 2000 + yr % 273 ∧ 2000 + yr % 273 ≤ 2272 := by omega
        generalize 2000 + yr % 273 = z at *
        obtain ⟨hz1, hz2⟩ := hZ
        have H11 := Lib.hid (err11 z hz1 (by omega))
        have H12 := Lib.hid (err11 (z + 1) (by omega) (by omega))
        have HS2 : Hid (Cal.db (z + 1) - Cal.db z = Cal.cum z 12 ∧ (Cal.cum z 12 = 365 ∨ Cal.cum z 12 = 366)) := Lib.hid (by
          have := Cal.db_succ z; have := Cal.cum_12 z; have := Cal.lv_bd z
          omega)
        have HDB := Lib.hid (Cal.db_bd z hz1 (by omega))
        have HDB2 := Lib.hid (Cal.db_bd (z + 1) (by omega) (by omega))
        go_loopw [20, 21, 22, 23, 24, 25] (fun tot mo _ _ _ _ wr => ∃ k : Nat, 1 ≤ k ∧ k ≤ 13 ∧ mo = .int .i64 k ∧ tot = .int .i64 (Cal.cum z (k - 1)) ∧ Below w.heap.size w wr) (fun _ mo _ _ _ _ _ => 13 - (intOf mo).toNat)
        case atStart => exact ⟨1, by omega, by omega, rfl, by simp [Cal.cum], hbV⟩
        case round =>
          obtain ⟨k, hk1, hk2, rfl, rfl, hbr⟩ := hrel
          by_cases hlt : k ≤ 12
          · have hml := Cal.ml_bd z k hk1 hlt
            have hcb := Cal.cum_bd z (k - 1) (by omega)
            have HCK : Hid (Cal.cum z k = Cal.cum z (k - 1) + Cal.ml z k) := Lib.hid (by
              obtain ⟨j, rfl⟩ : ∃ j, k = j + 1 := ⟨k - 1, by omega⟩
              rfl)
            have HER : Hid (∀ j : Nat, 28 ≤ j → j ≤ 31 → dayErr z k j = if (j : Int) ≤ Cal.ml z k then 0 else 7) := Lib.hid (fun j h1 h2 => dayErr_month z k j hz1 hz2 hk1 hlt (by omega) (by omega))
            generalize Cal.ml z k = l at *
            generalize Cal.cum z (k - 1) = c at *
            have hk12 : (k : Int) ≤ 12 := by omega
            go_wp2_with fail
            go_loopw [22, 23, 24, 25] (fun la d _ _ wi => ∃ j : Nat, 28 ≤ j ∧ j ≤ 32 ∧ d = .int .i64 j ∧ la = .int .i64 (lastOf l j) ∧ Below w.heap.size w wi) (fun _ d _ _ _ => 32 - (intOf d).toNat)
            case atStart => exact ⟨28, by omega, by omega, rfl, by rw [lastOf_28], hbr⟩
            case round =>
              obtain ⟨j, hj1, hj2, rfl, rfl, hbi⟩ := hrel
              by_cases hjl : j ≤ 31
              · by_cases hm : (j : Int) ≤ l
                · have HER0 : Hid (dayErr z k j = 0) := Lib.hid (by rw [HER.out j hj1 hjl, if_pos hm])
                  have HLO := Lib.hid (lastOf_ok l j hj1 hm)
                  go_wp2_with fail
                  refine (Day_any z k j _ (HT.out.below hbi)).mono ?_
                  rintro e w5 ⟨rfl, hb5⟩
                  rw [HER0.out, num2_ok]
                  have hbi5 := b_then hbi hb5
                  clear hb5
                  go_wp2_with fail
                  go_roundw
                  case rel => exact ⟨j + 1, by omega, by omega, by go_num, by rw [HLO.out], hbi5⟩
                  case measure => simp [intOf]; omega
                · have HER0 : Hid (dayErr z k j = 7) := Lib.hid (by rw [HER.out j hj1 hjl, if_neg hm])
                  have HLO := Lib.hid (lastOf_no l j hj1 (by omega) (by omega))
                  go_wp2_with fail
                  refine (Day_any z k j _ (HT.out.below hbi)).mono ?_
                  rintro e w5 ⟨rfl, hb5⟩
                  rw [HER0.out, num2_bad _ (by decide)]
                  have hbi5 := b_then hbi hb5
                  clear hb5
                  go_wp2_with fail
                  go_roundw
                  case rel => exact ⟨j + 1, by omega, by omega, by go_num, by rw [HLO.out], hbi5⟩
                  case measure => simp [intOf]; omega
              · obtain rfl : j = 32 := by omega
                have HLO := Lib.hid (lastOf_end l (by omega))
                rw [HLO.out]
                go_wp2_with fail
                go_roundw
                case rel => exact ⟨k + 1, by omega, by omega, by go_num, by rw [Nat.add_sub_cancel, HCK.out], hbi⟩
                case measure => simp [intOf]; omega
          · obtain rfl : k = 13 := by omega
            have hs2 := HS2.out
            have hdb := HDB.out
            have hdb2 := HDB2.out
            clear hlt hk1 hk2
            simp only [show 13 - 1 = 12 from rfl] at *
            generalize Cal.cum z 12 = c at *
            go_wp2_with fail
            refine (Day_any z 1 1 _ (HT.out.below hbr)).mono ?_
            rintro e w5 ⟨rfl, hb5⟩
            rw [H11.out.1, H11.out.2, num2_ok]
            have hbr5 := b_then hbr hb5
            clear hb5
            go_wp2_with fail
            refine (Day_any (z + 1) 1 1 _ (HT.out.below hbr5)).mono ?_
            rintro e w6 ⟨rfl, hb6⟩
            rw [H12.out.1, H12.out.2, num2_ok]
            have hbr6 := b_then hbr5 hb6
            clear hb6
            generalize Cal.db (z + 1) = g at *
            generalize Cal.db z = f at *
            go_wp2_with fail
            all_goals
              refine (beaconDay_true _ (HT.out.below hbr6) (HS.out.below hbr6)).mono ?_
              rintro e w7 ⟨rfl, hb7⟩
              have hb8 := b_then hbr6 hb7
              go_wp2_with fail
              go_ret
              exact ⟨rfl, hb8⟩
    · have RA : Hid (rng a 0 99999 = 0) := Lib.hid (rng_ok ha.1 ha.2)
      have RB : Hid (rng b 0 99999 = 3) := Lib.hid (rng_bad hb)
      go_enter Tryd.func10, Tryd.ntmps10
      go_wp2_with fail
      refine (qCheckDay_any _ _).mono ?_
      rintro e w1 ⟨rfl, hw⟩
      rw [hw, RA.out]
      clear hw
      go_wp2_with fail
      refine (qCheckDay_any _ _).mono ?_
      rintro e w1 ⟨rfl, hw⟩
      rw [hw, RB.out]
      clear hw
      go_wp2_with fail
      refine (beaconDay_true _ HT.out HS.out).mono ?_
      rintro e w4 ⟨rfl, hb4⟩
      go_wp2_with fail
      go_ret
      exact ⟨rfl, hb4⟩
  · have RA : Hid (rng a 0 99999 = 3) := Lib.hid (rng_bad ha)
    go_enter Tryd.func10, Tryd.ntmps10
    go_wp2_with fail
    refine (qCheckDay_any _ _).mono ?_
    rintro e w1 ⟨rfl, hw⟩
    rw [hw, RA.out]
    clear hw
    go_wp2_with fail
    refine (beaconDay_true _ HT.out HS.out).mono ?_
    rintro e w4 ⟨rfl, hb4⟩
    go_wp2_with fail
    go_ret
    exact ⟨rfl, hb4⟩
end Go.Proofs.YtijnabgehlkghaaDoor
