/- The walk of TopBeaconYears. -/
import Derived.Test.YtmoepnbokldfaaaDoorPrint2
import Derived.Test.YtmoepnbokldfaaaDoorBeacon2
namespace Go.Proofs.YtmoepnbokldfaaaDoor
open Go.RowKit
theorem qRange_any (n a b : Int) (w : World) :
    Calls Tryd.prog 18 #[.int .i64 n, .int .i64 a, .int .i64 b] w fun r w' => r = .returned (.int .i64 (rng n a b)) ∧ w' = w := by
  by_cases h1 : n < a
  · have H : Hid (rng n a b = 3) := Lib.hid (by unfold rng; rw [if_neg (by omega)])
    go_enter Tryd.func18, Tryd.ntmps18
    go_wp2_with fail
    go_ret
    exact ⟨by rw [H.out]; rfl, rfl⟩
  · by_cases h2 : b < n
    · have H : Hid (rng n a b = 3) := Lib.hid (by unfold rng; rw [if_neg (by omega)])
      go_enter Tryd.func18, Tryd.ntmps18
      go_wp2_with fail
      go_ret
      exact ⟨by rw [H.out]; rfl, rfl⟩
    · have H : Hid (rng n a b = 0) := Lib.hid (by unfold rng; rw [if_pos (by omega)])
      go_enter Tryd.func18, Tryd.ntmps18
      go_wp2_with fail
      go_ret
      exact ⟨by rw [H.out]; rfl, rfl⟩
theorem qCheckDay_any (d : Int) (w : World) :
    Calls Tryd.prog 24 #[.int .i64 d] w fun r w' => r = .returned (.int .i64 (rng d 0 99999)) ∧ w' = w := by
  go_enter Tryd.func24, Tryd.ntmps24
  go_wp2_with (go_at_call 18; refine (qRange_any _ _ _ _).mono ?_; rintro e w' ⟨rfl, rfl⟩)
  go_ret
  exact ⟨rfl, rfl⟩
theorem db28 (y : Int) (h1 : 2000 ≤ y) (h2 : y ≤ 2071) : Cal.db (y + 28) = Cal.db y + 10227 := by unfold Cal.db Cal.lp; omega
theorem leap28 (y : Int) (h1 : 2000 ≤ y) (h2 : y ≤ 2071) : Cal.leap (y + 28) = Cal.leap y := by
  unfold Cal.leap Cal.lp
  exact decide_eq_decide.2 (by omega)
theorem ml28 (y : Int) (m : Nat) (h1 : 2000 ≤ y) (h2 : y ≤ 2071) : Cal.ml (y + 28) m = Cal.ml y m := by unfold Cal.ml; rw [leap28 y h1 h2]
theorem cum28 (y : Int) (m : Nat) (h1 : 2000 ≤ y) (h2 : y ≤ 2071) : Cal.cum (y + 28) m = Cal.cum y m := by
  induction m with
  | zero => rfl
  | succ n ih => rw [Cal.cum, Cal.cum, ih, ml28 y _ h1 h2]
theorem date_dn {d y t : Int} {m : Nat} (h : IsDate d y m t) : Cal.dn y m t = d := by
  have := h.t0
  unfold Cal.dn; omega
theorem date_ml {d y t : Int} {m : Nat} (h : IsDate d y m t) : t ≤ Cal.ml y m := by
  obtain ⟨y1, y2, d1, d2, m1, m2, r1, r2, t0⟩ := h
  obtain ⟨k, rfl⟩ : ∃ k, m = k + 1 := ⟨m - 1, by omega⟩
  simp only [Nat.add_sub_cancel] at *
  rw [Cal.cum] at r2
  omega
theorem day28 {d y t : Int} {m : Nat} (h : IsDate d y m t) (hy : y ≤ 2071) : dayErr (y + 28) m t = 0 ∧ Cal.dn (y + 28) (m : Int).toNat t = d + 10227 := by
  have h1 := h.y1
  have hm := h.m1; have hm2 := h.m2
  have ht := date_t h
  have e : Cal.dn (y + 28) (m : Int).toNat t = d + 10227 := by
    rw [Int.toNat_natCast, ← date_dn h]
    unfold Cal.dn
    rw [db28 y h1 hy, cum28 y _ h1 hy]; omega
  refine ⟨?_, e⟩
  have hdm := Cal.db_mono (y + 1) 2072 (by omega)
  have h72 : Cal.db 2072 = 26298 := by decide
  have hd2 := h.d2
  unfold dayErr dayIn
  rw [rng_ok (by omega) (by omega), rng_ok (by omega) (by omega), rng_ok (by omega) (by omega), if_neg (by simp [fst]), e, Int.toNat_natCast, ml28 y m h1 hy, if_neg (by have := date_ml h; omega)]
theorem wd28 (d : Int) : Cal.wd (d + 10227) = Cal.wd d := by unfold Cal.wd; omega
theorem dayErr_month (y : Int) (k : Nat) (d : Int) (h1 : 2000 ≤ y) (h2 : y ≤ 2272) (hk1 : 1 ≤ k) (hk2 : k ≤ 12) (hd1 : 28 ≤ d) (hd2 : d ≤ 31) : dayErr y k d = if d ≤ Cal.ml y k then 0 else 7 := by
  have hm := Cal.ml_bd y k hk1 hk2
  unfold dayErr dayIn
  rw [rng_ok (by omega) (by omega), rng_ok (by omega) (by omega), rng_ok (by omega) (by omega), if_neg (by simp [fst]), Int.toNat_natCast]
  by_cases h : d ≤ Cal.ml y k
  · obtain ⟨j, rfl⟩ : ∃ j, k = j + 1 := ⟨k - 1, by omega⟩
    have hc := cum_le y (j + 1) 12 (by omega) (by omega)
    have h12 := Cal.cum_12 y
    have hs := Cal.db_succ y
    have hmo := Cal.db_mono (y + 1) 2273 (by omega)
    have h73 := Cal.db_2273
    have : Cal.dn y (j + 1) d ≤ 99999 := by
      unfold Cal.dn
      rw [Cal.cum] at hc
      simp only [Nat.add_sub_cancel]
      omega
    rw [if_neg (by omega), if_pos h]
  · rw [if_pos (by omega), if_neg h]
theorem err11 (y : Int) (h1 : 2000 ≤ y) (h2 : y ≤ 2273) : dayErr y 1 1 = 0 ∧ Cal.dn y (1 : Int).toNat 1 = Cal.db y := by
  have e : Cal.dn y (1 : Int).toNat 1 = Cal.db y := by
    show Cal.db y + 1 - 1 + Cal.cum y 0 = _
    simp [Cal.cum]
  refine ⟨?_, e⟩
  have hmo := Cal.db_mono y 2273 h2
  have h73 := Cal.db_2273
  have hm : Cal.ml y (1 : Int).toNat = 31 := by rw [show (1 : Int).toNat = 1 from rfl, Cal.ml_ne y 1 (by decide)]; rfl
  unfold dayErr dayIn
  rw [rng_ok (by omega) (by omega), rng_ok (by omega) (by omega), rng_ok (by omega) (by omega), if_neg (by simp [fst]), hm, e, if_neg (by omega)]
def lastOf (l : Int) (j : Nat) : Int := if j = 28 then 0 else if (j : Int) - 1 ≤ l then (j : Int) - 1 else l
theorem lastOf_28 (l : Int) : lastOf l 28 = 0 := by unfold lastOf; rw [if_pos rfl]
theorem lastOf_ok (l : Int) (j : Nat) (h : 28 ≤ j) (h2 : (j : Int) ≤ l) : lastOf l (j + 1) = j := by
  unfold lastOf; rw [if_neg (by omega), if_pos (by omega)]; omega
theorem lastOf_no (l : Int) (j : Nat) (h : 28 ≤ j) (hl : 28 ≤ l) (h2 : l < j) : lastOf l (j + 1) = lastOf l j := by
  unfold lastOf
  rw [if_neg (by omega), if_neg (by omega), if_neg (by omega)]
  by_cases h3 : (j : Int) - 1 ≤ l
  · rw [if_pos h3]; omega
  · rw [if_neg h3]
theorem lastOf_end (l : Int) (h : l ≤ 31) : lastOf l 32 = l := by
  unfold lastOf; rw [if_neg (by omega)]; split <;> omega
set_option maxRecDepth 100000 in
set_option maxHeartbeats 2000000 in
theorem Years_true (a b yr : Int) (w : World) (ht : HeldTab w) (hs : HeldSea w) (hp : HeldPow w) (hy1 : 0 ≤ yr) (hy2 : yr ≤ 65535) :
    Calls Tryd.prog 10 #[.int .i64 a, .int .i64 b, .int .u16 yr] w (IsTrue w) := by
  have HT := Lib.hid ht
  have HS := Lib.hid hs
  have HP := Lib.hid hp
  clear ht hs hp
  by_cases ha : 0 ≤ a ∧ a ≤ 99999
  · by_cases hb : 0 ≤ b ∧ b ≤ 99999
    · have RA : Hid (rng a 0 99999 = 0) := Lib.hid (rng_ok ha.1 ha.2)
      have RB : Hid (rng b 0 99999 = 0) := Lib.hid (rng_ok hb.1 hb.2)
      obtain ⟨y, m, t, hd⟩ := date_ex a ha.1 ha.2
      obtain ⟨y', m', t', hd'⟩ := date_ex b hb.1 hb.2
      have HL := Lib.hid (dateT_less hd hd')
      have HE : Hid (((dateT y m t).toList == (dateT y' m' t').toList) = (a == b)) := Lib.hid (by rw [dateT_same hd hd']; rfl)
      have HD := Lib.hid hd
      go_enter Tryd.func10, Tryd.ntmps10
      go_wp2_with fail
      refine (qCheckDay_any _ _).mono ?_
      rintro e w1 ⟨rfl, hw⟩
      rw [hw, RA.out]
      clear hw
      go_wp2_with fail
      refine (qCheckDay_any _ _).mono ?_
      rintro e w1 ⟨rfl, hw⟩
      rw [hw, RB.out]
      clear hw
      go_wp2_with fail
      refine (PrintDate_ok a y t m _ HT.out HP.out ha.1 ha.2 hd).mono ?_
      rintro e w1 ⟨rfl, hb1⟩
      have ht1 := HT.out.below hb1
      have hp1 := HP.out.below hb1
      go_wp2_with fail
      refine (PrintDate_ok b y' t' m' _ ht1 hp1 hb.1 hb.2 hd').mono ?_
      rintro e w2 ⟨rfl, hb2⟩
      have hb12 := b_then hb1 hb2
      clear ht1 hp1 hb1 hb2
      have hl := HL.out
      have he := HE.out
      generalize dateT y m t = s1 at *
      generalize dateT y' m' t' = s2 at *
      go_wp2_with fail
      clear hl he
      refine (Date_ok a y t m _ (HT.out.below hb12) ha.1 ha.2 hd).mono ?_
      rintro e w3 ⟨rfl, hb3⟩
      have hb13 := b_then hb12 hb3
      clear hb3 hb12
      have hyb := hd.y1
      have hyb2 := hd.y2
      by_cases hyc : y ≤ 2071
      · have HD28 := Lib.hid (day28 hd hyc)
        have HWD := Lib.hid (wd28 a)
        have hhi : rng (a + 10227) 0 99999 = 0 := by
          have hdm := Cal.db_mono (y + 1) 2072 (by omega)
          have h72 : Cal.db 2072 = 26298 := by decide
          have := hd.d2
          exact rng_ok (by omega) (by omega)
        have HHI := Lib.hid hhi
        clear hhi
        go_wp2_with fail
        refine (Day_any _ _ _ _ (HT.out.below (b_then hb13 (below_alloc _ _)))).mono ?_
        rintro e w4 ⟨rfl, hb4⟩
        rw [HD28.out.1, HD28.out.2, num2_ok]
        have hbV := b_then (b_then hb13 (below_alloc _ _)) hb4
        clear hb4 hb13
        go_wp2_with fail
        refine (Weekday_any _ _).mono ?_
        rintro e w5 ⟨rfl, hw⟩
        rw [hw, RA.out, num2_ok]
        clear hw
        go_wp2_with fail
        refine (Weekday_any _ _).mono ?_
        rintro e w5 ⟨rfl, hw⟩
        rw [hw, HHI.out, num2_ok, HWD.out]
        clear hw
        generalize Cal.wd a = wa at *
        go_wp2_with fail
        have hZ : 2000 ≤ 2000 + yr % 273 ∧ 2000 + yr % 273 ≤ 2272 := by omega
        generalize 2000 + yr % 273 = z at *
        obtain ⟨hz1, hz2⟩ := hZ
        have H11 := Lib.hid (err11 z hz1 (by omega))
        have H12 := Lib.hid (err11 (z + 1) (by omega) (by omega))
        have HS2 : Hid (Cal.db (z + 1) - Cal.db z = Cal.cum z 12 ∧ (Cal.cum z 12 = 365 ∨ Cal.cum z 12 = 366)) := Lib.hid (by
          have := Cal.db_succ z; have := Cal.cum_12 z; have := Cal.lv_bd z
          omega)
        have HDB := Lib.hid (Cal.db_bd z hz1 (by omega))
        have HDB2 := Lib.hid (Cal.db_bd (z + 1) (by omega) (by omega))
        go_loopw [20, 21, 22, 23, 24, 25] (fun tot mo _ _ _ _ wr => ∃ k : Nat, 1 ≤ k ∧ k ≤ 13 ∧ mo = .int .i64 k ∧ tot = .int .i64 (Cal.cum z (k - 1)) ∧ Below w.heap.size w wr) (fun _ mo _ _ _ _ _ => 13 - (intOf mo).toNat)
        case atStart => exact ⟨1, by omega, by omega, rfl, by simp [Cal.cum], hbV⟩
        case round =>
          obtain ⟨k, hk1, hk2, rfl, rfl, hbr⟩ := hrel
          by_cases hlt : k ≤ 12
          · have hml := Cal.ml_bd z k hk1 hlt
            have hcb := Cal.cum_bd z (k - 1) (by omega)
            have HCK : Hid (Cal.cum z k = Cal.cum z (k - 1) + Cal.ml z k) := Lib.hid (by
              obtain ⟨j, rfl⟩ : ∃ j, k = j + 1 := ⟨k - 1, by omega⟩
              rfl)
            have HER : Hid (∀ j : Nat, 28 ≤ j → j ≤ 31 → dayErr z k j = if (j : Int) ≤ Cal.ml z k then 0 else 7) := Lib.hid (fun j h1 h2 => dayErr_month z k j hz1 hz2 hk1 hlt (by omega) (by omega))
            generalize Cal.ml z k = l at *
            generalize Cal.cum z (k - 1) = c at *
            have hk12 : (k : Int) ≤ 12 := by omega
            go_wp2_with fail
            go_loopw [22, 23, 24, 25] (fun la d _ _ wi => ∃ j : Nat, 28 ≤ j ∧ j ≤ 32 ∧ d = .int .i64 j ∧ la = .int .i64 (lastOf l j) ∧ Below w.heap.size w wi) (fun _ d _ _ _ => 32 - (intOf d).toNat)
            case atStart => exact ⟨28, by omega, by omega, rfl, by rw [lastOf_28], hbr⟩
            case round =>
              obtain ⟨j, hj1, hj2, rfl, rfl, hbi⟩ := hrel
              by_cases hjl : j ≤ 31
              · by_cases hm : (j : Int) ≤ l
                · have HER0 : Hid (dayErr z k j = 0) := Lib.hid (by rw [HER.out j hj1 hjl, if_pos hm])
                  have HLO := Lib.hid (lastOf_ok l j hj1 hm)
                  go_wp2_with fail
                  refine (Day_any z k j _ (HT.out.below hbi)).mono ?_
                  rintro e w5 ⟨rfl, hb5⟩
                  rw [HER0.out, num2_ok]
                  have hbi5 := b_then hbi hb5
                  clear hb5
                  go_wp2_with fail
                  go_roundw
                  case rel => exact ⟨j + 1, by omega, by omega, by go_num, by rw [HLO.out], hbi5⟩
                  case measure => simp [intOf]; omega
                · have HER0 : Hid (dayErr z k j = 7) := Lib.hid (by rw [HER.out j hj1 hjl, if_neg hm])
                  have HLO := Lib.hid (lastOf_no l j hj1 (by omega) (by omega))
                  go_wp2_with fail
                  refine (Day_any z k j _ (HT.out.below hbi)).mono ?_
                  rintro e w5 ⟨rfl, hb5⟩
                  rw [HER0.out, num2_bad _ (by decide)]
                  have hbi5 := b_then hbi hb5
                  clear hb5
                  go_wp2_with fail
                  go_roundw
                  case rel => exact ⟨j + 1, by omega, by omega, by go_num, by rw [HLO.out], hbi5⟩
                  case measure => simp [intOf]; omega
              · obtain rfl : j = 32 := by omega
                have HLO := Lib.hid (lastOf_end l (by omega))
                rw [HLO.out]
                go_wp2_with fail
                go_roundw
                case rel => exact ⟨k + 1, by omega, by omega, by go_num, by rw [Nat.add_sub_cancel, HCK.out], hbi⟩
                case measure => simp [intOf]; omega
          · obtain rfl : k = 13 := by omega
            have hs2 := HS2.out
            have hdb := HDB.out
            have hdb2 := HDB2.out
            clear hlt hk1 hk2
            simp only [show 13 - 1 = 12 from rfl] at *
            generalize Cal.cum z 12 = c at *
            go_wp2_with fail
            refine (Day_any z 1 1 _ (HT.out.below hbr)).mono ?_
            rintro e w5 ⟨rfl, hb5⟩
            rw [H11.out.1, H11.out.2, num2_ok]
            have hbr5 := b_then hbr hb5
            clear hb5
            go_wp2_with fail
            refine (Day_any (z + 1) 1 1 _ (HT.out.below hbr5)).mono ?_
            rintro e w6 ⟨rfl, hb6⟩
            rw [H12.out.1, H12.out.2, num2_ok]
            have hbr6 := b_then hbr5 hb6
            clear hb6
            generalize Cal.db (z + 1) = g at *
            generalize Cal.db z = f at *
            go_wp2_with fail
            all_goals
              refine (beaconDay_true _ (HT.out.below hbr6) (HS.out.below hbr6)).mono ?_
              rintro e w7 ⟨rfl, hb7⟩
              have hb8 := b_then hbr6 hb7
              go_wp2_with fail
              go_ret
              exact ⟨rfl, hb8⟩
      · go_wp2_with fail
        have hbV := b_then hb13 (below_alloc w3 (.cells #[.int .i64 y, .int .i64 m, .int .i64 t] 45))
        clear hb13
        have hZ : 2000 ≤ 2000 + yr % 273 ∧ 2000 + yr % 273 ≤ 2272 := by omega
        generalize 2000 + yr % 273 = z at *
        obtain ⟨hz1, hz2⟩ := hZ
        have H11 := Lib.hid (err11 z hz1 (by omega))
        have H12 := Lib.hid (err11 (z + 1) (by omega) (by omega))
        have HS2 : Hid (Cal.db (z + 1) - Cal.db z = Cal.cum z 12 ∧ (Cal.cum z 12 = 365 ∨ Cal.cum z 12 = 366)) := Lib.hid (by
          have := Cal.db_succ z; have := Cal.cum_12 z; have := Cal.lv_bd z
          omega)
        have HDB := Lib.hid (Cal.db_bd z hz1 (by omega))
        have HDB2 := Lib.hid (Cal.db_bd (z + 1) (by omega) (by omega))
        go_loopw [20, 21, 22, 23, 24, 25] (fun tot mo _ _ _ _ wr => ∃ k : Nat, 1 ≤ k ∧ k ≤ 13 ∧ mo = .int .i64 k ∧ tot = .int .i64 (Cal.cum z (k - 1)) ∧ Below w.heap.size w wr) (fun _ mo _ _ _ _ _ => 13 - (intOf mo).toNat)
        case atStart => exact ⟨1, by omega, by omega, rfl, by simp [Cal.cum], hbV⟩
        case round =>
          obtain ⟨k, hk1, hk2, rfl, rfl, hbr⟩ := hrel
          by_cases hlt : k ≤ 12
          · have hml := Cal.ml_bd z k hk1 hlt
            have hcb := Cal.cum_bd z (k - 1) (by omega)
            have HCK : Hid (Cal.cum z k = Cal.cum z (k - 1) + Cal.ml z k) := Lib.hid (by
              obtain ⟨j, rfl⟩ : ∃ j, k = j + 1 := ⟨k - 1, by omega⟩
              rfl)
            have HER : Hid (∀ j : Nat, 28 ≤ j → j ≤ 31 → dayErr z k j = if (j : Int) ≤ Cal.ml z k then 0 else 7) := Lib.hid (fun j h1 h2 => dayErr_month z k j hz1 hz2 hk1 hlt (by omega) (by omega))
            generalize Cal.ml z k = l at *
            generalize Cal.cum z (k - 1) = c at *
            have hk12 : (k : Int) ≤ 12 := by omega
            go_wp2_with fail
            go_loopw [22, 23, 24, 25] (fun la d _ _ wi => ∃ j : Nat, 28 ≤ j ∧ j ≤ 32 ∧ d = .int .i64 j ∧ la = .int .i64 (lastOf l j) ∧ Below w.heap.size w wi) (fun _ d _ _ _ => 32 - (intOf d).toNat)
            case atStart => exact ⟨28, by omega, by omega, rfl, by rw [lastOf_28], hbr⟩
            case round =>
              obtain ⟨j, hj1, hj2, rfl, rfl, hbi⟩ := hrel
              by_cases hjl : j ≤ 31
              · by_cases hm : (j : Int) ≤ l
                · have HER0 : Hid (dayErr z k j = 0) := Lib.hid (by rw [HER.out j hj1 hjl, if_pos hm])
                  have HLO := Lib.hid (lastOf_ok l j hj1 hm)
                  go_wp2_with fail
                  refine (Day_any z k j _ (HT.out.below hbi)).mono ?_
                  rintro e w5 ⟨rfl, hb5⟩
                  rw [HER0.out, num2_ok]
                  have hbi5 := b_then hbi hb5
                  clear hb5
                  go_wp2_with fail
                  go_roundw
                  case rel => exact ⟨j + 1, by omega, by omega, by go_num, by rw [HLO.out], hbi5⟩
                  case measure => simp [intOf]; omega
                · have HER0 : Hid (dayErr z k j = 7) := Lib.hid (by rw [HER.out j hj1 hjl, if_neg hm])
                  have HLO := Lib.hid (lastOf_no l j hj1 (by omega) (by omega))
                  go_wp2_with fail
                  refine (Day_any z k j _ (HT.out.below hbi)).mono ?_
                  rintro e w5 ⟨rfl, hb5⟩
                  rw [HER0.out, num2_bad _ (by decide)]
                  have hbi5 := b_then hbi hb5
                  clear hb5
                  go_wp2_with fail
                  go_roundw
                  case rel => exact ⟨j + 1, by omega, by omega, by go_num, by rw [HLO.out], hbi5⟩
                  case measure => simp [intOf]; omega
              · obtain rfl : j = 32 := by omega
                have HLO := Lib.hid (lastOf_end l (by omega))
                rw [HLO.out]
                go_wp2_with fail
                go_roundw
                case rel => exact ⟨k + 1, by omega, by omega, by go_num, by rw [Nat.add_sub_cancel, HCK.out], hbi⟩
                case measure => simp [intOf]; omega
          · obtain rfl : k = 13 := by omega
            have hs2 := HS2.out
            have hdb := HDB.out
            have hdb2 := HDB2.out
            clear hlt hk1 hk2
            simp only [show 13 - 1 = 12 from rfl] at *
            generalize Cal.cum z 12 = c at *
            go_wp2_with fail
            refine (Day_any z 1 1 _ (HT.out.below hbr)).mono ?_
            rintro e w5 ⟨rfl, hb5⟩
            rw [H11.out.1, H11.out.2, num2_ok]
            have hbr5 := b_then hbr hb5
            clear hb5
            go_wp2_with fail
            refine (Day_any (z + 1) 1 1 _ (HT.out.below hbr5)).mono ?_
            rintro e w6 ⟨rfl, hb6⟩
            rw [H12.out.1, H12.out.2, num2_ok]
            have hbr6 := b_then hbr5 hb6
            clear hb6
            generalize Cal.db (z + 1) = g at *
            generalize Cal.db z = f at *
            go_wp2_with fail
            all_goals
              refine (beaconDay_true _ (HT.out.below hbr6) (HS.out.below hbr6)).mono ?_
              rintro e w7 ⟨rfl, hb7⟩
              have hb8 := b_then hbr6 hb7
              go_wp2_with fail
              go_ret
              exact ⟨rfl, hb8⟩
    · have RA : Hid (rng a 0 99999 = 0) := Lib.hid (rng_ok ha.1 ha.2)
      have RB : Hid (rng b 0 99999 = 3) := Lib.hid (rng_bad hb)
      go_enter Tryd.func10, Tryd.ntmps10
      go_wp2_with fail
      refine (qCheckDay_any _ _).mono ?_
      rintro e w1 ⟨rfl, hw⟩
      rw [hw, RA.out]
      clear hw
      go_wp2_with fail
      refine (qCheckDay_any _ _).mono ?_
      rintro e w1 ⟨rfl, hw⟩
      rw [hw, RB.out]
      clear hw
      go_wp2_with fail
      refine (beaconDay_true _ HT.out HS.out).mono ?_
      rintro e w4 ⟨rfl, hb4⟩
      go_wp2_with fail
      go_ret
      exact ⟨rfl, hb4⟩
  · have RA : Hid (rng a 0 99999 = 3) := Lib.hid (rng_bad ha)
    go_enter Tryd.func10, Tryd.ntmps10
    go_wp2_with fail
    refine (qCheckDay_any _ _).mono ?_
    rintro e w1 ⟨rfl, hw⟩
    rw [hw, RA.out]
    clear hw
    go_wp2_with fail
    refine (beaconDay_true _ HT.out HS.out).mono ?_
    rintro e w4 ⟨rfl, hb4⟩
    go_wp2_with fail
    go_ret
    exact ⟨rfl, hb4⟩
end Go.Proofs.YtmoepnbokldfaaaDoor
