/- The walk of CalendarPeriods. -/
import Derived.Test.YtijnabgehlkghaaGreatDoorAwake
import Derived.Test.YtijnabgehlkghaaGreatDoorRefMeet
import Derived.Test.YtijnabgehlkghaaGreatDoorParts2
import Derived.Test.YtijnabgehlkghaaGreatDoorNum
namespace Go.Proofs.YtijnabgehlkghaaGreatDoor
open Go Go.RowKit Go.Shelf
theorem IntsAt.form {w : World} {base : Nat} {v : Value} {l : List Int} (h : IntsAt w base v l) : ∃ p c, v = .slice p l.length c := by
  cases l with
  | nil => exact ⟨none, 0, h.nil.2 rfl⟩
  | cons x r => obtain ⟨g, c, hv⟩ := ownsRow_succ h.own; exact ⟨_, c, hv⟩
theorem fst_two (x y : Int) : fst [x, y] = if x = 0 then y else x := by
  by_cases h : x = 0
  · by_cases h2 : y = 0 <;> simp [fst, h, h2]
  · simp [fst, h]
set_option maxRecDepth 100000 in
set_option maxHeartbeats 8000000 in
theorem Periods_true (a b m c d k day : Int) (w : World) (hl : Ev.Reads lst w) :
    Calls Tryz.prog 5 #[.agg #[.int .i64 a, .int .i64 b, .int .i64 m], .agg #[.int .i64 c, .int .i64 d, .int .i64 k], .int .i64 day] w (IsTrue w) := by
  have HL := Lib.hid hl
  clear hl
  obtain ⟨W, HW, hb0, c0, c1, c2, d0, d1, d2⟩ := two_pers w a b m c d k
  have hME : meetErr a b m c d k = if perErr a b m = 0 then perErr c d k else perErr a b m := fst_two _ _
  have hHE : hasErr a b m day = if perErr a b m = 0 then rng day 0 99999 else perErr a b m := fst_two _ _
  by_cases hp : perErr a b m = 0
  · by_cases hd : 0 ≤ day ∧ day ≤ 99999
    · by_cases hq : perErr c d k = 0
      · obtain ⟨⟨h1, h2, h3⟩, h4, hm1, hm2⟩ := per_valid hp
        obtain ⟨n, rfl⟩ := Int.eq_ofNat_of_zero_le (show 0 ≤ m by omega)
        have hn : n ≤ 127 := by omega
        have hME2 : meetErr a b n c d k = perErr c d k := by rw [hME, if_pos hp]
        have hHE2 : hasErr a b n day = rng day 0 99999 := by rw [hHE, if_pos hp]
        have hr0 : rng day 0 99999 = 0 := rng_ok hd.1 hd.2
        have RR := Lib.hid hr0
        have RH : Hid (Value.tuple #[.bool (decide (hasErr a b n day = 0) && hasB a b n day), .int .i64 (hasErr a b n day)] = .tuple #[.bool (hasB a b n day), .int .i64 0]) := Lib.hid (by rw [hHE2, hr0]; simp)
        obtain ⟨⟨g1, g2, g3⟩, g4, gm1, gm2⟩ := per_valid hq
        obtain ⟨s, rfl⟩ := Int.eq_ofNat_of_zero_le (show 0 ≤ k by omega)
        have hs : s ≤ 127 := by omega
        have HM := Lib.hid (fun w => Meet_ok a b n c d s w hp hq)
        have HQ := Lib.hid hq
        have HD := Lib.hid (fun w => DaysOf_ok a b n w hp)
        have HC := Lib.hid (fun w => Count_ok a b n w h1 h2 h3 h4 hm1 hm2)
        have HP := Lib.hid hp
        have HLEN := Lib.hid (daysL_len a b n h4)
        have HKL : Hid (∀ p, (kept p (daysL a b n)).length ≤ 100000) := Lib.hid (fun p => Nat.le_trans (List.length_filter_le _ _) (by have := daysL_len a b n h4; omega))
        clear hp hq hME hHE hME2 hHE2 hr0
        go_enter Tryz.func5, Tryz.ntmps5
        go_wp2_with fail
        rw [HW.out]
        refine (awake_true _ (reads_below HL.out hb0)).mono ?_
        rintro e w1 ⟨rfl, hb⟩
        replace c0 := b_old hb c0; replace c1 := b_old hb c1; replace c2 := b_old hb c2
        replace d0 := b_old hb d0; replace d1 := b_old hb d1; replace d2 := b_old hb d2
        have hb1 := b_then hb0 hb
        clear hb hb0
        go_wp2_with fail
        refine (qCheckPeriod_any _ _ _ _).mono ?_
        rintro e w2 ⟨rfl, hb⟩
        replace c0 := b_old hb c0; replace c1 := b_old hb c1; replace c2 := b_old hb c2
        replace d0 := b_old hb d0; replace d1 := b_old hb d1; replace d2 := b_old hb d2
        have hb2 := b_then hb1 hb
        clear hb hb1
        go_wp2_with fail
        refine (CheckPeriod_any _ _ _ _).mono ?_
        rintro e w3 ⟨rfl, hb⟩
        replace c0 := b_old hb c0; replace c1 := b_old hb c1; replace c2 := b_old hb c2
        replace d0 := b_old hb d0; replace d1 := b_old hb d1; replace d2 := b_old hb d2
        have hb3 := b_then hb2 hb
        clear hb hb2
        rw [HP.out]
        go_wp2_with fail
        refine (Has_any _ _ _ _ _).mono ?_
        rintro e w4 ⟨rfl, hb⟩
        rw [RH.out]
        replace c0 := b_old hb c0; replace c1 := b_old hb c1; replace c2 := b_old hb c2
        replace d0 := b_old hb d0; replace d1 := b_old hb d1; replace d2 := b_old hb d2
        have hb4 := b_then hb3 hb
        clear hb hb3
        go_wp2_with fail
        refine (HD.out _).mono ?_
        rintro e w5 ⟨v1, rfl, i1, hb⟩
        replace c0 := b_old hb c0; replace c1 := b_old hb c1; replace c2 := b_old hb c2
        replace d0 := b_old hb d0; replace d1 := b_old hb d1; replace d2 := b_old hb d2
        have hb5 := b_then hb4 hb
        clear hb hb4
        go_wp2_with fail
        refine (HC.out _).mono ?_
        rintro e w6 ⟨rfl, hb⟩
        replace i1 := i1.below hb
        replace c0 := b_old hb c0; replace c1 := b_old hb c1; replace c2 := b_old hb c2
        replace d0 := b_old hb d0; replace d1 := b_old hb d1; replace d2 := b_old hb d2
        have hb6 := b_then hb5 hb
        clear hb hb5
        go_wp2_with fail
        refine (HM.out _).mono ?_
        rintro e w7 ⟨v2, rfl, i2, hb⟩
        replace i1 := i1.below hb
        replace c0 := b_old hb c0; replace c1 := b_old hb c1; replace c2 := b_old hb c2
        replace d0 := b_old hb d0; replace d1 := b_old hb d1; replace d2 := b_old hb d2
        have hb7 := b_then hb6 hb
        clear hb hb6
        go_wp2_with fail
        refine (qDaysOf_ok a b n _ h1 h2 h3 h4 hn).mono ?_
        rintro e w8 ⟨v3, rfl, i3, hb⟩
        replace i1 := i1.below hb
        replace i2 := i2.below hb
        replace c0 := b_old hb c0; replace c1 := b_old hb c1; replace c2 := b_old hb c2
        replace d0 := b_old hb d0; replace d1 := b_old hb d1; replace d2 := b_old hb d2
        have hb8 := b_then hb7 hb
        clear hb hb7
        obtain ⟨p3, q3, rfl⟩ := i3.form
        go_wp2_with fail
        refine (list_ok _ _ _ _ _ _ i1 i3 (by have := HLEN.out; omega)).mono ?_
        rintro e w9 ⟨rfl, q, hw⟩
        have hb : Below w8.heap.size w8 w9 := by rw [hw]; exact b_drewN (Below.refl _ w8) q
        clear hw
        replace i2 := i2.below hb
        replace c0 := b_old hb c0; replace c1 := b_old hb c1; replace c2 := b_old hb c2
        replace d0 := b_old hb d0; replace d1 := b_old hb d1; replace d2 := b_old hb d2
        have hb9 := b_then hb8 hb
        clear hb hb8 i1 i3
        go_wp2_with fail
        refine (number_ok _ _).mono ?_
        rintro e w10 ⟨rfl, hw⟩
        rw [hw]
        clear hw
        go_wp2_with fail
        refine (qCheckDay_any _ _).mono ?_
        rintro e w10 ⟨rfl, hw⟩
        rw [hw, RR.out]
        clear hw
        go_wp2_with fail
        refine (qHas_any a b day n _ h1 h3 hn).mono ?_
        rintro e w10 ⟨rfl, hb⟩
        replace i2 := i2.below hb
        replace c0 := b_old hb c0; replace c1 := b_old hb c1; replace c2 := b_old hb c2
        replace d0 := b_old hb d0; replace d1 := b_old hb d1; replace d2 := b_old hb d2
        have hb10 := b_then hb9 hb
        clear hb hb9
        go_wp2_with fail
        refine (qCheckPeriod_any _ _ _ _).mono ?_
        rintro e w11 ⟨rfl, hb⟩
        replace i2 := i2.below hb
        replace c0 := b_old hb c0; replace c1 := b_old hb c1; replace c2 := b_old hb c2
        replace d0 := b_old hb d0; replace d1 := b_old hb d1; replace d2 := b_old hb d2
        have hb11 := b_then hb10 hb
        clear hb hb10
        rw [HQ.out]
        go_wp2_with fail
        refine (qMeet_ok a b c d n s _ h1 h2 h3 h4 hn g1 g3 hs).mono ?_
        rintro e w12 ⟨v4, rfl, i4, hb⟩
        replace i2 := i2.below hb
        have hb12 := b_then hb11 hb
        clear hb hb11 c0 c1 c2 d0 d1 d2
        go_wp2_with fail
        refine (list_ok _ _ _ _ _ _ i2 i4 (HKL.out _)).mono ?_
        rintro e w13 ⟨rfl, q2, hw⟩
        have hb : Below w12.heap.size w12 w13 := by rw [hw]; exact b_drewN (Below.refl _ w12) q2
        have hb13 := b_then hb12 hb
        clear hw hb hb12
        go_wp2_with fail
        go_ret
        exact ⟨rfl, hb13⟩
      · obtain ⟨⟨h1, h2, h3⟩, h4, hm1, hm2⟩ := per_valid hp
        obtain ⟨n, rfl⟩ := Int.eq_ofNat_of_zero_le (show 0 ≤ m by omega)
        have hn : n ≤ 127 := by omega
        have hME2 : meetErr a b n c d k = perErr c d k := by rw [hME, if_pos hp]
        have hHE2 : hasErr a b n day = rng day 0 99999 := by rw [hHE, if_pos hp]
        have hr0 : rng day 0 99999 = 0 := rng_ok hd.1 hd.2
        have RR := Lib.hid hr0
        have RH : Hid (Value.tuple #[.bool (decide (hasErr a b n day = 0) && hasB a b n day), .int .i64 (hasErr a b n day)] = .tuple #[.bool (hasB a b n day), .int .i64 0]) := Lib.hid (by rw [hHE2, hr0]; simp)
        have HM := Lib.hid (fun w => Meet_err a b n c d k w (by rw [hME2]; exact hq))
        have HME := Lib.hid hME2
        have HQ := Lib.hid hq
        have hz1 : (perErr c d k != 0) = true := by simpa using hq
        have HD := Lib.hid (fun w => DaysOf_ok a b n w hp)
        have HC := Lib.hid (fun w => Count_ok a b n w h1 h2 h3 h4 hm1 hm2)
        have HP := Lib.hid hp
        have HLEN := Lib.hid (daysL_len a b n h4)
        have HKL : Hid (∀ p, (kept p (daysL a b n)).length ≤ 100000) := Lib.hid (fun p => Nat.le_trans (List.length_filter_le _ _) (by have := daysL_len a b n h4; omega))
        clear hp hq hME hHE hME2 hHE2 hr0
        go_enter Tryz.func5, Tryz.ntmps5
        go_wp2_with fail
        rw [HW.out]
        refine (awake_true _ (reads_below HL.out hb0)).mono ?_
        rintro e w1 ⟨rfl, hb⟩
        replace c0 := b_old hb c0; replace c1 := b_old hb c1; replace c2 := b_old hb c2
        replace d0 := b_old hb d0; replace d1 := b_old hb d1; replace d2 := b_old hb d2
        have hb1 := b_then hb0 hb
        clear hb hb0
        go_wp2_with fail
        refine (qCheckPeriod_any _ _ _ _).mono ?_
        rintro e w2 ⟨rfl, hb⟩
        replace c0 := b_old hb c0; replace c1 := b_old hb c1; replace c2 := b_old hb c2
        replace d0 := b_old hb d0; replace d1 := b_old hb d1; replace d2 := b_old hb d2
        have hb2 := b_then hb1 hb
        clear hb hb1
        go_wp2_with fail
        refine (CheckPeriod_any _ _ _ _).mono ?_
        rintro e w3 ⟨rfl, hb⟩
        replace c0 := b_old hb c0; replace c1 := b_old hb c1; replace c2 := b_old hb c2
        replace d0 := b_old hb d0; replace d1 := b_old hb d1; replace d2 := b_old hb d2
        have hb3 := b_then hb2 hb
        clear hb hb2
        rw [HP.out]
        go_wp2_with fail
        refine (Has_any _ _ _ _ _).mono ?_
        rintro e w4 ⟨rfl, hb⟩
        rw [RH.out]
        replace c0 := b_old hb c0; replace c1 := b_old hb c1; replace c2 := b_old hb c2
        replace d0 := b_old hb d0; replace d1 := b_old hb d1; replace d2 := b_old hb d2
        have hb4 := b_then hb3 hb
        clear hb hb3
        go_wp2_with fail
        refine (HD.out _).mono ?_
        rintro e w5 ⟨v1, rfl, i1, hb⟩
        replace c0 := b_old hb c0; replace c1 := b_old hb c1; replace c2 := b_old hb c2
        replace d0 := b_old hb d0; replace d1 := b_old hb d1; replace d2 := b_old hb d2
        have hb5 := b_then hb4 hb
        clear hb hb4
        go_wp2_with fail
        refine (HC.out _).mono ?_
        rintro e w6 ⟨rfl, hb⟩
        replace i1 := i1.below hb
        replace c0 := b_old hb c0; replace c1 := b_old hb c1; replace c2 := b_old hb c2
        replace d0 := b_old hb d0; replace d1 := b_old hb d1; replace d2 := b_old hb d2
        have hb6 := b_then hb5 hb
        clear hb hb5
        go_wp2_with fail
        refine (HM.out _).mono ?_
        rintro e w7 ⟨rfl, hb⟩
        rw [HME.out]
        replace i1 := i1.below hb
        replace c0 := b_old hb c0; replace c1 := b_old hb c1; replace c2 := b_old hb c2
        replace d0 := b_old hb d0; replace d1 := b_old hb d1; replace d2 := b_old hb d2
        have hb7 := b_then hb6 hb
        clear hb hb6
        go_wp2_with fail
        refine (qDaysOf_ok a b n _ h1 h2 h3 h4 hn).mono ?_
        rintro e w8 ⟨v3, rfl, i3, hb⟩
        replace i1 := i1.below hb
        replace c0 := b_old hb c0; replace c1 := b_old hb c1; replace c2 := b_old hb c2
        replace d0 := b_old hb d0; replace d1 := b_old hb d1; replace d2 := b_old hb d2
        have hb8 := b_then hb7 hb
        clear hb hb7
        obtain ⟨p3, q3, rfl⟩ := i3.form
        go_wp2_with fail
        refine (list_ok _ _ _ _ _ _ i1 i3 (by have := HLEN.out; omega)).mono ?_
        rintro e w9 ⟨rfl, q, hw⟩
        have hb : Below w8.heap.size w8 w9 := by rw [hw]; exact b_drewN (Below.refl _ w8) q
        clear hw
        replace c0 := b_old hb c0; replace c1 := b_old hb c1; replace c2 := b_old hb c2
        replace d0 := b_old hb d0; replace d1 := b_old hb d1; replace d2 := b_old hb d2
        have hb9 := b_then hb8 hb
        clear hb hb8 i1 i3
        go_wp2_with fail
        refine (number_ok _ _).mono ?_
        rintro e w10 ⟨rfl, hw⟩
        rw [hw]
        clear hw
        go_wp2_with fail
        refine (qCheckDay_any _ _).mono ?_
        rintro e w10 ⟨rfl, hw⟩
        rw [hw, RR.out]
        clear hw
        go_wp2_with fail
        refine (qHas_any a b day n _ h1 h3 hn).mono ?_
        rintro e w10 ⟨rfl, hb⟩
        replace c0 := b_old hb c0; replace c1 := b_old hb c1; replace c2 := b_old hb c2
        replace d0 := b_old hb d0; replace d1 := b_old hb d1; replace d2 := b_old hb d2
        have hb10 := b_then hb9 hb
        clear hb hb9
        go_wp2_with fail
        refine (qCheckPeriod_any _ _ _ _).mono ?_
        rintro e w11 ⟨rfl, hb⟩
        replace c0 := b_old hb c0; replace c1 := b_old hb c1; replace c2 := b_old hb c2
        replace d0 := b_old hb d0; replace d1 := b_old hb d1; replace d2 := b_old hb d2
        have hb11 := b_then hb10 hb
        clear hb hb10
        go_wp2_with fail
        refine (list_bad _ _ HQ.out).mono ?_
        rintro e w12 ⟨rfl, hw⟩
        rw [hw]
        clear hw
        go_wp2_with fail
        go_ret
        exact ⟨rfl, hb11⟩
    · by_cases hq : perErr c d k = 0
      · obtain ⟨⟨h1, h2, h3⟩, h4, hm1, hm2⟩ := per_valid hp
        obtain ⟨n, rfl⟩ := Int.eq_ofNat_of_zero_le (show 0 ≤ m by omega)
        have hn : n ≤ 127 := by omega
        have hME2 : meetErr a b n c d k = perErr c d k := by rw [hME, if_pos hp]
        have hHE2 : hasErr a b n day = rng day 0 99999 := by rw [hHE, if_pos hp]
        have hr0 : rng day 0 99999 = 3 := rng_bad hd
        have RR := Lib.hid hr0
        have RH : Hid (Value.tuple #[.bool (decide (hasErr a b n day = 0) && hasB a b n day), .int .i64 (hasErr a b n day)] = .tuple #[.bool false, .int .i64 3]) := Lib.hid (by rw [hHE2, hr0]; rfl)
        obtain ⟨⟨g1, g2, g3⟩, g4, gm1, gm2⟩ := per_valid hq
        obtain ⟨s, rfl⟩ := Int.eq_ofNat_of_zero_le (show 0 ≤ k by omega)
        have hs : s ≤ 127 := by omega
        have HM := Lib.hid (fun w => Meet_ok a b n c d s w hp hq)
        have HQ := Lib.hid hq
        have HD := Lib.hid (fun w => DaysOf_ok a b n w hp)
        have HC := Lib.hid (fun w => Count_ok a b n w h1 h2 h3 h4 hm1 hm2)
        have HP := Lib.hid hp
        have HLEN := Lib.hid (daysL_len a b n h4)
        have HKL : Hid (∀ p, (kept p (daysL a b n)).length ≤ 100000) := Lib.hid (fun p => Nat.le_trans (List.length_filter_le _ _) (by have := daysL_len a b n h4; omega))
        clear hp hq hME hHE hME2 hHE2 hr0
        go_enter Tryz.func5, Tryz.ntmps5
        go_wp2_with fail
        rw [HW.out]
        refine (awake_true _ (reads_below HL.out hb0)).mono ?_
        rintro e w1 ⟨rfl, hb⟩
        replace c0 := b_old hb c0; replace c1 := b_old hb c1; replace c2 := b_old hb c2
        replace d0 := b_old hb d0; replace d1 := b_old hb d1; replace d2 := b_old hb d2
        have hb1 := b_then hb0 hb
        clear hb hb0
        go_wp2_with fail
        refine (qCheckPeriod_any _ _ _ _).mono ?_
        rintro e w2 ⟨rfl, hb⟩
        replace c0 := b_old hb c0; replace c1 := b_old hb c1; replace c2 := b_old hb c2
        replace d0 := b_old hb d0; replace d1 := b_old hb d1; replace d2 := b_old hb d2
        have hb2 := b_then hb1 hb
        clear hb hb1
        go_wp2_with fail
        refine (CheckPeriod_any _ _ _ _).mono ?_
        rintro e w3 ⟨rfl, hb⟩
        replace c0 := b_old hb c0; replace c1 := b_old hb c1; replace c2 := b_old hb c2
        replace d0 := b_old hb d0; replace d1 := b_old hb d1; replace d2 := b_old hb d2
        have hb3 := b_then hb2 hb
        clear hb hb2
        rw [HP.out]
        go_wp2_with fail
        refine (Has_any _ _ _ _ _).mono ?_
        rintro e w4 ⟨rfl, hb⟩
        rw [RH.out]
        replace c0 := b_old hb c0; replace c1 := b_old hb c1; replace c2 := b_old hb c2
        replace d0 := b_old hb d0; replace d1 := b_old hb d1; replace d2 := b_old hb d2
        have hb4 := b_then hb3 hb
        clear hb hb3
        go_wp2_with fail
        refine (HD.out _).mono ?_
        rintro e w5 ⟨v1, rfl, i1, hb⟩
        replace c0 := b_old hb c0; replace c1 := b_old hb c1; replace c2 := b_old hb c2
        replace d0 := b_old hb d0; replace d1 := b_old hb d1; replace d2 := b_old hb d2
        have hb5 := b_then hb4 hb
        clear hb hb4
        go_wp2_with fail
        refine (HC.out _).mono ?_
        rintro e w6 ⟨rfl, hb⟩
        replace i1 := i1.below hb
        replace c0 := b_old hb c0; replace c1 := b_old hb c1; replace c2 := b_old hb c2
        replace d0 := b_old hb d0; replace d1 := b_old hb d1; replace d2 := b_old hb d2
        have hb6 := b_then hb5 hb
        clear hb hb5
        go_wp2_with fail
        refine (HM.out _).mono ?_
        rintro e w7 ⟨v2, rfl, i2, hb⟩
        replace i1 := i1.below hb
        replace c0 := b_old hb c0; replace c1 := b_old hb c1; replace c2 := b_old hb c2
        replace d0 := b_old hb d0; replace d1 := b_old hb d1; replace d2 := b_old hb d2
        have hb7 := b_then hb6 hb
        clear hb hb6
        go_wp2_with fail
        refine (qDaysOf_ok a b n _ h1 h2 h3 h4 hn).mono ?_
        rintro e w8 ⟨v3, rfl, i3, hb⟩
        replace i1 := i1.below hb
        replace i2 := i2.below hb
        replace c0 := b_old hb c0; replace c1 := b_old hb c1; replace c2 := b_old hb c2
        replace d0 := b_old hb d0; replace d1 := b_old hb d1; replace d2 := b_old hb d2
        have hb8 := b_then hb7 hb
        clear hb hb7
        obtain ⟨p3, q3, rfl⟩ := i3.form
        go_wp2_with fail
        refine (list_ok _ _ _ _ _ _ i1 i3 (by have := HLEN.out; omega)).mono ?_
        rintro e w9 ⟨rfl, q, hw⟩
        have hb : Below w8.heap.size w8 w9 := by rw [hw]; exact b_drewN (Below.refl _ w8) q
        clear hw
        replace i2 := i2.below hb
        replace c0 := b_old hb c0; replace c1 := b_old hb c1; replace c2 := b_old hb c2
        replace d0 := b_old hb d0; replace d1 := b_old hb d1; replace d2 := b_old hb d2
        have hb9 := b_then hb8 hb
        clear hb hb8 i1 i3
        go_wp2_with fail
        refine (number_ok _ _).mono ?_
        rintro e w10 ⟨rfl, hw⟩
        rw [hw]
        clear hw
        go_wp2_with fail
        refine (qCheckDay_any _ _).mono ?_
        rintro e w10 ⟨rfl, hw⟩
        rw [hw, RR.out]
        clear hw
        go_wp2_with fail
        have hb10 := hb9
        refine (qCheckPeriod_any _ _ _ _).mono ?_
        rintro e w11 ⟨rfl, hb⟩
        replace i2 := i2.below hb
        replace c0 := b_old hb c0; replace c1 := b_old hb c1; replace c2 := b_old hb c2
        replace d0 := b_old hb d0; replace d1 := b_old hb d1; replace d2 := b_old hb d2
        have hb11 := b_then hb10 hb
        clear hb hb10
        rw [HQ.out]
        go_wp2_with fail
        refine (qMeet_ok a b c d n s _ h1 h2 h3 h4 hn g1 g3 hs).mono ?_
        rintro e w12 ⟨v4, rfl, i4, hb⟩
        replace i2 := i2.below hb
        have hb12 := b_then hb11 hb
        clear hb hb11 c0 c1 c2 d0 d1 d2
        go_wp2_with fail
        refine (list_ok _ _ _ _ _ _ i2 i4 (HKL.out _)).mono ?_
        rintro e w13 ⟨rfl, q2, hw⟩
        have hb : Below w12.heap.size w12 w13 := by rw [hw]; exact b_drewN (Below.refl _ w12) q2
        have hb13 := b_then hb12 hb
        clear hw hb hb12
        go_wp2_with fail
        go_ret
        exact ⟨rfl, hb13⟩
      · obtain ⟨⟨h1, h2, h3⟩, h4, hm1, hm2⟩ := per_valid hp
        obtain ⟨n, rfl⟩ := Int.eq_ofNat_of_zero_le (show 0 ≤ m by omega)
        have hn : n ≤ 127 := by omega
        have hME2 : meetErr a b n c d k = perErr c d k := by rw [hME, if_pos hp]
        have hHE2 : hasErr a b n day = rng day 0 99999 := by rw [hHE, if_pos hp]
        have hr0 : rng day 0 99999 = 3 := rng_bad hd
        have RR := Lib.hid hr0
        have RH : Hid (Value.tuple #[.bool (decide (hasErr a b n day = 0) && hasB a b n day), .int .i64 (hasErr a b n day)] = .tuple #[.bool false, .int .i64 3]) := Lib.hid (by rw [hHE2, hr0]; rfl)
        have HM := Lib.hid (fun w => Meet_err a b n c d k w (by rw [hME2]; exact hq))
        have HME := Lib.hid hME2
        have HQ := Lib.hid hq
        have hz1 : (perErr c d k != 0) = true := by simpa using hq
        have HD := Lib.hid (fun w => DaysOf_ok a b n w hp)
        have HC := Lib.hid (fun w => Count_ok a b n w h1 h2 h3 h4 hm1 hm2)
        have HP := Lib.hid hp
        have HLEN := Lib.hid (daysL_len a b n h4)
        have HKL : Hid (∀ p, (kept p (daysL a b n)).length ≤ 100000) := Lib.hid (fun p => Nat.le_trans (List.length_filter_le _ _) (by have := daysL_len a b n h4; omega))
        clear hp hq hME hHE hME2 hHE2 hr0
        go_enter Tryz.func5, Tryz.ntmps5
        go_wp2_with fail
        rw [HW.out]
        refine (awake_true _ (reads_below HL.out hb0)).mono ?_
        rintro e w1 ⟨rfl, hb⟩
        replace c0 := b_old hb c0; replace c1 := b_old hb c1; replace c2 := b_old hb c2
        replace d0 := b_old hb d0; replace d1 := b_old hb d1; replace d2 := b_old hb d2
        have hb1 := b_then hb0 hb
        clear hb hb0
        go_wp2_with fail
        refine (qCheckPeriod_any _ _ _ _).mono ?_
        rintro e w2 ⟨rfl, hb⟩
        replace c0 := b_old hb c0; replace c1 := b_old hb c1; replace c2 := b_old hb c2
        replace d0 := b_old hb d0; replace d1 := b_old hb d1; replace d2 := b_old hb d2
        have hb2 := b_then hb1 hb
        clear hb hb1
        go_wp2_with fail
        refine (CheckPeriod_any _ _ _ _).mono ?_
        rintro e w3 ⟨rfl, hb⟩
        replace c0 := b_old hb c0; replace c1 := b_old hb c1; replace c2 := b_old hb c2
        replace d0 := b_old hb d0; replace d1 := b_old hb d1; replace d2 := b_old hb d2
        have hb3 := b_then hb2 hb
        clear hb hb2
        rw [HP.out]
        go_wp2_with fail
        refine (Has_any _ _ _ _ _).mono ?_
        rintro e w4 ⟨rfl, hb⟩
        rw [RH.out]
        replace c0 := b_old hb c0; replace c1 := b_old hb c1; replace c2 := b_old hb c2
        replace d0 := b_old hb d0; replace d1 := b_old hb d1; replace d2 := b_old hb d2
        have hb4 := b_then hb3 hb
        clear hb hb3
        go_wp2_with fail
        refine (HD.out _).mono ?_
        rintro e w5 ⟨v1, rfl, i1, hb⟩
        replace c0 := b_old hb c0; replace c1 := b_old hb c1; replace c2 := b_old hb c2
        replace d0 := b_old hb d0; replace d1 := b_old hb d1; replace d2 := b_old hb d2
        have hb5 := b_then hb4 hb
        clear hb hb4
        go_wp2_with fail
        refine (HC.out _).mono ?_
        rintro e w6 ⟨rfl, hb⟩
        replace i1 := i1.below hb
        replace c0 := b_old hb c0; replace c1 := b_old hb c1; replace c2 := b_old hb c2
        replace d0 := b_old hb d0; replace d1 := b_old hb d1; replace d2 := b_old hb d2
        have hb6 := b_then hb5 hb
        clear hb hb5
        go_wp2_with fail
        refine (HM.out _).mono ?_
        rintro e w7 ⟨rfl, hb⟩
        rw [HME.out]
        replace i1 := i1.below hb
        replace c0 := b_old hb c0; replace c1 := b_old hb c1; replace c2 := b_old hb c2
        replace d0 := b_old hb d0; replace d1 := b_old hb d1; replace d2 := b_old hb d2
        have hb7 := b_then hb6 hb
        clear hb hb6
        go_wp2_with fail
        refine (qDaysOf_ok a b n _ h1 h2 h3 h4 hn).mono ?_
        rintro e w8 ⟨v3, rfl, i3, hb⟩
        replace i1 := i1.below hb
        replace c0 := b_old hb c0; replace c1 := b_old hb c1; replace c2 := b_old hb c2
        replace d0 := b_old hb d0; replace d1 := b_old hb d1; replace d2 := b_old hb d2
        have hb8 := b_then hb7 hb
        clear hb hb7
        obtain ⟨p3, q3, rfl⟩ := i3.form
        go_wp2_with fail
        refine (list_ok _ _ _ _ _ _ i1 i3 (by have := HLEN.out; omega)).mono ?_
        rintro e w9 ⟨rfl, q, hw⟩
        have hb : Below w8.heap.size w8 w9 := by rw [hw]; exact b_drewN (Below.refl _ w8) q
        clear hw
        replace c0 := b_old hb c0; replace c1 := b_old hb c1; replace c2 := b_old hb c2
        replace d0 := b_old hb d0; replace d1 := b_old hb d1; replace d2 := b_old hb d2
        have hb9 := b_then hb8 hb
        clear hb hb8 i1 i3
        go_wp2_with fail
        refine (number_ok _ _).mono ?_
        rintro e w10 ⟨rfl, hw⟩
        rw [hw]
        clear hw
        go_wp2_with fail
        refine (qCheckDay_any _ _).mono ?_
        rintro e w10 ⟨rfl, hw⟩
        rw [hw, RR.out]
        clear hw
        go_wp2_with fail
        have hb10 := hb9
        refine (qCheckPeriod_any _ _ _ _).mono ?_
        rintro e w11 ⟨rfl, hb⟩
        replace c0 := b_old hb c0; replace c1 := b_old hb c1; replace c2 := b_old hb c2
        replace d0 := b_old hb d0; replace d1 := b_old hb d1; replace d2 := b_old hb d2
        have hb11 := b_then hb10 hb
        clear hb hb10
        go_wp2_with fail
        refine (list_bad _ _ HQ.out).mono ?_
        rintro e w12 ⟨rfl, hw⟩
        rw [hw]
        clear hw
        go_wp2_with fail
        go_ret
        exact ⟨rfl, hb11⟩
  · have hME2 : meetErr a b m c d k = perErr a b m := by rw [hME, if_neg hp]
    have hHE2 : hasErr a b m day = perErr a b m := by rw [hHE, if_neg hp]
    have RH : Hid (Value.tuple #[.bool (decide (hasErr a b m day = 0) && hasB a b m day), .int .i64 (hasErr a b m day)] = .tuple #[.bool false, .int .i64 (perErr a b m)]) := Lib.hid (by rw [hHE2, decide_eq_false hp]; rfl)
    have HM := Lib.hid (fun w => Meet_err a b m c d k w (by rw [hME2]; exact hp))
    have HME := Lib.hid hME2
    have HD := Lib.hid (fun w => DaysOf_err a b m w hp)
    have HC := Lib.hid (fun w => Count_err a b m w hp)
    have HP := Lib.hid hp
    have hz1 : (perErr a b m != 0) = true := by simpa using hp
    clear hp hME hHE hME2 hHE2
    go_enter Tryz.func5, Tryz.ntmps5
    go_wp2_with fail
    rw [HW.out]
    refine (awake_true _ (reads_below HL.out hb0)).mono ?_
    rintro e w1 ⟨rfl, hb⟩
    replace c0 := b_old hb c0; replace c1 := b_old hb c1; replace c2 := b_old hb c2
    replace d0 := b_old hb d0; replace d1 := b_old hb d1; replace d2 := b_old hb d2
    have hb1 := b_then hb0 hb
    clear hb hb0
    go_wp2_with fail
    refine (qCheckPeriod_any _ _ _ _).mono ?_
    rintro e w2 ⟨rfl, hb⟩
    replace c0 := b_old hb c0; replace c1 := b_old hb c1; replace c2 := b_old hb c2
    replace d0 := b_old hb d0; replace d1 := b_old hb d1; replace d2 := b_old hb d2
    have hb2 := b_then hb1 hb
    clear hb hb1
    go_wp2_with fail
    refine (CheckPeriod_any _ _ _ _).mono ?_
    rintro e w3 ⟨rfl, hb⟩
    replace c0 := b_old hb c0; replace c1 := b_old hb c1; replace c2 := b_old hb c2
    replace d0 := b_old hb d0; replace d1 := b_old hb d1; replace d2 := b_old hb d2
    have hb3 := b_then hb2 hb
    clear hb hb2
    go_wp2_with fail
    refine (Has_any _ _ _ _ _).mono ?_
    rintro e w4 ⟨rfl, hb⟩
    rw [RH.out]
    replace c0 := b_old hb c0; replace c1 := b_old hb c1; replace c2 := b_old hb c2
    replace d0 := b_old hb d0; replace d1 := b_old hb d1; replace d2 := b_old hb d2
    have hb4 := b_then hb3 hb
    clear hb hb3
    go_wp2_with fail
    refine (HD.out _).mono ?_
    rintro e w5 ⟨rfl, hb⟩
    replace c0 := b_old hb c0; replace c1 := b_old hb c1; replace c2 := b_old hb c2
    replace d0 := b_old hb d0; replace d1 := b_old hb d1; replace d2 := b_old hb d2
    have hb5 := b_then hb4 hb
    clear hb hb4
    go_wp2_with fail
    refine (HC.out _).mono ?_
    rintro e w6 ⟨rfl, hb⟩
    replace c0 := b_old hb c0; replace c1 := b_old hb c1; replace c2 := b_old hb c2
    replace d0 := b_old hb d0; replace d1 := b_old hb d1; replace d2 := b_old hb d2
    have hb6 := b_then hb5 hb
    clear hb hb5
    go_wp2_with fail
    refine (HM.out _).mono ?_
    rintro e w7 ⟨rfl, hb⟩
    rw [HME.out]
    have hb7 := b_then hb6 hb
    clear hb hb6 c0 c1 c2 d0 d1 d2
    go_wp2_with fail
    refine (list_bad _ _ HP.out).mono ?_
    rintro e w8 ⟨rfl, hw⟩
    rw [hw]
    clear hw
    go_wp2_with fail
    refine (number_bad _ _ _ HP.out).mono ?_
    rintro e w8 ⟨rfl, hw⟩
    rw [hw]
    clear hw
    go_wp2_with fail
    refine (list_bad _ _ HP.out).mono ?_
    rintro e w8 ⟨rfl, hw⟩
    rw [hw]
    clear hw
    go_wp2_with fail
    go_ret
    exact ⟨rfl, hb7⟩
end Go.Proofs.YtijnabgehlkghaaGreatDoor
