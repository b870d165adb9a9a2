/- The walk of CalendarTurns. -/
import Derived.Test.YtijnabgehlkghaaDoorAwake
import Derived.Test.YtijnabgehlkghaaDoorTurnTxt
import Derived.Test.YtijnabgehlkghaaDoorArr3
namespace Go.Proofs.YtijnabgehlkghaaDoor
open Go Go.RowKit
attribute [local go_sem] run_eqIn_arr3
theorem wd_next (d : Int) : Cal.wd (d + 1) = (Cal.wd d + 1) % 7 := by unfold Cal.wd; omega
set_option maxRecDepth 100000 in
set_option maxHeartbeats 4000000 in
theorem Turns_true (d : Int) (w : World) (hl : Ev.Reads lst w) :
    Calls Tryd.prog 5 #[.int .i64 d] w (IsTrue w) := by
  have HL := Lib.hid hl
  clear hl
  by_cases hd : 0 ≤ d ∧ d ≤ 99999
  · obtain ⟨y, m, t, hdt⟩ := date_ex d hd.1 hd.2
    have RD : Hid (rng d 0 99999 = 0) := Lib.hid (rng_ok hd.1 hd.2)
    have HDD := Lib.hid (day_date hdt hd.2)
    have HBK := Lib.hid (back_date hdt hd.2)
    have HZ := Lib.hid (zeller hdt)
    have HWB := Lib.hid (Cal.wd_bd d)
    have HD := Lib.hid hdt
    have y1 := hdt.y1; have y2 := hdt.y2
    have m1 : (1 : Int) ≤ m := by have := hdt.m1; omega
    have m2 : (m : Int) ≤ 12 := by have := hdt.m2; omega
    have t1 := (date_t hdt).1; have t2 := (date_t hdt).2
    clear hdt
    go_enter Tryd.func5, Tryd.ntmps5
    go_wp2_with fail
    refine (awake_true _ HL.out).mono ?_
    rintro e w1 ⟨rfl, hb1⟩
    go_wp2_with fail
    refine (qCheckDay_any _ _).mono ?_
    rintro e w2 ⟨rfl, hw⟩
    rw [hw, RD.out]
    clear hw
    go_wp2_with fail
    refine (Date_ok d y t m _ (reads_tab (reads_below HL.out hb1)) hd.1 hd.2 HD.out).mono ?_
    rintro e w3 ⟨rfl, hb3⟩
    have hb13 := b_then hb1 hb3
    clear hb1 hb3
    go_wp2_with fail
    obtain ⟨W, hW, hbW, c0, c1, c2⟩ : ∃ W, w3.alloc (.cells #[.int .i64 y, .int .i64 m, .int .i64 t] 45) = W ∧ Below w.heap.size w W ∧ W.cell? ⟨w3.heap.size, 0, none⟩ = some (.int .i64 y) ∧ W.cell? ⟨w3.heap.size, 1, none⟩ = some (.int .i64 m) ∧ W.cell? ⟨w3.heap.size, 2, none⟩ = some (.int .i64 t) :=
      ⟨_, rfl, b_then hb13 (below_alloc _ _), by simp, by simp, by simp⟩
    rw [hW]
    clear hW hb13
    refine (Day_any _ _ _ _ (reads_tab (reads_below HL.out hbW))).mono ?_
    rintro e w4 ⟨rfl, hb4⟩
    rw [HDD.out.1, HDD.out.2, num2_ok]
    have c0' := b_old hb4 c0; have c1' := b_old hb4 c1; have c2' := b_old hb4 c2
    have hb14 := b_then hbW hb4
    clear hb4 c0 c1 c2 hbW
    go_wp2_with fail
    refine (PrintDate_ok d y t m _ (reads_tab (reads_below HL.out hb14)) (reads_pow (reads_below HL.out hb14)) hd.1 hd.2 HD.out).mono ?_
    rintro e w5 ⟨rfl, hb5⟩
    have c0 := b_old hb5 c0'; have c1 := b_old hb5 c1'; have c2 := b_old hb5 c2'
    have hb15 := b_then hb14 hb5
    clear hb5 c0' c1' c2' hb14
    go_wp2_with fail
    refine (ParseDate_txt _ _ (reads_tab (reads_below HL.out hb15)) HBK.out.1).mono ?_
    rintro e w6 ⟨rfl, hb6⟩
    rw [HBK.out.2, num2_ok]
    have c0' := b_old hb6 c0; have c1' := b_old hb6 c1; have c2' := b_old hb6 c2
    have hb16 := b_then hb15 hb6
    clear hb6 c0 c1 c2 hb15
    go_wp2_with fail
    refine (Weekday_any _ _).mono ?_
    rintro e w7 ⟨rfl, hw⟩
    rw [hw, RD.out, num2_ok]
    clear hw
    have hw1 := HWB.out.1; have hw2 := HWB.out.2
    have hzz := HZ.out
    have HWN : Hid (Cal.wd (d + 1) = (Cal.wd d + 1) % 7) := Lib.hid (wd_next d)
    generalize Cal.wd d = z at *
    clear HWB HZ HBK HDD
    have hcase : ((m : Int) < 3 ∧ (t + 13 * ((m : Int) + 12 + 1) / 5 + (y - 1) + (y - 1) / 4 - (y - 1) / 100 + (y - 1) / 400 + 5) % 7 = z) ∨ (¬ (m : Int) < 3 ∧ (t + 13 * ((m : Int) + 1) / 5 + y + y / 4 - y / 100 + y / 400 + 5) % 7 = z) := by
      by_cases hm3 : (m : Int) < 3
      · rw [zm_lo hm3, zy_lo hm3] at hzz; exact .inl ⟨hm3, hzz⟩
      · rw [zm_hi (by omega), zy_hi (by omega)] at hzz; exact .inr ⟨hm3, hzz⟩
    clear hzz
    rcases hcase with ⟨hm3, hzz⟩ | ⟨hm3, hzz⟩
    all_goals
      by_cases hl9 : d = 99999
      · obtain ⟨e1, e2, e3⟩ := date_uniq HD.out (by rw [hl9]; exact date_last)
        subst e1 e2 e3
        first
          | (exfalso; clear hzz; omega)
          | (go_wp2_with fail
             go_quiet (fail)
             go_wp2_with fail
             go_ret
             exact ⟨rfl, b_drewN hb16 nq⟩)
      · go_wp2_with fail
        go_quiet (fail)
        go_wp2_with fail
        have hd1 : 0 ≤ d + 1 ∧ d + 1 ≤ 99999 := by omega
        obtain ⟨y', m', t', hdt'⟩ := date_ex (d + 1) hd1.1 hd1.2
        have RD1 : Hid (rng (d + 1) 0 99999 = 0) := Lib.hid (rng_ok hd1.1 hd1.2)
        have hnx := date_next HD.out (by omega) hdt'
        have hbq := b_drewN hb16 nq
        refine (Date_ok (d + 1) y' t' m' _ (reads_tab (reads_below HL.out hbq)) hd1.1 hd1.2 hdt').mono ?_
        rintro e w8 ⟨rfl, hb8⟩
        have hb8' : Below w6.heap.size w6 w8 := (b_drewN (Below.refl _ w6) nq).trans (hb8.mono (Nat.le_refl _))
        have hb18 := b_then hb16 hb8'
        have c0 := b_old hb8' c0'; have c1 := b_old hb8' c1'; have c2 := b_old hb8' c2'
        have y1' := hdt'.y1; have y2' := hdt'.y2
        have m1' : (1 : Int) ≤ m' := by have := hdt'.m1; omega
        have m2' : (m' : Int) ≤ 12 := by have := hdt'.m2; omega
        clear hb8 hb8' c0' c1' c2' hbq hdt' HD hb16 hzz
        go_wp2_with fail
        obtain ⟨W2, hW2, hbW2, k0, k1, k2, c0', c1', c2'⟩ : ∃ W2, w8.alloc (.cells #[.int .i64 y', .int .i64 m', .int .i64 t'] 45) = W2 ∧ Below w.heap.size w W2 ∧ W2.cell? ⟨w8.heap.size, 0, none⟩ = some (.int .i64 y') ∧ W2.cell? ⟨w8.heap.size, 1, none⟩ = some (.int .i64 m') ∧ W2.cell? ⟨w8.heap.size, 2, none⟩ = some (.int .i64 t') ∧
            W2.cell? ⟨w3.heap.size, 0, none⟩ = some (.int .i64 y) ∧ W2.cell? ⟨w3.heap.size, 1, none⟩ = some (.int .i64 m) ∧ W2.cell? ⟨w3.heap.size, 2, none⟩ = some (.int .i64 t) :=
          ⟨_, rfl, b_then hb18 (below_alloc _ _), by simp, by simp, by simp, b_old (below_alloc _ _) c0, b_old (below_alloc _ _) c1, b_old (below_alloc _ _) c2⟩
        rw [hW2]
        clear hW2 hb18 c0 c1 c2
        refine (Weekday_any _ _).mono ?_
        rintro e w9 ⟨rfl, hw⟩
        rw [hw, RD1.out, num2_ok, HWN.out]
        clear hw
        rcases hnx with ⟨q1, e1, e2, e3⟩ | ⟨e3, q2, ⟨e1, e2⟩ | ⟨e1, e2, e4, e5⟩⟩
        · subst e1 e2 e3
          go_wp2_with fail
          go_ret
          exact ⟨rfl, hbW2⟩
        · subst e1 e2 e3
          have k1' : W2.cell? ⟨w8.heap.size, 1, none⟩ = some (.int .i64 ((m : Int) + 1)) := by rw [k1]; rfl
          clear k1 m1' m2'
          go_wp2_with fail
          go_ret
          exact ⟨rfl, hbW2⟩
        · subst e1 e2 e3 e4 e5
          first
            | (exfalso; clear hzz; omega)
            | (exfalso; omega)
            | (go_wp2_with fail
               go_ret
               exact ⟨rfl, hbW2⟩)
  · have RD : Hid (rng d 0 99999 = 3) := Lib.hid (rng_bad hd)
    go_enter Tryd.func5, Tryd.ntmps5
    go_wp2_with fail
    refine (awake_true _ HL.out).mono ?_
    rintro e w1 ⟨rfl, hb1⟩
    go_wp2_with fail
    refine (qCheckDay_any _ _).mono ?_
    rintro e w2 ⟨rfl, hw⟩
    rw [hw, RD.out]
    clear hw
    go_wp2_with fail
    refine (awake_true _ (reads_below HL.out hb1)).mono ?_
    rintro e w3 ⟨rfl, hb3⟩
    have hb13 := b_then hb1 hb3
    go_wp2_with fail
    go_ret
    exact ⟨rfl, hb13⟩
end Go.Proofs.YtijnabgehlkghaaDoor
