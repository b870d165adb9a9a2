/- The walk of CalendarDates. -/
import Derived.Test.YtijnabgehlkghaaGreatDoorAwake
import Derived.Test.YtijnabgehlkghaaGreatDoorNum
import Derived.Test.YtijnabgehlkghaaGreatDoorRef2
namespace Go.Proofs.YtijnabgehlkghaaGreatDoor
open Go Go.RowKit
attribute [local go_sem] run_eqIn_arr3
theorem fst_rng {l : List Int} (h : ∀ x ∈ l, x = 0 ∨ x = 3) : fst l = 0 ∨ fst l = 3 := by
  induction l with
  | nil => exact .inl rfl
  | cons x r ih =>
    by_cases e : x = 0
    · have : fst (x :: r) = fst r := by simp [fst, e]
      rw [this]; exact ih (fun y hy => h y (.tail _ hy))
    · have : fst (x :: r) = x := by simp [fst, e]
      rw [this]; exact h x (.head _)
theorem Day_ref {y m d : Int} (h : dayErr y m d = 0) : (2000 ≤ y ∧ y ≤ 2273) ∧ (1 ≤ m ∧ m ≤ 12) ∧ (1 ≤ d ∧ d ≤ 31) := by
  by_cases hin : dayIn y m d = 0
  · exact dayIn_zero hin
  · unfold dayErr at h
    rw [if_pos hin] at h
    exact absurd h hin
theorem qDay_num (y m d : Int) (w : World) (h : dayErr y m d = 0) :
    Calls Tryz.prog 13 #[.int .i64 y, .int .i64 m, .int .i64 d] w fun r w' => r = .returned (.int .i64 (Cal.dn y m.toNat d)) ∧ w' = w := by
  obtain ⟨⟨h1, h2⟩, ⟨h3, h4⟩, h5, h6⟩ := Day_ref h
  obtain ⟨n, rfl⟩ := Int.eq_ofNat_of_zero_le (show 0 ≤ m by omega)
  rw [Int.toNat_natCast]
  exact qDay_any y d n w h1 (by omega) (by omega) (by omega) h5 h6
set_option maxRecDepth 100000 in
set_option maxHeartbeats 8000000 in
theorem Dates_true (a b c day : Int) (w : World) (hl : Ev.Reads lst w) :
    Calls Tryz.prog 3 #[.agg #[.int .i64 a, .int .i64 b, .int .i64 c], .int .i64 day] w (IsTrue w) := by
  have HL := Lib.hid hl
  clear hl
  obtain ⟨W, HW, hb0, c0, c1, c2⟩ : ∃ W, Hid (w.alloc (.cells #[.int .i64 a, .int .i64 b, .int .i64 c] 22) = W) ∧ Below w.heap.size w W ∧ W.cell? ⟨w.heap.size, 0, none⟩ = some (.int .i64 a) ∧ W.cell? ⟨w.heap.size, 1, none⟩ = some (.int .i64 b) ∧ W.cell? ⟨w.heap.size, 2, none⟩ = some (.int .i64 c) :=
    ⟨_, Lib.hid rfl, below_alloc w _, by simp, by simp, by simp⟩
  go_enter Tryz.func3, Tryz.ntmps3
  go_wp2_with fail
  rw [HW.out]
  refine (awake_true _ (reads_below HL.out hb0)).mono ?_
  rintro e w1 ⟨rfl, hb⟩
  replace c0 := b_old hb c0; replace c1 := b_old hb c1; replace c2 := b_old hb c2
  have hb1 := b_then hb0 hb
  clear hb hb0 HW
  go_wp2_with fail
  refine (Day_any _ _ _ _ (reads_tab (reads_below HL.out hb1))).mono ?_
  rintro e w2 ⟨rfl, hb⟩
  replace c0 := b_old hb c0; replace c1 := b_old hb c1; replace c2 := b_old hb c2
  have hb2 := b_then hb1 hb
  clear hb hb1
  have hcase : (dayErr a b c ≠ 0 ∧ num2 (dayErr a b c) (Cal.dn a b.toNat c) = .tuple #[.int .i64 0, .int .i64 (dayErr a b c)]) ∨ (dayErr a b c = 0 ∧ num2 (dayErr a b c) (Cal.dn a b.toNat c) = .tuple #[.int .i64 (Cal.dn a b.toNat c), .int .i64 0]) := by
    by_cases h : dayErr a b c = 0
    · exact .inr ⟨h, by rw [h]; rfl⟩
    · exact .inl ⟨h, num2_bad _ h⟩
  rcases hcase with ⟨he, hn⟩ | ⟨he, hn⟩
  all_goals
    rw [hn]
    clear hn
    have HE := Lib.hid he
    first
      | (have hb1 : (dayErr a b c != 0) = true := by simpa using he
         have hb2' : (dayErr a b c == 0) = false := by simpa using he
         clear he
         go_wp2_with fail
         refine (qCheckDate_any _ _ _ _).mono ?_
         rintro e w3 ⟨rfl, hw⟩
         rw [hw]
         clear hw
         generalize dayErr a b c = bad at *
         go_wp2_with fail
         refine (number_bad _ _ _ HE.out).mono ?_
         rintro e w3 ⟨rfl, hw⟩
         rw [hw]
         clear hw
         go_wp2_with fail)
      | (clear he
         go_wp2_with fail
         refine (qCheckDate_any _ _ _ _).mono ?_
         rintro e w3 ⟨rfl, hw⟩
         rw [hw, HE.out]
         clear hw
         go_wp2_with fail
         refine (qDay_num _ _ _ _ HE.out).mono ?_
         rintro e w3 ⟨rfl, hw⟩
         rw [hw]
         clear hw
         go_wp2_with fail
         refine (number_ok _ _).mono ?_
         rintro e w3 ⟨rfl, hw⟩
         rw [hw]
         clear hw
         go_wp2_with fail)
    clear HE
  all_goals
    by_cases hd : 0 ≤ day ∧ day ≤ 99999
    · obtain ⟨y, m, t, hdt⟩ := date_ex day hd.1 hd.2
      have RD : Hid (rng day 0 99999 = 0) := Lib.hid (rng_ok hd.1 hd.2)
      have HD := Lib.hid hdt
      refine (Date_ok day y t m _ (reads_tab (reads_below HL.out hb2)) hd.1 hd.2 hdt).mono ?_
      rintro e w3 ⟨rfl, hb⟩
      have hb3 := b_then hb2 hb
      clear hb hb2 c0 c1 c2 hdt
      obtain ⟨W3, HW3, hbW, r0, r1, r2⟩ : ∃ W3, Hid (w3.alloc (.cells #[.int .i64 y, .int .i64 m, .int .i64 t] 22) = W3) ∧ Below w3.heap.size w3 W3 ∧
          W3.cell? ⟨w3.heap.size, 0, none⟩ = some (.int .i64 y) ∧ W3.cell? ⟨w3.heap.size, 1, none⟩ = some (.int .i64 m) ∧ W3.cell? ⟨w3.heap.size, 2, none⟩ = some (.int .i64 t) :=
        ⟨_, Lib.hid rfl, below_alloc _ _, by simp, by simp, by simp⟩
      replace hb3 := b_then hb3 hbW
      clear hbW
      go_wp2_with fail
      rw [HW3.out]
      clear HW3
      refine (Weekday_any _ _).mono ?_
      rintro e w4 ⟨rfl, hw⟩
      rw [hw, RD.out, num2_ok]
      clear hw
      go_wp2_with fail
      refine (PrintDate_ok day y t m _ (reads_tab (reads_below HL.out hb3)) (reads_pow (reads_below HL.out hb3)) hd.1 hd.2 HD.out).mono ?_
      rintro e w5 ⟨rfl, hb⟩
      replace r0 := b_old hb r0; replace r1 := b_old hb r1; replace r2 := b_old hb r2
      have hb5 := b_then hb3 hb
      clear hb hb3
      go_wp2_with fail
      refine (qCheckDay_any _ _).mono ?_
      rintro e w6 ⟨rfl, hw⟩
      rw [hw, RD.out]
      clear hw
      go_wp2_with fail
      have k0 : ∀ x : KeptW w5, x.v.cell? ⟨w3.heap.size, 0, none⟩ = some (.int .i64 y) := fun x => x.cell r0
      have k1 : ∀ x : KeptW w5, x.v.cell? ⟨w3.heap.size, 1, none⟩ = some (.int .i64 m) := fun x => x.cell r1
      have k2 : ∀ x : KeptW w5, x.v.cell? ⟨w3.heap.size, 2, none⟩ = some (.int .i64 t) := fun x => x.cell r2
      have hne : Nonempty (KeptW w5) := ⟨⟨w5, Below.refl _ _⟩⟩
      refine region_kept (by kernel_rfl) (by kernel_rfl) ?_
      iterate 5 (go_big_quiet_step (fail))
      go_big_quiet_step (exact KeptW.calls (qDate_any day y t m _ hd.1 hd.2 HD.out))
      iterate 6 (go_big_quiet_step (fail))
      go_big_quiet_step (exact KeptW.calls_same (qWeekday_any _ _ hd.1 (by omega)))
      go_big_quiet_step (exact KeptW.calls_same (number_ok _ _))
      iterate 5 (go_big_quiet_step (fail))
      go_big_quiet_step (exact KeptW.calls (qPrintDate_any day y t m _ hd.1 hd.2 HD.out))
      go_big_quiet_step (exact KeptW.calls_same (text_ok _ _))
      iterate 2 (go_big_quiet_step (fail))
      refine wpQuiet_nil ?_
      rintro _ ⟨x, rfl⟩
      have hbx := b_then hb5 x.below
      clear k0 k1 k2
      go_wp2_with fail
      go_ret
      exact ⟨rfl, hbx⟩
    · have RD : Hid (rng day 0 99999 = 3) := Lib.hid (rng_bad hd)
      have HN := Lib.hid hd
      clear hd
      refine (Date_bad day _ HN.out).mono ?_
      rintro e w3 ⟨rfl, hb⟩
      have hb3 := b_then hb2 hb
      clear hb hb2 c0 c1 c2
      obtain ⟨W3, HW3, hbW, r0, r1, r2⟩ : ∃ W3, Hid (w3.alloc (.cells #[.int .i64 0, .int .i64 0, .int .i64 0] 22) = W3) ∧ Below w3.heap.size w3 W3 ∧
          W3.cell? ⟨w3.heap.size, 0, none⟩ = some (.int .i64 0) ∧ W3.cell? ⟨w3.heap.size, 1, none⟩ = some (.int .i64 0) ∧ W3.cell? ⟨w3.heap.size, 2, none⟩ = some (.int .i64 0) :=
        ⟨_, Lib.hid rfl, below_alloc _ _, by simp, by simp, by simp⟩
      replace hb3 := b_then hb3 hbW
      clear hbW
      go_wp2_with fail
      rw [HW3.out]
      clear HW3
      refine (Weekday_any _ _).mono ?_
      rintro e w4 ⟨rfl, hw⟩
      rw [hw, RD.out, num2_bad _ (by decide)]
      clear hw
      go_wp2_with fail
      refine (PrintDate_bad day _ HN.out).mono ?_
      rintro e w5 ⟨rfl, hw⟩
      rw [hw]
      clear hw
      go_wp2_with fail
      refine (qCheckDay_any _ _).mono ?_
      rintro e w6 ⟨rfl, hw⟩
      rw [hw, RD.out]
      clear hw
      go_wp2_with fail
      refine (number_bad _ _ _ (by decide)).mono ?_
      rintro e w6 ⟨rfl, hw⟩
      rw [hw]
      clear hw
      go_wp2_with fail
      refine (text_bad _ _ _ (by decide)).mono ?_
      rintro e w6 ⟨rfl, hw⟩
      rw [hw]
      clear hw
      go_wp2_with fail
      go_ret
      exact ⟨rfl, hb3⟩
end Go.Proofs.YtijnabgehlkghaaGreatDoor
