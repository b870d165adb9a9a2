/- Contracts: Summer's error side, the reference's CheckSummer. -/
import Derived.Test.YtijnabgehlkghaaGreatDoorSummer
import Derived.Test.YtijnabgehlkghaaGreatDoorYears0
namespace Go.Proofs.YtijnabgehlkghaaGreatDoor
open Go Go.RowKit
def sumErr (o y z : Int) : Int := fst [rng o (-720) 780, rng y 2000 2272, rng z 2000 2272, unl (decide (y ≤ z)) 11, unl (decide (z - y < 32)) 5]
theorem sumErr_zero {o y z : Int} (h : sumErr o y z = 0) : (-720 ≤ o ∧ o ≤ 780) ∧ (2000 ≤ y ∧ y ≤ 2272) ∧ (2000 ≤ z ∧ z ≤ 2272) ∧ y ≤ z ∧ z - y < 32 := by
  unfold sumErr at h
  obtain ⟨h1, h⟩ := fst_cons_zero h
  obtain ⟨h2, h⟩ := fst_cons_zero h
  obtain ⟨h3, h⟩ := fst_cons_zero h
  obtain ⟨h4, h⟩ := fst_cons_zero h
  obtain ⟨h5, _⟩ := fst_cons_zero h
  refine ⟨rng_zero h1, rng_zero h2, rng_zero h3, ?_, ?_⟩
  · by_cases e : y ≤ z
    · exact e
    · rw [decide_eq_false e] at h4; exact absurd h4 (by decide)
  · by_cases e : z - y < 32
    · exact e
    · rw [decide_eq_false e] at h5; exact absurd h5 (by decide)
theorem sumErr_last (o y z : Int) (b : Bool) (h : 2000 ≤ y → y ≤ 2272 → 2000 ≤ z → z ≤ 2272 → b = decide (z - y < 32)) :
    fst [rng o (-720) 780, rng y 2000 2272, rng z 2000 2272, unl (decide (y ≤ z)) 11, unl b 5] = sumErr o y z := by
  unfold sumErr
  by_cases h1 : 2000 ≤ y ∧ y ≤ 2272
  · by_cases h2 : 2000 ≤ z ∧ z ≤ 2272
    · rw [h h1.1 h1.2 h2.1 h2.2]
    · rw [rng_bad h2]; rfl
  · rw [rng_bad h1]; rfl
set_option maxRecDepth 100000 in
set_option maxHeartbeats 1000000 in
theorem Summer_bad (o y z : Int) (w : World) (h : sumErr o y z ≠ 0) :
    Calls Tryz.prog 62 #[.int .i64 o, .int .i64 y, .int .i64 z] w fun r w' => r = .returned (.tuple #[.agg #[.int .i64 0, .slice none 0 0], .int .i64 (sumErr o y z)]) ∧ Below w.heap.size w w' := by
  obtain ⟨W, HW, hb0, R0, hsz⟩ : ∃ W, Hid (w.alloc (.cells #[.int .i64 0, .slice none 0 0] 79) = W) ∧ Below w.heap.size w W ∧ Res 2 w.heap.size W W ∧ w.heap.size + 1 ≤ W.heap.size :=
    ⟨_, Lib.hid rfl, below_alloc w _, ⟨fun i hi => by
        match i, hi with
        | 0, _ => exact ⟨.int .i64 0, by simp⟩
        | 1, _ => exact ⟨.slice none 0 0, by simp⟩, fun i hi => by
        match i, hi with
        | 0, _ => simp
        | 1, _ => simp, Below.refl _ _⟩, by simp⟩
  obtain ⟨b, hb, HL⟩ : ∃ b, Hid (b = decide (wrap64 (z - y) < 32)) ∧ Hid (fst [rng o (-720) 780, rng y 2000 2272, rng z 2000 2272, unl (decide (y ≤ z)) 11, unl b 5] = sumErr o y z) :=
    ⟨_, Lib.hid rfl, Lib.hid (sumErr_last o y z _ fun a1 a2 a3 a4 => by rw [IntWalk.wrap64_in _ ⟨by omega, by omega⟩])⟩
  have HE := Lib.hid h; clear h
  go_enter Tryz.func62, Tryz.ntmps62
  go_wp2_with fail
  rw [HW.out]
  refine (checkRange_any _ _ _ _).mono ?_
  rintro e w1 ⟨rfl, hw⟩
  rw [hw]
  clear hw
  go_wp2_with fail
  refine (checkRange_any _ _ _ _).mono ?_
  rintro e w1 ⟨rfl, hw⟩
  rw [hw]
  clear hw
  go_wp2_with fail
  refine (checkRange_any _ _ _ _).mono ?_
  rintro e w1 ⟨rfl, hw⟩
  rw [hw]
  clear hw
  go_wp2_with fail
  refine (unless_any _ _ _).mono ?_
  rintro e w1 ⟨rfl, hw⟩
  rw [hw]
  clear hw
  go_wp2_with fail
  refine (unless_any _ _ _).mono ?_
  rintro e w1 ⟨rfl, hw⟩
  rw [hw]
  clear hw
  rw [← hb.out]
  generalize rng o (-720) 780 = e1 at *
  generalize rng y 2000 2272 = e2 at *
  generalize rng z 2000 2272 = e3 at *
  generalize unl (decide (y ≤ z)) 11 = e4 at *
  generalize unl b 5 = e5 at *
  go_wp2_with fail
  refine (fe_new [_, _, _, _, _] _ _ _ _ _ rfl rfl (by simp)).mono ?_
  rintro e w2 ⟨rfl, hw⟩
  have hb2 : Below W.heap.size W w2 := by rw [hw]; exact below_alloc _ _
  have R2 := R0.more (by omega) hb2
  rw [HL.out]
  clear hw hb2 hsz R0
  obtain ⟨x0, y0⟩ := R2.cell 0 (by decide)
  obtain ⟨x1, y1⟩ := R2.cell 1 (by decide)
  have z0 := R2.frozen 0 (by decide)
  have z1 := R2.frozen 1 (by decide)
  have hne : (sumErr o y z != 0) = true := by simpa using HE.out
  generalize herr : sumErr o y z = err at *
  have HERR := Lib.hid herr
  clear herr
  have hbf : Below w.heap.size w _ := hb0.trans ((R2.set 0 (.int .i64 0)).set 1 (.slice none 0 0)).below
  go_wp2_with fail
  exact bodyPost_ret (v := .tuple #[.agg #[.int .i64 0, .slice none 0 0], .int .i64 err]) (by simp [results, Tryz.results62, go_sem, y0, y1]) rfl ⟨by rw [HERR.out], hbf⟩
theorem qCheckSummer_any (o y z : Int) (w : World) :
    Calls Tryz.prog 63 #[.int .i64 o, .int .i64 y, .int .i64 z] w fun r w' => r = .returned (.int .i64 (sumErr o y z)) ∧ w' = w := by
  by_cases h1 : -720 ≤ o ∧ o ≤ 780
  · have R1 : Hid (rng o (-720) 780 = 0) := Lib.hid (rng_ok h1.1 h1.2)
    by_cases h2 : 2000 ≤ y ∧ y ≤ 2272
    · have R2 : Hid (rng y 2000 2272 = 0) := Lib.hid (rng_ok h2.1 h2.2)
      by_cases h3 : 2000 ≤ z ∧ z ≤ 2272
      · have R3 : Hid (rng z 2000 2272 = 0) := Lib.hid (rng_ok h3.1 h3.2)
        have HR : Hid (sumErr o y z = fst [unl (decide (y ≤ z)) 11, unl (decide (z - y < 32)) 5]) := Lib.hid (by unfold sumErr; rw [R1.out, R2.out, R3.out]; rfl)
        by_cases h4 : y ≤ z
        · by_cases h5 : z - y < 32
          · have HS : Hid (sumErr o y z = 0) := Lib.hid (by rw [HR.out, decide_eq_true h4, decide_eq_true h5]; rfl)
            clear HR
            go_enter Tryz.func63, Tryz.ntmps63
            go_wp2_with (go_at_call 27; refine (qRange_any _ _ _ _).mono ?_; rintro e w' ⟨rfl, rfl⟩; first | rw [R1.out] | rw [R2.out] | rw [R3.out])
            go_ret
            exact ⟨by rw [HS.out]; rfl, rfl⟩
          · have HS : Hid (sumErr o y z = 5) := Lib.hid (by rw [HR.out, decide_eq_true h4, decide_eq_false h5]; rfl)
            clear HR
            go_enter Tryz.func63, Tryz.ntmps63
            go_wp2_with (go_at_call 27; refine (qRange_any _ _ _ _).mono ?_; rintro e w' ⟨rfl, rfl⟩; first | rw [R1.out] | rw [R2.out] | rw [R3.out])
            go_ret
            exact ⟨by rw [HS.out]; rfl, rfl⟩
        · have HS : Hid (sumErr o y z = 11) := Lib.hid (by rw [HR.out, decide_eq_false h4]; rfl)
          clear HR
          go_enter Tryz.func63, Tryz.ntmps63
          go_wp2_with (go_at_call 27; refine (qRange_any _ _ _ _).mono ?_; rintro e w' ⟨rfl, rfl⟩; first | rw [R1.out] | rw [R2.out] | rw [R3.out])
          go_ret
          exact ⟨by rw [HS.out]; rfl, rfl⟩
      · have R3 : Hid (rng z 2000 2272 = 3) := Lib.hid (rng_bad h3)
        have HS : Hid (sumErr o y z = 3) := Lib.hid (by unfold sumErr; rw [R1.out, R2.out, R3.out]; rfl)
        go_enter Tryz.func63, Tryz.ntmps63
        go_wp2_with (go_at_call 27; refine (qRange_any _ _ _ _).mono ?_; rintro e w' ⟨rfl, rfl⟩; first | rw [R1.out] | rw [R2.out] | rw [R3.out])
        go_ret
        exact ⟨by rw [HS.out]; rfl, rfl⟩
    · have R2 : Hid (rng y 2000 2272 = 3) := Lib.hid (rng_bad h2)
      have HS : Hid (sumErr o y z = 3) := Lib.hid (by unfold sumErr; rw [R1.out, R2.out]; rfl)
      go_enter Tryz.func63, Tryz.ntmps63
      go_wp2_with (go_at_call 27; refine (qRange_any _ _ _ _).mono ?_; rintro e w' ⟨rfl, rfl⟩; first | rw [R1.out] | rw [R2.out])
      go_ret
      exact ⟨by rw [HS.out]; rfl, rfl⟩
  · have R1 : Hid (rng o (-720) 780 = 3) := Lib.hid (rng_bad h1)
    have HS : Hid (sumErr o y z = 3) := Lib.hid (by unfold sumErr; rw [R1.out]; rfl)
    go_enter Tryz.func63, Tryz.ntmps63
    go_wp2_with (go_at_call 27; refine (qRange_any _ _ _ _).mono ?_; rintro e w' ⟨rfl, rfl⟩; rw [R1.out])
    go_ret
    exact ⟨by rw [HS.out]; rfl, rfl⟩
end Go.Proofs.YtijnabgehlkghaaGreatDoor
