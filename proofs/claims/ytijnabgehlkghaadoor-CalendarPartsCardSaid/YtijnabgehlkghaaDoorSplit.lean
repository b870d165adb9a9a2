/- Contracts of package calendar: Split. -/
import Derived.Test.YtijnabgehlkghaaDoorParts3
namespace Go.Proofs.YtijnabgehlkghaaDoor
open Go Go.RowKit
def inSplit (a b day : Int) : Bool := decide (a < day) && decide (day ≤ b)
def splitErr (a b m day : Int) : Int := fst [perErr a b m, unl (inSplit a b day) 30]
def zero6 : Value := .agg #[.int .i64 0, .int .i64 0, .int .i64 0, .int .i64 0, .int .i64 0, .int .i64 0]
theorem per6 (w : World) (a b m : Int) : ∃ W, Hid ((w.alloc (.cells #[.int .i64 a, .int .i64 b, .int .i64 m] 23)).alloc (.cells #[.int .i64 0, .int .i64 0, .int .i64 0, .int .i64 0, .int .i64 0, .int .i64 0] 25) = W) ∧ Below w.heap.size w W ∧
      W.cell? ⟨w.heap.size, 0, none⟩ = some (.int .i64 a) ∧ W.cell? ⟨w.heap.size, 1, none⟩ = some (.int .i64 b) ∧ W.cell? ⟨w.heap.size, 2, none⟩ = some (.int .i64 m) ∧ Res 6 (w.heap.size + 1) W W ∧ w.heap.size + 2 ≤ W.heap.size :=
    ⟨_, Lib.hid rfl, below_alloc2 w _ _, by simp, by simp, by simp, ⟨fun i hi => by
        match i, hi with
        | 0, _ => exact ⟨.int .i64 0, by simp⟩
        | 1, _ => exact ⟨.int .i64 0, by simp⟩
        | 2, _ => exact ⟨.int .i64 0, by simp⟩
        | 3, _ => exact ⟨.int .i64 0, by simp⟩
        | 4, _ => exact ⟨.int .i64 0, by simp⟩
        | 5, _ => exact ⟨.int .i64 0, by simp⟩, fun i hi => by
        match i, hi with
        | 0, _ => simp
        | 1, _ => simp
        | 2, _ => simp
        | 3, _ => simp
        | 4, _ => simp
        | 5, _ => simp, Below.refl _ _⟩, by simp⟩
theorem perErr_zero {a b m : Int} (h : perErr a b m = 0) : 0 ≤ a ∧ a ≤ b ∧ b ≤ 99999 ∧ b - a ≤ 400 ∧ 1 ≤ m ∧ m ≤ 127 := by
  rw [perErr_eq a b m] at h
  by_cases h1 : 0 ≤ a ∧ a ≤ 99999
  · rw [if_neg (by simpa using h1)] at h
    by_cases h2 : 0 ≤ b ∧ b ≤ 99999
    · rw [if_neg (by simpa using h2)] at h
      by_cases h3 : b < a
      · rw [if_pos h3] at h; omega
      · rw [if_neg h3] at h
        by_cases h4 : 400 < b - a
        · rw [if_pos h4] at h; omega
        · rw [if_neg h4] at h
          have := rng_zero h
          omega
    · rw [if_pos h2] at h; omega
  · rw [if_pos h1] at h; omega
set_option maxRecDepth 100000 in
set_option maxHeartbeats 2000000 in
theorem Split_err (a b m day : Int) (w : World) (he : splitErr a b m day ≠ 0) :
    Calls Tryd.prog 14 #[.agg #[.int .i64 a, .int .i64 b, .int .i64 m], .int .i64 day] w fun r w' => r = .returned (.tuple #[zero6, .int .i64 (splitErr a b m day)]) ∧ Below w.heap.size w w' := by
  have HE : Hid ((splitErr a b m day != 0) = true) := Lib.hid (by rw [bne_iff_ne]; exact he)
  have HD : Hid (splitErr a b m day = fst [perErr a b m, unl (inSplit a b day) 30]) := Lib.hid rfl
  clear he
  obtain ⟨W, HW, hb0, hc0, hc1, hc2, R0, hsz⟩ := per6 w a b m
  go_enter Tryd.func14, Tryd.ntmps14
  go_wp2_with fail
  rw [HW.out]
  have k0 : ∀ x : KeptW W, x.v.cell? ⟨w.heap.size, 0, none⟩ = some (.int .i64 a) := fun x => x.cell hc0
  have k1 : ∀ x : KeptW W, x.v.cell? ⟨w.heap.size, 1, none⟩ = some (.int .i64 b) := fun x => x.cell hc1
  have k2 : ∀ x : KeptW W, x.v.cell? ⟨w.heap.size, 2, none⟩ = some (.int .i64 m) := fun x => x.cell hc2
  have hne : Nonempty (KeptW W) := ⟨⟨W, Below.refl _ _⟩⟩
  refine tail_kept 13 (by kernel_rfl) (by kernel_rfl) ?_
  simp only [List.take_succ_cons, List.take_zero, List.drop_succ_cons, List.drop_zero]
  have hcase : (a < day ∧ Hid (inSplit a b day = decide (day ≤ b))) ∨ (decide (a < day) = false ∧ Hid (inSplit a b day = false)) := by
    by_cases h : a < day
    · exact .inl ⟨h, Lib.hid (by unfold inSplit; rw [decide_eq_true h]; rfl)⟩
    · exact .inr ⟨decide_eq_false h, Lib.hid (by unfold inSplit; rw [decide_eq_false h]; rfl)⟩
  rcases hcase with ⟨hlt, HI⟩ | ⟨hlt, HI⟩
  all_goals
    go_big_quiet_step (fail)
    go_big_quiet_step (exact KeptW.calls (CheckPeriod_any _ _ _ _))
    iterate 10 (go_big_quiet_step (fail))
    go_big_quiet_step (exact KeptW.calls_same (unless_any _ _ _))
    refine wpQuiet_nil ?_
    rintro _ ⟨x, rfl⟩
    have R1 := R0.more (by omega) x.below
    clear k0 k1 k2 hlt
    go_wp2_with fail
    refine (fe_new [_, _] _ _ _ _ _ rfl rfl (by simp)).mono ?_
    rintro e w2 ⟨rfl, hw⟩
    have hb2 : Below x.v.heap.size x.v w2 := by rw [hw]; exact below_alloc _ _
    have R2 := R1.more (R1.pos (by decide)) hb2
    rw [← HI.out, ← HD.out]
    have hee := HE.out
    generalize hE : splitErr a b m day = E at *
    have HEq := Lib.hid hE
    clear hE
    clear hw hb2 R1 HI HD HE
    obtain ⟨v0, q0⟩ := R2.cell 0 (by decide)
    obtain ⟨v1, q1⟩ := R2.cell 1 (by decide)
    obtain ⟨v2, q2⟩ := R2.cell 2 (by decide)
    obtain ⟨v3, q3⟩ := R2.cell 3 (by decide)
    obtain ⟨v4, q4⟩ := R2.cell 4 (by decide)
    obtain ⟨v5, q5⟩ := R2.cell 5 (by decide)
    have qf0 := R2.frozen 0 (by decide)
    have qf1 := R2.frozen 1 (by decide)
    have qf2 := R2.frozen 2 (by decide)
    have qf3 := R2.frozen 3 (by decide)
    have qf4 := R2.frozen 4 (by decide)
    have qf5 := R2.frozen 5 (by decide)
    go_wp2_with fail
    exact bodyPost_ret (v := .tuple #[zero6, .int .i64 E]) (by simp [results, Tryd.results14, go_sem, q0, q1, q2, q3, q4, q5, zero6]) rfl ⟨by rw [HEq.out], hb0.trans (((((((R2.set 0 _).set 1 _).set 2 _).set 3 _).set 4 _).set 5 _).below.mono (by omega))⟩
end Go.Proofs.YtijnabgehlkghaaDoor
