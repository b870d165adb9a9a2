/- Contracts of package calendar: Split. Contracts of package calendar: Split, where the day lies inside. A region that draws its order, in whose head (its first n operations) one operation makes a block that no other one of the head waits for or touches: it may be taken first. The others are quiet in the worlds that keep what the world at the region's beginning holds, whatever that world is; behind the head the walk goes on in any world that keeps all this, and the block. Contracts of package calendar: Shift. Contracts of package calendar: Shift of a valid period. -/
import Derived.Test.YtoaimgfekbnijaaDoorParts3
import Derived.Test.YtoaimgfekbnijaaDoorKept
import Derived.Test.YtoaimgfekbnijaaDoorArr3
import Derived.Deep.RegionHeld3
namespace Go.Proofs.YtoaimgfekbnijaaDoor
open Go Go.RowKit
def inSplit (a b day : Int) : Bool := decide (a < day) && decide (day ≤ b)
def splitErr (a b m day : Int) : Int := fst [perErr a b m, unl (inSplit a b day) 30]
def zero6 : Value := .agg #[.int .i64 0, .int .i64 0, .int .i64 0, .int .i64 0, .int .i64 0, .int .i64 0]
theorem per6 (w : World) (a b m : Int) : ∃ W, Hid ((w.alloc (.cells #[.int .i64 a, .int .i64 b, .int .i64 m] 23)).alloc (.cells #[.int .i64 0, .int .i64 0, .int .i64 0, .int .i64 0, .int .i64 0, .int .i64 0] 25) = W) ∧ Below w.heap.size w W ∧
      W.cell? ⟨w.heap.size, 0, none⟩ = some (.int .i64 a) ∧ W.cell? ⟨w.heap.size, 1, none⟩ = some (.int .i64 b) ∧ W.cell? ⟨w.heap.size, 2, none⟩ = some (.int .i64 m) ∧ Res 6 (w.heap.size + 1) W W ∧ w.heap.size + 2 ≤ W.heap.size :=
    ⟨_, Lib.hid rfl, below_alloc2 w _ _, by simp, by simp, by simp, ⟨fun i hi => by
        match i, hi with
        | 0, _ => exact ⟨.int .i64 0, by simp⟩
        | 1, _ => exact ⟨.int .i64 0, by simp⟩
        | 2, _ => exact ⟨.int .i64 0, by simp⟩
        | 3, _ => exact ⟨.int .i64 0, by simp⟩
        | 4, _ => exact ⟨.int .i64 0, by simp⟩
        | 5, _ => exact ⟨.int .i64 0, by simp⟩, fun i hi => by
        match i, hi with
        | 0, _ => simp
        | 1, _ => simp
        | 2, _ => simp
        | 3, _ => simp
        | 4, _ => simp
        | 5, _ => simp, Below.refl _ _⟩, by simp⟩
theorem perErr_zero {a b m : Int} (h : perErr a b m = 0) : 0 ≤ a ∧ a ≤ b ∧ b ≤ 99999 ∧ b - a ≤ 400 ∧ 1 ≤ m ∧ m ≤ 127 := by
  rw [perErr_eq a b m] at h
  by_cases h1 : 0 ≤ a ∧ a ≤ 99999
  · rw [if_neg (by simpa using h1)] at h
    by_cases h2 : 0 ≤ b ∧ b ≤ 99999
    · rw [if_neg (by simpa using h2)] at h
      by_cases h3 : b < a
      · rw [if_pos h3] at h; omega
      · rw [if_neg h3] at h
        by_cases h4 : 400 < b - a
        · rw [if_pos h4] at h; omega
        · rw [if_neg h4] at h
          have := rng_zero h
          omega
    · rw [if_pos h2] at h; omega
  · rw [if_pos h1] at h; omega
set_option maxRecDepth 100000 in
set_option maxHeartbeats 2000000 in
theorem Split_err (a b m day : Int) (w : World) (he : splitErr a b m day ≠ 0) :
    Calls Tryd.prog 14 #[.agg #[.int .i64 a, .int .i64 b, .int .i64 m], .int .i64 day] w fun r w' => r = .returned (.tuple #[zero6, .int .i64 (splitErr a b m day)]) ∧ Below w.heap.size w w' := by
  have HE : Hid ((splitErr a b m day != 0) = true) := Lib.hid (by rw [bne_iff_ne]; exact he)
  have HD : Hid (splitErr a b m day = fst [perErr a b m, unl (inSplit a b day) 30]) := Lib.hid rfl
  clear he
  obtain ⟨W, HW, hb0, hc0, hc1, hc2, R0, hsz⟩ := per6 w a b m
  go_enter Tryd.func14, Tryd.ntmps14
  go_wp2_with fail
  rw [HW.out]
  have k0 : ∀ x : KeptW W, x.v.cell? ⟨w.heap.size, 0, none⟩ = some (.int .i64 a) := fun x => x.cell hc0
  have k1 : ∀ x : KeptW W, x.v.cell? ⟨w.heap.size, 1, none⟩ = some (.int .i64 b) := fun x => x.cell hc1
  have k2 : ∀ x : KeptW W, x.v.cell? ⟨w.heap.size, 2, none⟩ = some (.int .i64 m) := fun x => x.cell hc2
  have hne : Nonempty (KeptW W) := ⟨⟨W, Below.refl _ _⟩⟩
  refine tail_kept 13 (by kernel_rfl) (by kernel_rfl) ?_
  simp only [List.take_succ_cons, List.take_zero, List.drop_succ_cons, List.drop_zero]
  have hcase : (a < day ∧ Hid (inSplit a b day = decide (day ≤ b))) ∨ (decide (a < day) = false ∧ Hid (inSplit a b day = false)) := by
    by_cases h : a < day
    · exact .inl ⟨h, Lib.hid (by unfold inSplit; rw [decide_eq_true h]; rfl)⟩
    · exact .inr ⟨decide_eq_false h, Lib.hid (by unfold inSplit; rw [decide_eq_false h]; rfl)⟩
  rcases hcase with ⟨hlt, HI⟩ | ⟨hlt, HI⟩
  all_goals
    go_big_quiet_step (fail)
    go_big_quiet_step (exact KeptW.calls (CheckPeriod_any _ _ _ _))
    iterate 10 (go_big_quiet_step (fail))
    go_big_quiet_step (exact KeptW.calls_same (unless_any _ _ _))
    refine wpQuiet_nil ?_
    rintro _ ⟨x, rfl⟩
    have R1 := R0.more (by omega) x.below
    clear k0 k1 k2 hlt
    go_wp2_with fail
    refine (fe_new [_, _] _ _ _ _ _ rfl rfl (by simp)).mono ?_
    rintro e w2 ⟨rfl, hw⟩
    have hb2 : Below x.v.heap.size x.v w2 := by rw [hw]; exact below_alloc _ _
    have R2 := R1.more (R1.pos (by decide)) hb2
    rw [← HI.out, ← HD.out]
    have hee := HE.out
    generalize hE : splitErr a b m day = E at *
    have HEq := Lib.hid hE
    clear hE
    clear hw hb2 R1 HI HD HE
    obtain ⟨v0, q0⟩ := R2.cell 0 (by decide)
    obtain ⟨v1, q1⟩ := R2.cell 1 (by decide)
    obtain ⟨v2, q2⟩ := R2.cell 2 (by decide)
    obtain ⟨v3, q3⟩ := R2.cell 3 (by decide)
    obtain ⟨v4, q4⟩ := R2.cell 4 (by decide)
    obtain ⟨v5, q5⟩ := R2.cell 5 (by decide)
    have qf0 := R2.frozen 0 (by decide)
    have qf1 := R2.frozen 1 (by decide)
    have qf2 := R2.frozen 2 (by decide)
    have qf3 := R2.frozen 3 (by decide)
    have qf4 := R2.frozen 4 (by decide)
    have qf5 := R2.frozen 5 (by decide)
    go_wp2_with fail
    exact bodyPost_ret (v := .tuple #[zero6, .int .i64 E]) (by simp [results, Tryd.results14, go_sem, q0, q1, q2, q3, q4, q5, zero6]) rfl ⟨by rw [HEq.out], hb0.trans (((((((R2.set 0 _).set 1 _).set 2 _).set 3 _).set 4 _).set 5 _).below.mono (by omega))⟩
end Go.Proofs.YtoaimgfekbnijaaDoor
namespace Go.Proofs.YtoaimgfekbnijaaDoor
open Go Go.RowKit
set_option maxRecDepth 100000 in
set_option maxHeartbeats 2000000 in
theorem Split_ok (a b m day : Int) (w : World) (hz : perErr a b m = 0) (h1 : a < day) (h2 : day ≤ b) (ha : 0 ≤ a) (hb : b ≤ 99999) :
    Calls Tryd.prog 14 #[.agg #[.int .i64 a, .int .i64 b, .int .i64 m], .int .i64 day] w fun r w' => r = .returned (.tuple #[.agg #[.int .i64 a, .int .i64 (day - 1), .int .i64 m, .int .i64 day, .int .i64 b, .int .i64 m], .int .i64 0]) ∧ Below w.heap.size w w' := by
  have HZ := Lib.hid hz
  clear hz
  obtain ⟨W, HW, hb0, hc0, hc1, hc2, R0, hsz⟩ := per6 w a b m
  go_enter Tryd.func14, Tryd.ntmps14
  go_wp2_with fail
  rw [HW.out]
  have k0 : ∀ x : KeptW W, x.v.cell? ⟨w.heap.size, 0, none⟩ = some (.int .i64 a) := fun x => x.cell hc0
  have k1 : ∀ x : KeptW W, x.v.cell? ⟨w.heap.size, 1, none⟩ = some (.int .i64 b) := fun x => x.cell hc1
  have k2 : ∀ x : KeptW W, x.v.cell? ⟨w.heap.size, 2, none⟩ = some (.int .i64 m) := fun x => x.cell hc2
  have hne : Nonempty (KeptW W) := ⟨⟨W, Below.refl _ _⟩⟩
  refine tail_kept 13 (by kernel_rfl) (by kernel_rfl) ?_
  simp only [List.take_succ_cons, List.take_zero, List.drop_succ_cons, List.drop_zero]
  go_big_quiet_step (fail)
  go_big_quiet_step (exact KeptW.calls (CheckPeriod_any _ _ _ _))
  iterate 10 (go_big_quiet_step (fail))
  go_big_quiet_step (exact KeptW.calls_same (unless_any _ _ _))
  refine wpQuiet_nil ?_
  rintro _ ⟨x, rfl⟩
  have R1 := R0.more (by omega) x.below
  have m0 := k0 x; have m1 := k1 x; have m2 := k2 x
  clear k0 k1 k2
  go_wp2_with fail
  refine (fe_new [_, _] _ _ _ _ _ rfl rfl (by simp)).mono ?_
  rintro e w2 ⟨rfl, hw⟩
  have hb2 : Below x.v.heap.size x.v w2 := by rw [hw]; exact below_alloc _ _
  have R2 := R1.more (R1.pos (by decide)) hb2
  have k0 := b_old hb2 m0; have k1 := b_old hb2 m1; have k2 := b_old hb2 m2
  have hszx : w.heap.size + 2 ≤ w2.heap.size := Nat.le_trans hsz (Nat.le_trans x.below.size hb2.size)
  rw [HZ.out]
  have hfst : ∀ c : Bool, c = true → fst [0, unl c 30] = 0 := fun c hc => by rw [hc]; rfl
  first | rw [hfst _ (decide_eq_true h2)] | rw [hfst _ rfl]
  clear hw hb2 R1 m0 m1 m2 hfst
  have y0 : ∀ o, (w2.alloc o).cell? ⟨w.heap.size, 0, none⟩ = some (.int .i64 a) := fun o => b_old (below_alloc w2 o) k0
  have z0 : ∀ o o', ((w2.alloc o).alloc o').cell? ⟨w.heap.size, 0, none⟩ = some (.int .i64 a) := fun o o' => b_old (below_alloc (w2.alloc o) o') (y0 o)
  have y1 : ∀ o, (w2.alloc o).cell? ⟨w.heap.size, 1, none⟩ = some (.int .i64 b) := fun o => b_old (below_alloc w2 o) k1
  have z1 : ∀ o o', ((w2.alloc o).alloc o').cell? ⟨w.heap.size, 1, none⟩ = some (.int .i64 b) := fun o o' => b_old (below_alloc (w2.alloc o) o') (y1 o)
  have y2 : ∀ o, (w2.alloc o).cell? ⟨w.heap.size, 2, none⟩ = some (.int .i64 m) := fun o => b_old (below_alloc w2 o) k2
  have z2 : ∀ o o', ((w2.alloc o).alloc o').cell? ⟨w.heap.size, 2, none⟩ = some (.int .i64 m) := fun o o' => b_old (below_alloc (w2.alloc o) o') (y2 o)
  have hn1 : w.heap.size ≠ w2.heap.size := by omega
  have hn2 : w.heap.size ≠ w2.heap.size + 1 := by omega
  have hn3 : w2.heap.size ≠ w.heap.size := by omega
  have hn4 : w2.heap.size + 1 ≠ w.heap.size := by omega
  go_wp2_with fail
  go_region
  all_goals
    have e00 : (((w2.alloc (.cells #[.int .i64 a, .int .i64 b, .int .i64 m] 23)).alloc (.cells #[.int .i64 a, .int .i64 b, .int .i64 m] 23)).drew).cell? ⟨w2.heap.size, 0, none⟩ = some (.int .i64 a) := by simp
    have e10 : (((w2.alloc (.cells #[.int .i64 a, .int .i64 b, .int .i64 m] 23)).alloc (.cells #[.int .i64 a, .int .i64 b, .int .i64 m] 23)).drew).cell? ⟨w2.heap.size + 1, 0, none⟩ = some (.int .i64 a) := by simp
    have e01 : (((w2.alloc (.cells #[.int .i64 a, .int .i64 b, .int .i64 m] 23)).alloc (.cells #[.int .i64 a, .int .i64 b, .int .i64 m] 23)).drew).cell? ⟨w2.heap.size, 1, none⟩ = some (.int .i64 b) := by simp
    have e11 : (((w2.alloc (.cells #[.int .i64 a, .int .i64 b, .int .i64 m] 23)).alloc (.cells #[.int .i64 a, .int .i64 b, .int .i64 m] 23)).drew).cell? ⟨w2.heap.size + 1, 1, none⟩ = some (.int .i64 b) := by simp
    have e02 : (((w2.alloc (.cells #[.int .i64 a, .int .i64 b, .int .i64 m] 23)).alloc (.cells #[.int .i64 a, .int .i64 b, .int .i64 m] 23)).drew).cell? ⟨w2.heap.size, 2, none⟩ = some (.int .i64 m) := by simp
    have e12 : (((w2.alloc (.cells #[.int .i64 a, .int .i64 b, .int .i64 m] 23)).alloc (.cells #[.int .i64 a, .int .i64 b, .int .i64 m] 23)).drew).cell? ⟨w2.heap.size + 1, 2, none⟩ = some (.int .i64 m) := by simp
    have f00 : (((w2.alloc (.cells #[.int .i64 a, .int .i64 b, .int .i64 m] 23)).alloc (.cells #[.int .i64 a, .int .i64 b, .int .i64 m] 23)).drew).frozen? ⟨w2.heap.size, 0, none⟩ = false := by simp
    have f10 : (((w2.alloc (.cells #[.int .i64 a, .int .i64 b, .int .i64 m] 23)).alloc (.cells #[.int .i64 a, .int .i64 b, .int .i64 m] 23)).drew).frozen? ⟨w2.heap.size + 1, 0, none⟩ = false := by simp
    have f01 : (((w2.alloc (.cells #[.int .i64 a, .int .i64 b, .int .i64 m] 23)).alloc (.cells #[.int .i64 a, .int .i64 b, .int .i64 m] 23)).drew).frozen? ⟨w2.heap.size, 1, none⟩ = false := by simp
    have f11 : (((w2.alloc (.cells #[.int .i64 a, .int .i64 b, .int .i64 m] 23)).alloc (.cells #[.int .i64 a, .int .i64 b, .int .i64 m] 23)).drew).frozen? ⟨w2.heap.size + 1, 1, none⟩ = false := by simp
    have R3 : Res 6 (w.heap.size + 1) W (((w2.alloc (.cells #[.int .i64 a, .int .i64 b, .int .i64 m] 23)).alloc (.cells #[.int .i64 a, .int .i64 b, .int .i64 m] 23)).drew) := R2.more (R2.pos (by decide)) ((below_alloc2 w2 _ _).drew)
    generalize ((w2.alloc (.cells #[.int .i64 a, .int .i64 b, .int .i64 m] 23)).alloc (.cells #[.int .i64 a, .int .i64 b, .int .i64 m] 23)).drew = V at *
    clear y0 z0 k0 y1 z1 k1 y2 z2 k2 R2 hc0 hc1 hc2 R0
  · have s1 : (V.setCell ⟨w2.heap.size, 1, none⟩ (.int .i64 (day - 1))).cell? ⟨w2.heap.size + 1, 0, none⟩ = some (.int .i64 a) := set_other e10 (by simp)
    have s2 : (V.setCell ⟨w2.heap.size, 1, none⟩ (.int .i64 (day - 1))).frozen? ⟨w2.heap.size + 1, 0, none⟩ = false := by rw [World.frozen?_setCell]; exact f10
    have p0 : ((V.setCell ⟨w2.heap.size, 1, none⟩ (.int .i64 (day - 1))).setCell ⟨w2.heap.size + 1, 0, none⟩ (.int .i64 day)).cell? ⟨w2.heap.size, 0, none⟩ = some (.int .i64 a) := set_other (set_other e00 (by simp)) (by simp)
    have p1 : ((V.setCell ⟨w2.heap.size, 1, none⟩ (.int .i64 (day - 1))).setCell ⟨w2.heap.size + 1, 0, none⟩ (.int .i64 day)).cell? ⟨w2.heap.size, 1, none⟩ = some (.int .i64 (day - 1)) := set_other (set_same e01) (by simp)
    have p2 : ((V.setCell ⟨w2.heap.size, 1, none⟩ (.int .i64 (day - 1))).setCell ⟨w2.heap.size + 1, 0, none⟩ (.int .i64 day)).cell? ⟨w2.heap.size, 2, none⟩ = some (.int .i64 m) := set_other (set_other e02 (by simp)) (by simp)
    have r0 : ((V.setCell ⟨w2.heap.size, 1, none⟩ (.int .i64 (day - 1))).setCell ⟨w2.heap.size + 1, 0, none⟩ (.int .i64 day)).cell? ⟨w2.heap.size + 1, 0, none⟩ = some (.int .i64 day) := set_same s1
    have r1 : ((V.setCell ⟨w2.heap.size, 1, none⟩ (.int .i64 (day - 1))).setCell ⟨w2.heap.size + 1, 0, none⟩ (.int .i64 day)).cell? ⟨w2.heap.size + 1, 1, none⟩ = some (.int .i64 b) := set_other (set_other e11 (by simp)) (by simp)
    have r2 : ((V.setCell ⟨w2.heap.size, 1, none⟩ (.int .i64 (day - 1))).setCell ⟨w2.heap.size + 1, 0, none⟩ (.int .i64 day)).cell? ⟨w2.heap.size + 1, 2, none⟩ = some (.int .i64 m) := set_other (set_other e12 (by simp)) (by simp)
    have R5 : Res 6 (w.heap.size + 1) W ((V.setCell ⟨w2.heap.size, 1, none⟩ (.int .i64 (day - 1))).setCell ⟨w2.heap.size + 1, 0, none⟩ (.int .i64 day)) := R3.up (((Below.refl _ _).setCell (p := ⟨w2.heap.size, 1, none⟩) (show w.heap.size + 1 + 1 ≤ w2.heap.size by omega) _).setCell (p := ⟨w2.heap.size + 1, 0, none⟩) (show w.heap.size + 1 + 1 ≤ w2.heap.size + 1 by omega) _)
    obtain ⟨u0, q0⟩ := R5.cell 0 (by decide)
    have qf0 := R5.frozen 0 (by decide)
    obtain ⟨u1, q1⟩ := R5.cell 1 (by decide)
    have qf1 := R5.frozen 1 (by decide)
    obtain ⟨u2, q2⟩ := R5.cell 2 (by decide)
    have qf2 := R5.frozen 2 (by decide)
    obtain ⟨u3, q3⟩ := R5.cell 3 (by decide)
    have qf3 := R5.frozen 3 (by decide)
    obtain ⟨u4, q4⟩ := R5.cell 4 (by decide)
    have qf4 := R5.frozen 4 (by decide)
    obtain ⟨u5, q5⟩ := R5.cell 5 (by decide)
    have qf5 := R5.frozen 5 (by decide)
    go_wp2_with fail
    exact bodyPost_ret (v := .tuple #[.agg #[.int .i64 a, .int .i64 (day - 1), .int .i64 m, .int .i64 day, .int .i64 b, .int .i64 m], .int .i64 0]) (by simp [results, Tryd.results14, go_sem, q0, q1, q2, q3, q4, q5]) rfl ⟨rfl, hb0.trans (((((((R5.set 0 _).set 1 _).set 2 _).set 3 _).set 4 _).set 5 _).below.mono (by omega))⟩
  · have s1 : (V.setCell ⟨w2.heap.size + 1, 1, none⟩ (.int .i64 (day - 1))).cell? ⟨w2.heap.size, 0, none⟩ = some (.int .i64 a) := set_other e00 (by simp)
    have s2 : (V.setCell ⟨w2.heap.size + 1, 1, none⟩ (.int .i64 (day - 1))).frozen? ⟨w2.heap.size, 0, none⟩ = false := by rw [World.frozen?_setCell]; exact f00
    have p0 : ((V.setCell ⟨w2.heap.size + 1, 1, none⟩ (.int .i64 (day - 1))).setCell ⟨w2.heap.size, 0, none⟩ (.int .i64 day)).cell? ⟨w2.heap.size + 1, 0, none⟩ = some (.int .i64 a) := set_other (set_other e10 (by simp)) (by simp)
    have p1 : ((V.setCell ⟨w2.heap.size + 1, 1, none⟩ (.int .i64 (day - 1))).setCell ⟨w2.heap.size, 0, none⟩ (.int .i64 day)).cell? ⟨w2.heap.size + 1, 1, none⟩ = some (.int .i64 (day - 1)) := set_other (set_same e11) (by simp)
    have p2 : ((V.setCell ⟨w2.heap.size + 1, 1, none⟩ (.int .i64 (day - 1))).setCell ⟨w2.heap.size, 0, none⟩ (.int .i64 day)).cell? ⟨w2.heap.size + 1, 2, none⟩ = some (.int .i64 m) := set_other (set_other e12 (by simp)) (by simp)
    have r0 : ((V.setCell ⟨w2.heap.size + 1, 1, none⟩ (.int .i64 (day - 1))).setCell ⟨w2.heap.size, 0, none⟩ (.int .i64 day)).cell? ⟨w2.heap.size, 0, none⟩ = some (.int .i64 day) := set_same s1
    have r1 : ((V.setCell ⟨w2.heap.size + 1, 1, none⟩ (.int .i64 (day - 1))).setCell ⟨w2.heap.size, 0, none⟩ (.int .i64 day)).cell? ⟨w2.heap.size, 1, none⟩ = some (.int .i64 b) := set_other (set_other e01 (by simp)) (by simp)
    have r2 : ((V.setCell ⟨w2.heap.size + 1, 1, none⟩ (.int .i64 (day - 1))).setCell ⟨w2.heap.size, 0, none⟩ (.int .i64 day)).cell? ⟨w2.heap.size, 2, none⟩ = some (.int .i64 m) := set_other (set_other e02 (by simp)) (by simp)
    have R5 : Res 6 (w.heap.size + 1) W ((V.setCell ⟨w2.heap.size + 1, 1, none⟩ (.int .i64 (day - 1))).setCell ⟨w2.heap.size, 0, none⟩ (.int .i64 day)) := R3.up (((Below.refl _ _).setCell (p := ⟨w2.heap.size + 1, 1, none⟩) (show w.heap.size + 1 + 1 ≤ w2.heap.size + 1 by omega) _).setCell (p := ⟨w2.heap.size, 0, none⟩) (show w.heap.size + 1 + 1 ≤ w2.heap.size by omega) _)
    obtain ⟨u0, q0⟩ := R5.cell 0 (by decide)
    have qf0 := R5.frozen 0 (by decide)
    obtain ⟨u1, q1⟩ := R5.cell 1 (by decide)
    have qf1 := R5.frozen 1 (by decide)
    obtain ⟨u2, q2⟩ := R5.cell 2 (by decide)
    have qf2 := R5.frozen 2 (by decide)
    obtain ⟨u3, q3⟩ := R5.cell 3 (by decide)
    have qf3 := R5.frozen 3 (by decide)
    obtain ⟨u4, q4⟩ := R5.cell 4 (by decide)
    have qf4 := R5.frozen 4 (by decide)
    obtain ⟨u5, q5⟩ := R5.cell 5 (by decide)
    have qf5 := R5.frozen 5 (by decide)
    go_wp2_with fail
    exact bodyPost_ret (v := .tuple #[.agg #[.int .i64 a, .int .i64 (day - 1), .int .i64 m, .int .i64 day, .int .i64 b, .int .i64 m], .int .i64 0]) (by simp [results, Tryd.results14, go_sem, q0, q1, q2, q3, q4, q5]) rfl ⟨rfl, hb0.trans (((((((R5.set 0 _).set 1 _).set 2 _).set 3 _).set 4 _).set 5 _).below.mono (by omega))⟩
end Go.Proofs.YtoaimgfekbnijaaDoor
namespace Go.Proofs.YtoaimgfekbnijaaDoor
open Go Go.RowKit
section
variable {P : Program}
/-- A frame that ends the run as soon as it is resumed. -/
def deadEnd : Frame := { fn := 0, tmps := #[], todo := [.code (.goto 0)], defers := [], mode := .run, kind := .normal }
theorem deadEnd_finish (v : Value) : deadEnd.finish v = deadEnd := rfl
theorem deadEnd_step (w : World) : ∃ o w', step P (lone deadEnd [] w) = .ended o w' := by
  refine ⟨_, _, step_lone_ended (o := .stuck "exit, goto: no such block or label" (deadEnd.pos P)) (w' := w) ?_⟩
  simp [stepG, stepG.exec, deadEnd, gotoIn]
theorem leaves_once {fr1 fr2 : Frame} {w1 w2 : World} {v : Value} (hl : fr1.leaving P w1 (.returned v)) : ∀ k, runN P k (lone fr1 [deadEnd] w1) = .next (lone fr2 [deadEnd] w2) → fr1 = fr2 ∧ w1 = w2
  | 0, h => by
    simp only [runN, Stepped.next.injEq, lone, Machine.mk.injEq] at h
    obtain ⟨h1, h2, _⟩ := h
    have h3 : fr1 = fr2 := by simpa using h2
    exact ⟨h3, h1⟩
  | 1, h => by
    have h' : (match step P (lone fr1 [deadEnd] w1) with | .next m => runN P 0 m | e => e) = .next (lone fr2 [deadEnd] w2) := h
    rw [step_leave_returned hl] at h'
    simp only [runN, Stepped.next.injEq, lone, Machine.mk.injEq] at h'
    obtain ⟨_, h2, _⟩ := h'
    simp at h2
  | k + 2, h => by
    obtain ⟨o, w', he⟩ := deadEnd_step (P := P) w1
    have h' : (match step P (lone fr1 [deadEnd] w1) with | .next m => runN P (k + 1) m | e => e) = .next (lone fr2 [deadEnd] w2) := h
    rw [step_leave_returned hl, deadEnd_finish] at h'
    have h'' : (match step P (lone deadEnd [] w1) with | .next m => runN P k m | e => e) = .next (lone fr2 [deadEnd] w2) := h'
    rw [he] at h''
    cases h''
theorem leaving_one {fr : Frame} {w : World} {v v' : Value} (h : fr.leaving P w (.returned v)) (h' : fr.leaving P w (.returned v')) : v = v' := by
  obtain ⟨_, _, _, fn, hf, hr⟩ := h
  obtain ⟨_, _, _, fn', hf', hr'⟩ := h'
  rw [hf] at hf'
  cases hf'
  rw [hr] at hr'
  cases hr'
  rfl
theorem calls_one {f : FuncId} {args : Array Value} {w : World} {v v' : Value} {R R' : World → Prop} (h : Calls P f args w fun e w' => e = .returned v ∧ R w') (h' : Calls P f args w fun e w' => e = .returned v' ∧ R' w') : v = v' := by
  obtain ⟨_, w1, fr1, ⟨rfl, _⟩, ⟨n1, h1⟩, _, hl1⟩ := h [deadEnd]
  obtain ⟨_, w2, fr2, ⟨rfl, _⟩, ⟨n2, h2⟩, _, hl2⟩ := h' [deadEnd]
  rcases Nat.le_total n1 n2 with hle | hle
  · obtain ⟨k, rfl⟩ := Nat.le.dest hle
    rw [runN_add, h1] at h2
    obtain ⟨rfl, rfl⟩ := leaves_once hl1 k h2
    exact leaving_one hl1 hl2
  · obtain ⟨k, rfl⟩ := Nat.le.dest hle
    rw [runN_add, h2] at h1
    obtain ⟨rfl, rfl⟩ := leaves_once hl2 k h1
    exact leaving_one hl1 hl2
theorem quietAt_one {o : Oper} {a : Act} {C C' : World → Prop} {w : World} {v v' : Value} (h : o.quietAt P a C w v) (h' : o.quietAt P a C' w v') : v = v' := by
  unfold Oper.quietAt at h h'
  generalize (execOp a.eval o).run P w = r at *
  cases r with
  | ok n w' =>
    cases n <;> simp only [Oper.quietUpon] at h h'
    case value u => exact h.2.symm.trans h'.2
    case skip => exact h.2.trans h'.2.symm
    case enter f args => exact calls_one h.2 h'.2
  | halt x w' => simp only [Oper.quietUpon] at h
variable {ops : Array Oper} {md : Region.Mode}
theorem yieldsIn_one {o : Oper} {a : Act} {C C' : World → Prop} {w : World} {v v' : Value} (hw : C w) (hw' : C' w) (h : YieldsIn P ops C o v a) (h' : YieldsIn P ops C' o v' a) : v = v' := by
  rcases h with ⟨g, h⟩ | ⟨g, h⟩ <;> rcases h' with ⟨g', h'⟩ | ⟨g', h'⟩
  · exact quietAt_one (h w hw) (h' w hw')
  · rw [g] at g'; cases g'
  · rw [g] at g'; cases g'
  · rw [h, h']
/-- The worlds that keep what w holds. -/
def Kp (w : World) : World → Prop := fun w' => ∃ x : KeptW w, w' = x.v
theorem Kp.iff {w w' : World} : Kp w w' ↔ Below w.heap.size w w' := ⟨fun ⟨x, h⟩ => h ▸ x.below, fun h => ⟨⟨w', h⟩, rfl⟩⟩
theorem Kp.self (w : World) : Kp w w := Kp.iff.2 (Below.refl _ w)
theorem Kp.trans {w w1 w2 : World} (h : Kp w w1) (k : Kp w1 w2) : Kp w w2 := Kp.iff.2 (b_then (Kp.iff.1 h) (Kp.iff.1 k))
/-- The walk's order: a run of neighbours, from k on. -/
def segB (md : Region.Mode) (ops : Array Oper) : Nat → Nat → Array Bool → Bool
  | 0, _, _ => true
  | f + 1, k, listed => (Region.ready md ops listed).contains k && Region.free md ops listed k && segB md ops f (k + 1) (listed.setIfInBounds k true)
def segTo : Nat → Nat → Array Bool → Array Bool
  | 0, _, listed => listed
  | f + 1, k, listed => segTo f (k + 1) (listed.setIfInBounds k true)
theorem HeadQ.seg {C : World → Prop} {n f : Nat} {L : Array Bool → Act → Prop} (hsel : Region.noSelect ops = true) (hs : Region.sinkB md ops n = true) (hc : Region.chainB md ops n = true) (hn : n < ops.size) (hL : ∀ listed a, L listed a → ∀ j ∈ Region.ready md ops listed, n ≤ j) (l : List Oper) :
    ∀ (k : Nat) (listed : Array Bool) (a : Act), (∀ j, j < l.length → l[j]? = ops[k + j]?) → k + l.length ≤ n → HeadInv md ops n listed → segB md ops l.length k listed = true →
      wpQuiet P ops C (fun a' => HeadInv md ops n (segTo l.length k listed) → HeadQ P md ops C n L f (segTo l.length k listed) a') l a → HeadQ P md ops C n L (l.length + f) listed a := by
  induction l with
  | nil => intro k listed a _ _ inv _ h; rw [List.length_nil, Nat.zero_add]; exact h inv
  | cons o l ih =>
    intro k listed a hl hk inv hB h
    have h0 : ops[k]? = some o := by simpa using (hl 0 (by simp)).symm
    simp only [List.length_cons, segB, Bool.and_eq_true, List.contains_iff_mem] at hB
    have hkn : k < n := by simp only [List.length_cons] at hk; omega
    obtain ⟨v, hy, hK⟩ := yieldsIn_of_qOp (K := wpQuiet P ops C _ l) h0 (by unfold qOp; simp only [h0]; exact h)
    rw [List.length_cons, Nat.succ_add]
    exact HeadQ.first h0 (Region.noSelect_spec hsel) hs hc hn hkn hL _ listed a inv (Region.free_spec h0 hB.1.2) hB.1.1 hy
      (ih (k + 1) _ _ (fun j hj => by have := hl (j + 1) (by simp; omega); simpa [Nat.add_assoc, Nat.add_comm 1 j] using this) (by simp only [List.length_cons] at hk; omega) (inv.set hB.1.1 hkn) hB.2 hK)
theorem wpQuiet_append {C : World → Prop} {Q : Act → Prop} (l1 l2 : List Oper) : ∀ a, wpQuiet P ops C Q (l1 ++ l2) a → wpQuiet P ops C (wpQuiet P ops C Q l2) l1 a := by
  induction l1 with
  | nil => intro a h; exact h
  | cons o l ih =>
    intro a h
    have h' : (if Region.wanted o (yielded ops a.tmps) then o.quiet P a C (wpQuiet P ops C Q (l ++ l2)) else wpQuiet P ops C Q (l ++ l2) (a.put o.dst undef)) := h
    show (if Region.wanted o (yielded ops a.tmps) then o.quiet P a C (wpQuiet P ops C (wpQuiet P ops C Q l2) l) else wpQuiet P ops C (wpQuiet P ops C Q l2) l (a.put o.dst undef))
    split
    · rename_i hw; rw [if_pos hw] at h'; exact Oper.quiet_mono ih h'
    · rename_i hw; rw [if_neg hw] at h'; exact ih _ h'
theorem wpQuiet_mono {C : World → Prop} {Q Q' : Act → Prop} (hQ : ∀ a, Q a → Q' a) (l : List Oper) : ∀ a, wpQuiet P ops C Q l a → wpQuiet P ops C Q' l a := by
  induction l with
  | nil => intro a h; exact hQ a h
  | cons o l ih =>
    intro a h
    have h' : (if Region.wanted o (yielded ops a.tmps) then o.quiet P a C (wpQuiet P ops C Q l) else wpQuiet P ops C Q l (a.put o.dst undef)) := h
    show (if Region.wanted o (yielded ops a.tmps) then o.quiet P a C (wpQuiet P ops C Q' l) else wpQuiet P ops C Q' l (a.put o.dst undef))
    split
    · rename_i hw; rw [if_pos hw] at h'; exact Oper.quiet_mono ih h'
    · rename_i hw; rw [if_neg hw] at h'; exact ih _ h'
/-- An operation that makes the block o and yields its address, in whatever world. -/
def Makes (P : Program) (oi : Oper) (o : Obj) : Prop := oi.guard = none ∧ ∀ (a : Act) (w : World), (execOp a.eval oi).run P w = .ok (.value (.pointer (some ⟨w.heap.size, 0, none⟩))) (w.alloc o)
theorem Makes.wpOp {oi : Oper} {o : Obj} {i : Nat} {Q : Exit → Act → World → Prop} {K : Act → World → Prop} {a : Act} {w : World} (h : Makes P oi o) (hi : ops[i]? = some oi) (hk : K (a.put oi.dst (.pointer (some ⟨w.heap.size, 0, none⟩))) (w.alloc o)) : wpOp P ops Q i K a w := by
  unfold Go.wpOp
  simp only [hi]
  have hw : Region.wanted oi (yielded ops a.tmps) = true := by simp [Region.wanted, h.1]
  simp only [hw, if_true, Oper.wp, h.2 a w, Oper.upon]
  exact .inl hk
/-- The operation that makes a block may be taken first. -/
theorem alloc_first {w0 : World} {n i g : Nat} {oi : Oper} {o : Obj} {L : Nat → Array Bool → Act → Prop} {Q : Exit → Act → World → Prop} (hi : ops[i]? = some oi) (hm : Makes P oi o) (hsel : ∀ (j : Nat) (o : Oper) cs b, ops[j]? = some o → o.op ≠ .select cs b)
    (hs : Region.sinkB md ops n = true) (hc : Region.chainB md ops n = true) (hn : n < ops.size) (hin : i < n) (hdone : ∀ A listed a, L A listed a → ∀ j ∈ Region.ready md ops listed, n ≤ j)
    (hL : ∀ A listed a w, Kp w0 w → w0.heap.size ≤ A → w.heap[A]? = some o → L A listed a → wpAny P md ops Q g listed a w) (f : Nat) :
    ∀ (listed : Array Bool) (a : Act) (w : World), Kp w0 w → HeadInv md ops n listed →
      (∀ j oj, ops[j]? = some oj → j ≠ i → listed.getD j true = false → (∀ e ∈ oj.after, Region.binds md e = true → e.on ≠ i) → oi.apart ops oj = true) →
      i ∈ Region.ready md ops listed → (∀ A w1, Kp w0 w1 → HeadQ P md ops (Kp w1) n (L A) f (listed.setIfInBounds i true) (a.put oi.dst (.pointer (some ⟨A, 0, none⟩)))) → wpAny P md ops Q (f + 1 + g) listed a w := by
  have atI : ∀ (f : Nat) (listed : Array Bool) (a : Act) (w : World), Kp w0 w → (∀ A w1, Kp w0 w1 → HeadQ P md ops (Kp w1) n (L A) f (listed.setIfInBounds i true) (a.put oi.dst (.pointer (some ⟨A, 0, none⟩)))) →
      wpOp P ops Q i (wpAny P md ops Q (f + g) (listed.setIfInBounds i true)) a w := fun f listed a w hw H => by
    refine hm.wpOp hi ?_
    have hk : Kp w0 (w.alloc o) := hw.trans (Kp.iff.2 (below_alloc w o))
    refine HeadQ.any (C := Kp (w.alloc o)) (L := L w.heap.size) (fun listed' a' w' hw' hl => hL _ _ _ _ (hk.trans hw') (Kp.iff.1 hw).size ?_ hl) f _ _ _ (Kp.self _) (H _ _ hk)
    rw [(Kp.iff.1 hw').block w.heap.size (by show _ < (w.heap.push o).size; simp)]
    show (w.heap.push o)[w.heap.size]? = _
    simp
  have heq : ∀ m, m + 1 + g = (m + g) + 1 := fun m => by omega
  induction f with
  | zero =>
    intro listed a w hw inv _ hr H
    rw [heq]
    refine ⟨fun h0 => absurd h0 (List.ne_nil_of_mem hr), fun j hj => ?_⟩
    have hjn : j < n := Nat.lt_of_not_le fun h => tail_waits hs hc hn inv _ i rfl hin (mem_ready.1 hr).1 j h hj
    rcases Nat.decEq j i with hji | hji
    · exact absurd (hdone _ _ _ (H 0 w0 (Kp.self _)) j (ready_mono hj hji)) (by omega)
    · subst hji; exact atI 0 listed a w hw H
  | succ f ih =>
    intro listed a w hw inv hfree hr H
    rw [heq]
    refine ⟨fun h0 => absurd h0 (List.ne_nil_of_mem hr), fun j hj => ?_⟩
    have hjn : j < n := Nat.lt_of_not_le fun h => tail_waits hs hc hn inv _ i rfl hin (mem_ready.1 hr).1 j h hj
    rcases Nat.decEq j i with hji | hji
    · obtain ⟨hun, oj, hoj, hall⟩ := mem_ready.1 hj
      have hnot : ∀ e ∈ oj.after, Region.binds md e = true → e.on ≠ i := fun e he hb heq => by
        have h1 := hall e he hb
        rw [heq, getD_both (mem_ready.1 hr).1] at h1
        cases h1
      have hap := hfree j oj hoj hji hun hnot
      obtain ⟨p1, p2, p3⟩ := Oper.apart_spec hap
      have hone : ∀ A w1, Kp w0 w1 → ∃ v, YieldsIn P ops (Kp w1) oj v a ∧ HeadQ P md ops (Kp w1) n (L A) f ((listed.setIfInBounds i true).setIfInBounds j true) ((a.put oi.dst (.pointer (some ⟨A, 0, none⟩))).put oj.dst v) := fun A w1 hw1 => by
        obtain ⟨v, hy, hk⟩ := yieldsIn_of_qOp hoj ((H A w1 hw1).2 j (ready_mono hj hji)).2
        exact ⟨v, hy.of_same (execOp_put oj (fun cs b => hsel j oj cs b hoj) a oi.dst _ p1).symm (wanted_put oj a oi.dst _ p1).symm, hk⟩
      obtain ⟨v, hv, -⟩ := hone 0 w0 (Kp.self _)
      have hall : ∀ A w1, Kp w0 w1 → HeadQ P md ops (Kp w1) n (L A) f ((listed.setIfInBounds j true).setIfInBounds i true) ((a.put oj.dst v).put oi.dst (.pointer (some ⟨A, 0, none⟩))) := fun A w1 hw1 => by
        obtain ⟨u, hu, hk⟩ := hone A w1 hw1
        obtain rfl : v = u := yieldsIn_one hw1 (Kp.self w1) hv hu
        rw [Array.setIfInBounds_comm _ _ hji, ← Act.put_comm a (.pointer (some ⟨A, 0, none⟩)) v p2]
        exact hk
      obtain ⟨u, hu, -⟩ := hone 0 w hw
      obtain rfl : v = u := yieldsIn_one hw (Kp.self w) hv hu
      refine wpOp_of_qOp (C := Kp w) (K := fun a' => a' = a.put oj.dst v) (Kp.self w) (fun a' w' hw' ha => ?_) (hu.qOp hoj rfl)
      subst ha
      have := ih (listed.setIfInBounds j true) (a.put oj.dst v) w' (hw.trans hw') (inv.set hj hjn) (fun k ok hk hki hk2 hno => hfree k ok hk hki (by
        rcases Nat.decEq j k with hjk | hjk
        · rwa [getD_set_ne true hjk] at hk2
        · subst hjk; exact hun) hno) (ready_mono hr (Ne.symm hji)) hall
      exact this
    · subst hji; exact atI _ listed a w hw H
/-- What the order must be like: number i may come first. -/
def allocB (md : Region.Mode) (ops : Array Oper) (n i : Nat) : Bool :=
  let l0 := Array.replicate ops.size false
  let l1 := l0.setIfInBounds i true
  let l2 := segTo i 0 l1
  Region.noSelect ops && decide (n < ops.size) && decide (i < n) && Region.sinkB md ops n && Region.chainB md ops n && (Region.ready md ops l0).contains i && Region.free md ops l0 i &&
    segB md ops i 0 l1 && segB md ops (n - i - 1) (i + 1) l2 && Region.seqB md ops (ops.size - n) n (segTo (n - i - 1) (i + 1) l2)
theorem alloc_tail {id : Nat} {Q : Exit → Act → World → Prop} {a : Act} {w : World} {l : List Oper} {oi : Oper} {o : Obj} (n i : Nat) (hm : P.follows .mixedOrders = true) (hB : allocB .any l.toArray n i = true) (hi : l[i]? = some oi) (hmk : Makes P oi o)
    (h : ∀ (A : Nat) (w1 : World), Below w.heap.size w w1 → wpQuiet P l.toArray (fun w' => ∃ x : KeptW w1, w' = x.v) (fun a' => ∀ w', Below w.heap.size w w' → w.heap.size ≤ A → w'.heap[A]? = some o → wpList P l.toArray Q (l.drop n) a' w') (l.take i ++ (l.take n).drop (i + 1)) (a.put oi.dst (.pointer (some ⟨A, 0, none⟩)))) :
    (Code.region id l.toArray true).wp P Q a w := by
  simp only [allocB, Bool.and_eq_true, decide_eq_true_eq, List.contains_iff_mem] at hB
  obtain ⟨⟨⟨⟨⟨⟨⟨⟨⟨hsel, hn⟩, hin⟩, hs⟩, hc⟩, hr⟩, hf⟩, hs1⟩, hs2⟩, hq⟩ := hB
  have hlen : n < l.length := by simpa using hn
  have hdl : (l.drop n).length = l.toArray.size - n := by simp
  have hi' : l.toArray[i]? = some oi := by simpa using hi
  have l1 : (l.take i).length = i := by simp; omega
  have l2 : ((l.take n).drop (i + 1)).length = n - i - 1 := by simp; omega
  have inv0 : HeadInv .any l.toArray n (Array.replicate l.toArray.size false) :=
    ⟨by simp, fun j oj _ hl => (by rw [getD_replicate_false] at hl; cases hl), fun t _ ht => getD_in (by simpa using ht) (getD_replicate_false _ _)⟩
  have T := alloc_first (md := .any) (w0 := w) (Q := Q) (g := l.toArray.size - n) (f := n - 1) (L := fun A listed' a' => Region.seqB .any l.toArray (l.toArray.size - n) n listed' = true ∧ ∀ w', Kp w w' → w.heap.size ≤ A → w'.heap[A]? = some o → wpList P l.toArray Q (l.drop n) a' w')
    hi' hmk (Region.noSelect_spec hsel) hs hc hn hin (fun _ _ _ hL => seqB_ready hL.1) (fun A listed' a' w' hw' hA hb hL => by
      have := wpAny_of_seq (md := .any) (Q' := Q) (l.drop n) n listed' a' w' (fun j => by simp [List.getElem?_drop]) (by rw [hdl]; exact hL.1) (hL.2 w' hw' hA hb)
      rwa [hdl] at this) _ a w.drew (Kp.iff.2 (below_drew w)) inv0 (Region.free_spec hi' hf) hr (fun A w1 hw1 => by
        have H := wpQuiet_append _ _ _ (h A w1 (Kp.iff.1 hw1))
        have e1 : n - 1 = (l.take i).length + (((l.take n).drop (i + 1)).length + 0) := by rw [l1, l2]; omega
        rw [e1]
        refine HeadQ.seg hsel hs hc hn (fun _ _ hL => seqB_ready hL.1) _ 0 _ _ (fun j hj => by rw [l1] at hj; simp [hj]) (by rw [l1]; omega) (inv0.set hr hin) (by rw [l1]; exact hs1) ?_
        refine wpQuiet_mono (fun a' h' inv1 => ?_) _ _ H
        rw [l1] at inv1 ⊢
        refine HeadQ.seg hsel hs hc hn (fun _ _ hL => seqB_ready hL.1) _ (i + 1) _ _ (fun j hj => by rw [l2] at hj; rw [List.getElem?_drop, List.getElem?_take_of_lt (by omega)]; simp) (by rw [l2]; omega) inv1 (by rw [l2]; exact hs2) ?_
        refine wpQuiet_mono (fun a'' h'' _ => ?_) _ _ h'
        rw [l2]
        exact ⟨hq, fun w' hw' => h'' w' (Kp.iff.1 hw')⟩)
  rw [Nat.sub_add_cancel (by omega), Nat.add_sub_cancel' (Nat.le_of_lt hn)] at T
  exact wp_region_any hm T
end
end Go.Proofs.YtoaimgfekbnijaaDoor
namespace Go.Proofs.YtoaimgfekbnijaaDoor
open Go Go.RowKit
def shiftErr (a b m d : Int) : Int := fst [perErr a b m, rng d (-99999) 99999]
def zeroPer : Value := .agg #[.int .i64 0, .int .i64 0, .int .i64 0]
theorem fresh_frozen (w : World) (l : Array Value) (T : TypeId) (a : Addr) (h : a.block = w.heap.size) : (w.alloc (.cells l T)).frozen? a = false := by
  have e : (w.alloc (.cells l T)).heap[a.block]? = some (.cells l T (0, 0)) := by rw [h]; show (w.heap.push _)[_]? = _; simp
  unfold World.frozen?
  simp only [e]
  simp
theorem sh_below {a b n : Int} {B : Nat} {W w' w2 : World} (h : w'.cell? ⟨B, 0, none⟩ = some (.int .i64 a) ∧ w'.cell? ⟨B, 1, none⟩ = some (.int .i64 b) ∧ w'.cell? ⟨B, 2, none⟩ = some (.int .i64 n) ∧ Res 3 (B + 1) W w') (hb : Below w'.heap.size w' w2) :
    w2.cell? ⟨B, 0, none⟩ = some (.int .i64 a) ∧ w2.cell? ⟨B, 1, none⟩ = some (.int .i64 b) ∧ w2.cell? ⟨B, 2, none⟩ = some (.int .i64 n) ∧ Res 3 (B + 1) W w2 :=
  ⟨b_old hb h.1, b_old hb h.2.1, b_old hb h.2.2.1, h.2.2.2.more (h.2.2.2.pos (by decide)) hb⟩
theorem sh_set {a b n : Int} {B p : Nat} {W w' : World} (h : w'.cell? ⟨B, 0, none⟩ = some (.int .i64 a) ∧ w'.cell? ⟨B, 1, none⟩ = some (.int .i64 b) ∧ w'.cell? ⟨B, 2, none⟩ = some (.int .i64 n) ∧ Res 3 (B + 1) W w') (hp : B + 2 ≤ p) (x y z : Value) :
    (((w'.setCell ⟨p, 0, none⟩ x).setCell ⟨p, 1, none⟩ y).setCell ⟨p, 2, none⟩ z).cell? ⟨B, 0, none⟩ = some (.int .i64 a) ∧ (((w'.setCell ⟨p, 0, none⟩ x).setCell ⟨p, 1, none⟩ y).setCell ⟨p, 2, none⟩ z).cell? ⟨B, 1, none⟩ = some (.int .i64 b) ∧
      (((w'.setCell ⟨p, 0, none⟩ x).setCell ⟨p, 1, none⟩ y).setCell ⟨p, 2, none⟩ z).cell? ⟨B, 2, none⟩ = some (.int .i64 n) ∧ Res 3 (B + 1) W (((w'.setCell ⟨p, 0, none⟩ x).setCell ⟨p, 1, none⟩ y).setCell ⟨p, 2, none⟩ z) := by
  have hb : Below (B + 2) w' (((w'.setCell ⟨p, 0, none⟩ x).setCell ⟨p, 1, none⟩ y).setCell ⟨p, 2, none⟩ z) := (((Below.refl _ _).setCell (p := ⟨p, 0, none⟩) hp x).setCell (p := ⟨p, 1, none⟩) hp y).setCell (p := ⟨p, 2, none⟩) hp z
  exact ⟨b_keep hb (by omega) h.1, b_keep hb (by omega) h.2.1, b_keep hb (by omega) h.2.2.1, h.2.2.2.up hb⟩
set_option maxRecDepth 100000 in
set_option maxHeartbeats 2000000 in
theorem Shift_err (a b m d : Int) (w : World) (he : shiftErr a b m d ≠ 0) :
    Calls Tryd.prog 15 #[.agg #[.int .i64 a, .int .i64 b, .int .i64 m], .int .i64 d] w fun r w' => r = .returned (.tuple #[zeroPer, .int .i64 (shiftErr a b m d)]) ∧ Below w.heap.size w w' := by
  have HE : Hid ((shiftErr a b m d != 0) = true) := Lib.hid (by rw [bne_iff_ne]; exact he)
  have HD : Hid (shiftErr a b m d = fst [perErr a b m, rng d (-99999) 99999]) := Lib.hid rfl
  clear he
  obtain ⟨W, HW, hb0, hc0, hc1, hc2, R0, hsz⟩ := two_per w a b m
  go_enter Tryd.func15, Tryd.ntmps15
  go_wp2_with fail
  rw [HW.out]
  refine (CheckPeriod_any _ _ _ _).mono ?_
  rintro e w1 ⟨rfl, hb1⟩
  have R1 := R0.more (by omega) hb1
  clear hb1
  go_wp2_with fail
  refine (checkRange_any _ _ _ _).mono ?_
  rintro e w2 ⟨rfl, hw⟩
  rw [hw]
  clear hw
  go_wp2_with fail
  refine (fe_new [_, _] _ _ _ _ _ rfl rfl (by simp)).mono ?_
  rintro e w3 ⟨rfl, hw⟩
  have hb3 : Below w1.heap.size w1 w3 := by rw [hw]; exact below_alloc _ _
  have R2 := R1.more (R1.pos (by decide)) hb3
  rw [← HD.out]
  have hee := HE.out
  generalize hE : shiftErr a b m d = E at *
  have HEq := Lib.hid hE
  clear hE
  clear hw hb3 R1 HD HE
  obtain ⟨v0, q0⟩ := R2.cell 0 (by decide)
  obtain ⟨v1, q1⟩ := R2.cell 1 (by decide)
  obtain ⟨v2, q2⟩ := R2.cell 2 (by decide)
  have qf0 := R2.frozen 0 (by decide)
  have qf1 := R2.frozen 1 (by decide)
  have qf2 := R2.frozen 2 (by decide)
  go_wp2_with fail
  exact bodyPost_ret (v := .tuple #[zeroPer, .int .i64 E]) (by simp [results, Tryd.results15, go_sem, q0, q1, q2, zeroPer]) rfl ⟨by rw [HEq.out], hb0.trans ((((R2.set 0 _).set 1 _).set 2 _).below.mono (by omega))⟩
end Go.Proofs.YtoaimgfekbnijaaDoor
namespace Go.Proofs.YtoaimgfekbnijaaDoor
open Go Go.RowKit
theorem block3 {w : World} {A : Nat} {a b c : Value} {T : TypeId} (h : w.heap[A]? = some (.cells #[a, b, c] T)) :
    w.cell? ⟨A, 0, none⟩ = some a ∧ w.cell? ⟨A, 1, none⟩ = some b ∧ w.cell? ⟨A, 2, none⟩ = some c ∧ w.frozen? ⟨A, 0, none⟩ = false ∧ w.frozen? ⟨A, 1, none⟩ = false ∧ w.frozen? ⟨A, 2, none⟩ = false := by
  simp [World.cell?, World.frozen?, h]
theorem below_drewN (w : World) (q : Nat) : Below w.heap.size w (w.drewN q) := ⟨rfl, rfl, rfl, Nat.le_refl _, fun _ _ => rfl⟩
theorem KeptW.calls_drew {P : Program} {w : World} {x : KeptW w} {f : FuncId} {args : Array Value} {u : Value} (h : Calls P f args x.v fun e w' => e = .returned u ∧ ∃ q, w' = x.v.drewN q) :
    Calls P f args x.v fun e w' => e = .returned u ∧ ∃ y : KeptW w, w' = y.v :=
  KeptW.calls (h.mono fun _ _ ⟨he, q, hb⟩ => ⟨he, hb ▸ below_drewN _ q⟩)
set_option maxRecDepth 100000 in
set_option maxHeartbeats 4000000 in
theorem Shift_in (a b d : Int) (n s : Nat) (w : World) (hz : perErr a b n = 0) (ha1 : 0 ≤ a) (ha2 : a ≤ 99999) (hb1 : 0 ≤ b) (hb2 : b ≤ 99999) (hd1 : -99999 ≤ d) (hd2 : d ≤ 99999) (hn : n < 128) (hs : d % 7 = (s : Int)) :
    Calls Tryd.prog 15 #[.agg #[.int .i64 a, .int .i64 b, .int .i64 n], .int .i64 d] w fun r w' => r = .returned (if 0 ≤ a + d ∧ b + d ≤ 99999 then .tuple #[.agg #[.int .i64 (a + d), .int .i64 (b + d), .int .i64 (refN n s 7 : Nat)], .int .i64 0] else .tuple #[zeroPer, .int .i64 30]) ∧ Below w.heap.size w w' := by
  generalize hv : (if 0 ≤ a + d ∧ b + d ≤ 99999 then Value.tuple #[.agg #[.int .i64 (a + d), .int .i64 (b + d), .int .i64 (refN n s 7 : Nat)], .int .i64 0] else .tuple #[zeroPer, .int .i64 30]) = RV
  have HV := Lib.hid hv
  clear hv
  have HZ := Lib.hid hz
  have HT := Lib.hid (fun w => turn_any n s d w hn hs)
  have HR : Hid (rng d (-99999) 99999 = 0) := Lib.hid (rng_ok hd1 hd2)
  clear hz hs
  obtain ⟨W, HW, hb0, hc0, hc1, hc2, R0, hsz⟩ := two_per w a b n
  go_enter Tryd.func15, Tryd.ntmps15
  go_wp2_with fail
  rw [HW.out]
  refine (CheckPeriod_any _ _ _ _).mono ?_
  rintro e w1 ⟨rfl, hb1⟩
  rw [HZ.out]
  have R1 := R0.more (by omega) hb1
  have k0 := b_old hb1 hc0; have k1 := b_old hb1 hc1; have k2 := b_old hb1 hc2
  have hs1 := hb1.size
  clear hb1 hc0 hc1 hc2
  go_wp2_with fail
  refine (checkRange_any _ _ _ _).mono ?_
  rintro e w2 ⟨rfl, hw⟩
  rw [hw, HR.out]
  clear hw
  go_wp2_with fail
  refine (fe_new [_, _] _ _ _ _ _ rfl rfl (by simp)).mono ?_
  rintro e w3 ⟨rfl, hw⟩
  have hb3 : Below w1.heap.size w1 w3 := by rw [hw]; exact below_alloc _ _
  have R2 := R1.more (R1.pos (by decide)) hb3
  have m0 := b_old hb3 k0; have m1 := b_old hb3 k1; have m2 := b_old hb3 k2
  have hs3 : w.heap.size + 2 ≤ w3.heap.size := by have := hb3.size; omega
  rw [show fst [0, 0] = 0 from rfl]
  clear hw hb3 R1 k0 k1 k2 hsz hs1
  go_wp2_with fail
  refine alloc_tail (o := .cells #[.int .i64 0, .int .i64 0, .int .i64 0] 23) 14 13 (by kernel_rfl) (by kernel_rfl) rfl ⟨rfl, fun a w => ?_⟩ ?_
  · simp [go_sem]
  intro A w4 hb4
  have k0 : ∀ x : KeptW w4, x.v.cell? ⟨w.heap.size, 0, none⟩ = some (.int .i64 a) := fun x => x.cell (b_old hb4 m0)
  have k1 : ∀ x : KeptW w4, x.v.cell? ⟨w.heap.size, 1, none⟩ = some (.int .i64 b) := fun x => x.cell (b_old hb4 m1)
  have k2 : ∀ x : KeptW w4, x.v.cell? ⟨w.heap.size, 2, none⟩ = some (.int .i64 n) := fun x => x.cell (b_old hb4 m2)
  have hne : Nonempty (KeptW w4) := ⟨⟨w4, Below.refl _ _⟩⟩
  simp only [List.take_succ_cons, List.take_zero, List.drop_succ_cons, List.drop_zero, List.append_nil, Act.put, List.setIfInBounds_toArray, List.set_cons_succ, List.set_cons_zero]
  iterate 11 (go_big_quiet_step (fail))
  go_big_quiet_step (exact KeptW.calls_drew (HT.out _))
  iterate 1 (go_big_quiet_step (fail))
  refine wpQuiet_nil ?_
  intro w5 hb5 hA hb
  have R3 := R2.more (R2.pos (by decide)) hb5
  obtain ⟨b0, b1, b2, f0, f1, f2⟩ := block3 hb
  have hA2 : w.heap.size + 2 ≤ A := by omega
  have R4 := (sh_set ⟨b_old hb5 m0, b_old hb5 m1, b_old hb5 m2, R3⟩ hA2 (.int .i64 (a + d)) (.int .i64 (b + d)) (.int .i64 (refN n s 7 : Nat))).2.2.2
  obtain ⟨v0, q0⟩ := R3.cell 0 (by decide)
  obtain ⟨v1, q1⟩ := R3.cell 1 (by decide)
  obtain ⟨v2, q2⟩ := R3.cell 2 (by decide)
  have g0 := R3.frozen 0 (by decide)
  have g1 := R3.frozen 1 (by decide)
  have g2 := R3.frozen 2 (by decide)
  have hAn : A ≠ w.heap.size + 1 := by omega
  have hAm : w.heap.size + 1 ≠ A := by omega
  clear k0 k1 k2 hne hb hb5 hA hb4 m0 m1 m2 R2 HT HW HZ HR hs3 w4
  by_cases h1 : 0 ≤ a + d
  · by_cases h2 : b + d ≤ 99999
    · go_wp2_with fail
      exact bodyPost_ret (v := .tuple #[.agg #[.int .i64 (a + d), .int .i64 (b + d), .int .i64 (refN n s 7 : Nat)], .int .i64 0]) (by simp [results, Tryd.results15, go_sem, q0, q1, q2]) rfl ⟨by rw [← HV.out, if_pos ⟨h1, h2⟩], hb0.trans ((((R4.set 0 _).set 1 _).set 2 _).below.mono (by omega))⟩
    · go_wp2_with fail
      exact bodyPost_ret (v := .tuple #[zeroPer, .int .i64 30]) (by simp [results, Tryd.results15, go_sem, q0, q1, q2, zeroPer]) rfl ⟨by rw [← HV.out, if_neg (by omega)], hb0.trans ((((R4.set 0 _).set 1 _).set 2 _).below.mono (by omega))⟩
  · go_wp2_with fail
    exact bodyPost_ret (v := .tuple #[zeroPer, .int .i64 30]) (by simp [results, Tryd.results15, go_sem, q0, q1, q2, zeroPer]) rfl ⟨by rw [← HV.out, if_neg (by omega)], hb0.trans ((((R4.set 0 _).set 1 _).set 2 _).below.mono (by omega))⟩
end Go.Proofs.YtoaimgfekbnijaaDoor
