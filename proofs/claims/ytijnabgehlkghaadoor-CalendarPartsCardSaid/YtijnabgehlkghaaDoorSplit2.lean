/- Contracts of package calendar: Split, where the day lies inside. -/
import Derived.Test.YtijnabgehlkghaaDoorSplit
namespace Go.Proofs.YtijnabgehlkghaaDoor
open Go Go.RowKit
set_option maxRecDepth 100000 in
set_option maxHeartbeats 2000000 in
theorem Split_ok (a b m day : Int) (w : World) (hz : perErr a b m = 0) (h1 : a < day) (h2 : day ≤ b) (ha : 0 ≤ a) (hb : b ≤ 99999) :
    Calls Tryd.prog 14 #[.agg #[.int .i64 a, .int .i64 b, .int .i64 m], .int .i64 day] w fun r w' => r = .returned (.tuple #[.agg #[.int .i64 a, .int .i64 (day - 1), .int .i64 m, .int .i64 day, .int .i64 b, .int .i64 m], .int .i64 0]) ∧ Below w.heap.size w w' := by
  have HZ := Lib.hid hz
  clear hz
  obtain ⟨W, HW, hb0, hc0, hc1, hc2, R0, hsz⟩ := per6 w a b m
  go_enter Tryd.func14, Tryd.ntmps14
  go_wp2_with fail
  rw [HW.out]
  have k0 : ∀ x : KeptW W, x.v.cell? ⟨w.heap.size, 0, none⟩ = some (.int .i64 a) := fun x => x.cell hc0
  have k1 : ∀ x : KeptW W, x.v.cell? ⟨w.heap.size, 1, none⟩ = some (.int .i64 b) := fun x => x.cell hc1
  have k2 : ∀ x : KeptW W, x.v.cell? ⟨w.heap.size, 2, none⟩ = some (.int .i64 m) := fun x => x.cell hc2
  have hne : Nonempty (KeptW W) := ⟨⟨W, Below.refl _ _⟩⟩
  refine tail_kept 13 (by kernel_rfl) (by kernel_rfl) ?_
  simp only [List.take_succ_cons, List.take_zero, List.drop_succ_cons, List.drop_zero]
  go_big_quiet_step (fail)
  go_big_quiet_step (exact KeptW.calls (CheckPeriod_any _ _ _ _))
  iterate 10 (go_big_quiet_step (fail))
  go_big_quiet_step (exact KeptW.calls_same (unless_any _ _ _))
  refine wpQuiet_nil ?_
  rintro _ ⟨x, rfl⟩
  have R1 := R0.more (by omega) x.below
  have m0 := k0 x; have m1 := k1 x; have m2 := k2 x
  clear k0 k1 k2
  go_wp2_with fail
  refine (fe_new [_, _] _ _ _ _ _ rfl rfl (by simp)).mono ?_
  rintro e w2 ⟨rfl, hw⟩
  have hb2 : Below x.v.heap.size x.v w2 := by rw [hw]; exact below_alloc _ _
  have R2 := R1.more (R1.pos (by decide)) hb2
  have k0 := b_old hb2 m0; have k1 := b_old hb2 m1; have k2 := b_old hb2 m2
  have hszx : w.heap.size + 2 ≤ w2.heap.size := Nat.le_trans hsz (Nat.le_trans x.below.size hb2.size)
  rw [HZ.out]
  have hfst : ∀ c : Bool, c = true → fst [0, unl c 30] = 0 := fun c hc => by rw [hc]; rfl
  first | rw [hfst _ (decide_eq_true h2)] | rw [hfst _ rfl]
  clear hw hb2 R1 m0 m1 m2 hfst
  have y0 : ∀ o, (w2.alloc o).cell? ⟨w.heap.size, 0, none⟩ = some (.int .i64 a) := fun o => b_old (below_alloc w2 o) k0
  have z0 : ∀ o o', ((w2.alloc o).alloc o').cell? ⟨w.heap.size, 0, none⟩ = some (.int .i64 a) := fun o o' => b_old (below_alloc (w2.alloc o) o') (y0 o)
  have y1 : ∀ o, (w2.alloc o).cell? ⟨w.heap.size, 1, none⟩ = some (.int .i64 b) := fun o => b_old (below_alloc w2 o) k1
  have z1 : ∀ o o', ((w2.alloc o).alloc o').cell? ⟨w.heap.size, 1, none⟩ = some (.int .i64 b) := fun o o' => b_old (below_alloc (w2.alloc o) o') (y1 o)
  have y2 : ∀ o, (w2.alloc o).cell? ⟨w.heap.size, 2, none⟩ = some (.int .i64 m) := fun o => b_old (below_alloc w2 o) k2
  have z2 : ∀ o o', ((w2.alloc o).alloc o').cell? ⟨w.heap.size, 2, none⟩ = some (.int .i64 m) := fun o o' => b_old (below_alloc (w2.alloc o) o') (y2 o)
  have hn1 : w.heap.size ≠ w2.heap.size := by omega
  have hn2 : w.heap.size ≠ w2.heap.size + 1 := by omega
  have hn3 : w2.heap.size ≠ w.heap.size := by omega
  have hn4 : w2.heap.size + 1 ≠ w.heap.size := by omega
  go_wp2_with fail
  go_region
  all_goals
    have e00 : (((w2.alloc (.cells #[.int .i64 a, .int .i64 b, .int .i64 m] 23)).alloc (.cells #[.int .i64 a, .int .i64 b, .int .i64 m] 23)).drew).cell? ⟨w2.heap.size, 0, none⟩ = some (.int .i64 a) := by simp
    have e10 : (((w2.alloc (.cells #[.int .i64 a, .int .i64 b, .int .i64 m] 23)).alloc (.cells #[.int .i64 a, .int .i64 b, .int .i64 m] 23)).drew).cell? ⟨w2.heap.size + 1, 0, none⟩ = some (.int .i64 a) := by simp
    have e01 : (((w2.alloc (.cells #[.int .i64 a, .int .i64 b, .int .i64 m] 23)).alloc (.cells #[.int .i64 a, .int .i64 b, .int .i64 m] 23)).drew).cell? ⟨w2.heap.size, 1, none⟩ = some (.int .i64 b) := by simp
    have e11 : (((w2.alloc (.cells #[.int .i64 a, .int .i64 b, .int .i64 m] 23)).alloc (.cells #[.int .i64 a, .int .i64 b, .int .i64 m] 23)).drew).cell? ⟨w2.heap.size + 1, 1, none⟩ = some (.int .i64 b) := by simp
    have e02 : (((w2.alloc (.cells #[.int .i64 a, .int .i64 b, .int .i64 m] 23)).alloc (.cells #[.int .i64 a, .int .i64 b, .int .i64 m] 23)).drew).cell? ⟨w2.heap.size, 2, none⟩ = some (.int .i64 m) := by simp
    have e12 : (((w2.alloc (.cells #[.int .i64 a, .int .i64 b, .int .i64 m] 23)).alloc (.cells #[.int .i64 a, .int .i64 b, .int .i64 m] 23)).drew).cell? ⟨w2.heap.size + 1, 2, none⟩ = some (.int .i64 m) := by simp
    have f00 : (((w2.alloc (.cells #[.int .i64 a, .int .i64 b, .int .i64 m] 23)).alloc (.cells #[.int .i64 a, .int .i64 b, .int .i64 m] 23)).drew).frozen? ⟨w2.heap.size, 0, none⟩ = false := by simp
    have f10 : (((w2.alloc (.cells #[.int .i64 a, .int .i64 b, .int .i64 m] 23)).alloc (.cells #[.int .i64 a, .int .i64 b, .int .i64 m] 23)).drew).frozen? ⟨w2.heap.size + 1, 0, none⟩ = false := by simp
    have f01 : (((w2.alloc (.cells #[.int .i64 a, .int .i64 b, .int .i64 m] 23)).alloc (.cells #[.int .i64 a, .int .i64 b, .int .i64 m] 23)).drew).frozen? ⟨w2.heap.size, 1, none⟩ = false := by simp
    have f11 : (((w2.alloc (.cells #[.int .i64 a, .int .i64 b, .int .i64 m] 23)).alloc (.cells #[.int .i64 a, .int .i64 b, .int .i64 m] 23)).drew).frozen? ⟨w2.heap.size + 1, 1, none⟩ = false := by simp
    have R3 : Res 6 (w.heap.size + 1) W (((w2.alloc (.cells #[.int .i64 a, .int .i64 b, .int .i64 m] 23)).alloc (.cells #[.int .i64 a, .int .i64 b, .int .i64 m] 23)).drew) := R2.more (R2.pos (by decide)) ((below_alloc2 w2 _ _).drew)
    generalize ((w2.alloc (.cells #[.int .i64 a, .int .i64 b, .int .i64 m] 23)).alloc (.cells #[.int .i64 a, .int .i64 b, .int .i64 m] 23)).drew = V at *
    clear y0 z0 k0 y1 z1 k1 y2 z2 k2 R2 hc0 hc1 hc2 R0
  · have s1 : (V.setCell ⟨w2.heap.size, 1, none⟩ (.int .i64 (day - 1))).cell? ⟨w2.heap.size + 1, 0, none⟩ = some (.int .i64 a) := set_other e10 (by simp)
    have s2 : (V.setCell ⟨w2.heap.size, 1, none⟩ (.int .i64 (day - 1))).frozen? ⟨w2.heap.size + 1, 0, none⟩ = false := by rw [World.frozen?_setCell]; exact f10
    have p0 : ((V.setCell ⟨w2.heap.size, 1, none⟩ (.int .i64 (day - 1))).setCell ⟨w2.heap.size + 1, 0, none⟩ (.int .i64 day)).cell? ⟨w2.heap.size, 0, none⟩ = some (.int .i64 a) := set_other (set_other e00 (by simp)) (by simp)
    have p1 : ((V.setCell ⟨w2.heap.size, 1, none⟩ (.int .i64 (day - 1))).setCell ⟨w2.heap.size + 1, 0, none⟩ (.int .i64 day)).cell? ⟨w2.heap.size, 1, none⟩ = some (.int .i64 (day - 1)) := set_other (set_same e01) (by simp)
    have p2 : ((V.setCell ⟨w2.heap.size, 1, none⟩ (.int .i64 (day - 1))).setCell ⟨w2.heap.size + 1, 0, none⟩ (.int .i64 day)).cell? ⟨w2.heap.size, 2, none⟩ = some (.int .i64 m) := set_other (set_other e02 (by simp)) (by simp)
    have r0 : ((V.setCell ⟨w2.heap.size, 1, none⟩ (.int .i64 (day - 1))).setCell ⟨w2.heap.size + 1, 0, none⟩ (.int .i64 day)).cell? ⟨w2.heap.size + 1, 0, none⟩ = some (.int .i64 day) := set_same s1
    have r1 : ((V.setCell ⟨w2.heap.size, 1, none⟩ (.int .i64 (day - 1))).setCell ⟨w2.heap.size + 1, 0, none⟩ (.int .i64 day)).cell? ⟨w2.heap.size + 1, 1, none⟩ = some (.int .i64 b) := set_other (set_other e11 (by simp)) (by simp)
    have r2 : ((V.setCell ⟨w2.heap.size, 1, none⟩ (.int .i64 (day - 1))).setCell ⟨w2.heap.size + 1, 0, none⟩ (.int .i64 day)).cell? ⟨w2.heap.size + 1, 2, none⟩ = some (.int .i64 m) := set_other (set_other e12 (by simp)) (by simp)
    have R5 : Res 6 (w.heap.size + 1) W ((V.setCell ⟨w2.heap.size, 1, none⟩ (.int .i64 (day - 1))).setCell ⟨w2.heap.size + 1, 0, none⟩ (.int .i64 day)) := R3.up (((Below.refl _ _).setCell (p := ⟨w2.heap.size, 1, none⟩) (show w.heap.size + 1 + 1 ≤ w2.heap.size by omega) _).setCell (p := ⟨w2.heap.size + 1, 0, none⟩) (show w.heap.size + 1 + 1 ≤ w2.heap.size + 1 by omega) _)
    obtain ⟨u0, q0⟩ := R5.cell 0 (by decide)
    have qf0 := R5.frozen 0 (by decide)
    obtain ⟨u1, q1⟩ := R5.cell 1 (by decide)
    have qf1 := R5.frozen 1 (by decide)
    obtain ⟨u2, q2⟩ := R5.cell 2 (by decide)
    have qf2 := R5.frozen 2 (by decide)
    obtain ⟨u3, q3⟩ := R5.cell 3 (by decide)
    have qf3 := R5.frozen 3 (by decide)
    obtain ⟨u4, q4⟩ := R5.cell 4 (by decide)
    have qf4 := R5.frozen 4 (by decide)
    obtain ⟨u5, q5⟩ := R5.cell 5 (by decide)
    have qf5 := R5.frozen 5 (by decide)
    go_wp2_with fail
    exact bodyPost_ret (v := .tuple #[.agg #[.int .i64 a, .int .i64 (day - 1), .int .i64 m, .int .i64 day, .int .i64 b, .int .i64 m], .int .i64 0]) (by simp [results, Tryd.results14, go_sem, q0, q1, q2, q3, q4, q5]) rfl ⟨rfl, hb0.trans (((((((R5.set 0 _).set 1 _).set 2 _).set 3 _).set 4 _).set 5 _).below.mono (by omega))⟩
  · have s1 : (V.setCell ⟨w2.heap.size + 1, 1, none⟩ (.int .i64 (day - 1))).cell? ⟨w2.heap.size, 0, none⟩ = some (.int .i64 a) := set_other e00 (by simp)
    have s2 : (V.setCell ⟨w2.heap.size + 1, 1, none⟩ (.int .i64 (day - 1))).frozen? ⟨w2.heap.size, 0, none⟩ = false := by rw [World.frozen?_setCell]; exact f00
    have p0 : ((V.setCell ⟨w2.heap.size + 1, 1, none⟩ (.int .i64 (day - 1))).setCell ⟨w2.heap.size, 0, none⟩ (.int .i64 day)).cell? ⟨w2.heap.size + 1, 0, none⟩ = some (.int .i64 a) := set_other (set_other e10 (by simp)) (by simp)
    have p1 : ((V.setCell ⟨w2.heap.size + 1, 1, none⟩ (.int .i64 (day - 1))).setCell ⟨w2.heap.size, 0, none⟩ (.int .i64 day)).cell? ⟨w2.heap.size + 1, 1, none⟩ = some (.int .i64 (day - 1)) := set_other (set_same e11) (by simp)
    have p2 : ((V.setCell ⟨w2.heap.size + 1, 1, none⟩ (.int .i64 (day - 1))).setCell ⟨w2.heap.size, 0, none⟩ (.int .i64 day)).cell? ⟨w2.heap.size + 1, 2, none⟩ = some (.int .i64 m) := set_other (set_other e12 (by simp)) (by simp)
    have r0 : ((V.setCell ⟨w2.heap.size + 1, 1, none⟩ (.int .i64 (day - 1))).setCell ⟨w2.heap.size, 0, none⟩ (.int .i64 day)).cell? ⟨w2.heap.size, 0, none⟩ = some (.int .i64 day) := set_same s1
    have r1 : ((V.setCell ⟨w2.heap.size + 1, 1, none⟩ (.int .i64 (day - 1))).setCell ⟨w2.heap.size, 0, none⟩ (.int .i64 day)).cell? ⟨w2.heap.size, 1, none⟩ = some (.int .i64 b) := set_other (set_other e01 (by simp)) (by simp)
    have r2 : ((V.setCell ⟨w2.heap.size + 1, 1, none⟩ (.int .i64 (day - 1))).setCell ⟨w2.heap.size, 0, none⟩ (.int .i64 day)).cell? ⟨w2.heap.size, 2, none⟩ = some (.int .i64 m) := set_other (set_other e02 (by simp)) (by simp)
    have R5 : Res 6 (w.heap.size + 1) W ((V.setCell ⟨w2.heap.size + 1, 1, none⟩ (.int .i64 (day - 1))).setCell ⟨w2.heap.size, 0, none⟩ (.int .i64 day)) := R3.up (((Below.refl _ _).setCell (p := ⟨w2.heap.size + 1, 1, none⟩) (show w.heap.size + 1 + 1 ≤ w2.heap.size + 1 by omega) _).setCell (p := ⟨w2.heap.size, 0, none⟩) (show w.heap.size + 1 + 1 ≤ w2.heap.size by omega) _)
    obtain ⟨u0, q0⟩ := R5.cell 0 (by decide)
    have qf0 := R5.frozen 0 (by decide)
    obtain ⟨u1, q1⟩ := R5.cell 1 (by decide)
    have qf1 := R5.frozen 1 (by decide)
    obtain ⟨u2, q2⟩ := R5.cell 2 (by decide)
    have qf2 := R5.frozen 2 (by decide)
    obtain ⟨u3, q3⟩ := R5.cell 3 (by decide)
    have qf3 := R5.frozen 3 (by decide)
    obtain ⟨u4, q4⟩ := R5.cell 4 (by decide)
    have qf4 := R5.frozen 4 (by decide)
    obtain ⟨u5, q5⟩ := R5.cell 5 (by decide)
    have qf5 := R5.frozen 5 (by decide)
    go_wp2_with fail
    exact bodyPost_ret (v := .tuple #[.agg #[.int .i64 a, .int .i64 (day - 1), .int .i64 m, .int .i64 day, .int .i64 b, .int .i64 m], .int .i64 0]) (by simp [results, Tryd.results14, go_sem, q0, q1, q2, q3, q4, q5]) rfl ⟨rfl, hb0.trans (((((((R5.set 0 _).set 1 _).set 2 _).set 3 _).set 4 _).set 5 _).below.mono (by omega))⟩
end Go.Proofs.YtijnabgehlkghaaDoor
