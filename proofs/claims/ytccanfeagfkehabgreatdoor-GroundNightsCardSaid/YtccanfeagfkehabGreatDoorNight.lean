
/- Contracts of package ground: nights and quotas; of the reference: the same. -/
import Derived.Test.YtccanfeagfkehabGreatDoorSeason
import Derived.Test.YtccanfeagfkehabGreatDoorKept
namespace Go.Proofs.YtccanfeagfkehabGreatDoor
open Go Go.RowKit
theorem Minute_any (n : Int) (w : World) : Calls Tryz.prog 59 #[.int .i64 n] w fun r w' => r = .returned (.int .i64 (rng n 0 1439)) ∧ w' = w := by
  go_enter Tryz.func59, Tryz.ntmps59
  go_wp2_with fail
  refine (checkRange_any _ _ _ _).mono ?_
  rintro e w' ⟨rfl, rfl⟩
  go_wp2_with fail
  go_ret
  exact ⟨rfl, rfl⟩
/-- The error of a night. -/
def nightErr (f t : Int) : Int := fst [rng f 0 1439, rng t 0 1439, unl (f != t) 11]
theorem checkNight_any (f t : Int) (w : World) : Calls Tryz.prog 29 #[.agg #[.int .i64 f, .int .i64 t]] w fun r w' => r = .returned (.int .i64 (nightErr f t)) ∧ Below w.heap.size w w' := by
  obtain ⟨W, HW, hb0, hc0, hc1⟩ : ∃ W, Hid (w.alloc (.cells #[.int .i64 f, .int .i64 t] 23) = W) ∧ Below w.heap.size w W ∧ W.cell? ⟨w.heap.size, 0, none⟩ = some (.int .i64 f) ∧ W.cell? ⟨w.heap.size, 1, none⟩ = some (.int .i64 t) := ⟨_, Lib.hid rfl, below_alloc w _, by simp, by simp⟩
  go_enter Tryz.func29, Tryz.ntmps29
  go_wp2_with fail
  rw [HW.out]
  have k0 : ∀ x : KeptW W, x.v.cell? ⟨w.heap.size, 0, none⟩ = some (.int .i64 f) := fun x => x.cell hc0
  have k1 : ∀ x : KeptW W, x.v.cell? ⟨w.heap.size, 1, none⟩ = some (.int .i64 t) := fun x => x.cell hc1
  have hne : Nonempty (KeptW W) := ⟨⟨W, Below.refl _ _⟩⟩
  refine tail_kept 12 (by kernel_rfl) (by kernel_rfl) ?_
  simp only [List.take_succ_cons, List.take_zero, List.drop_succ_cons, List.drop_zero]
  iterate 2 (go_big_quiet_step (fail))
  go_big_quiet_step (exact KeptW.calls_same (Minute_any _ _))
  iterate 2 (go_big_quiet_step (fail))
  go_big_quiet_step (exact KeptW.calls_same (Minute_any _ _))
  iterate 5 (go_big_quiet_step (fail))
  go_big_quiet_step (exact KeptW.calls_same (unless_any _ _ _))
  refine wpQuiet_nil ?_
  rintro _ ⟨x, rfl⟩
  have hbx := b_then hb0 x.below
  clear k0 k1 hc0 hc1 hb0
  go_wp2_with fail
  refine (fe_new [_, _, _] _ _ _ _ _ rfl rfl (by simp)).mono ?_
  rintro e2 w2 ⟨rfl, hw⟩
  have hb2 : Below w.heap.size w w2 := by rw [hw]; exact b_then hbx (below_alloc _ _)
  clear hw
  go_wp2_with fail
  go_ret
  exact ⟨rfl, hb2⟩
/-- The error of a quota. -/
def quotaErr (f t y : Int) (s : ByteArray) (c p : Int) : Int := fst [nightErr f t, seasonErr y s, rng c 0 100000, rng p 0 100000]
theorem CheckQuota_any (f t y : Int) (s : ByteArray) (c p : Int) (w : World) :
    Calls Tryz.prog 5 #[.agg #[.int .i64 f, .int .i64 t, .int .i64 y, .string s, .int .i64 c, .int .i64 p]] w fun r w' => r = .returned (.int .i64 (quotaErr f t y s c p)) ∧ Below w.heap.size w w' := by
  obtain ⟨W, HW, hb0, hc⟩ : ∃ W, Hid (w.alloc (.cells #[.int .i64 f, .int .i64 t, .int .i64 y, .string s, .int .i64 c, .int .i64 p] 27) = W) ∧ Below w.heap.size w W ∧
      (W.cell? ⟨w.heap.size, 0, none⟩ = some (.int .i64 f) ∧ W.cell? ⟨w.heap.size, 1, none⟩ = some (.int .i64 t) ∧ W.cell? ⟨w.heap.size, 2, none⟩ = some (.int .i64 y) ∧ W.cell? ⟨w.heap.size, 3, none⟩ = some (.string s) ∧ W.cell? ⟨w.heap.size, 4, none⟩ = some (.int .i64 c) ∧ W.cell? ⟨w.heap.size, 5, none⟩ = some (.int .i64 p)) :=
    ⟨_, Lib.hid rfl, below_alloc w _, by simp, by simp, by simp, by simp, by simp, by simp⟩
  obtain ⟨hc0, hc1, hc2, hc3, hc4, hc5⟩ := hc
  go_enter Tryz.func5, Tryz.ntmps5
  go_wp2_with fail
  rw [HW.out]
  have k0 : ∀ x : KeptW W, x.v.cell? ⟨w.heap.size, 0, none⟩ = some (.int .i64 f) := fun x => x.cell hc0
  have k1 : ∀ x : KeptW W, x.v.cell? ⟨w.heap.size, 1, none⟩ = some (.int .i64 t) := fun x => x.cell hc1
  have k2 : ∀ x : KeptW W, x.v.cell? ⟨w.heap.size, 2, none⟩ = some (.int .i64 y) := fun x => x.cell hc2
  have k3 : ∀ x : KeptW W, x.v.cell? ⟨w.heap.size, 3, none⟩ = some (.string s) := fun x => x.cell hc3
  have k4 : ∀ x : KeptW W, x.v.cell? ⟨w.heap.size, 4, none⟩ = some (.int .i64 c) := fun x => x.cell hc4
  have k5 : ∀ x : KeptW W, x.v.cell? ⟨w.heap.size, 5, none⟩ = some (.int .i64 p) := fun x => x.cell hc5
  have hne : Nonempty (KeptW W) := ⟨⟨W, Below.refl _ _⟩⟩
  refine tail_kept 12 (by kernel_rfl) (by kernel_rfl) ?_
  simp only [List.take_succ_cons, List.take_zero, List.drop_succ_cons, List.drop_zero]
  iterate 2 (go_big_quiet_step (fail))
  go_big_quiet_step (exact KeptW.calls (checkNight_any _ _ _))
  iterate 2 (go_big_quiet_step (fail))
  go_big_quiet_step (exact KeptW.calls (CheckSeason_any _ _ _))
  iterate 2 (go_big_quiet_step (fail))
  go_big_quiet_step (exact KeptW.calls_same (checkRange_any _ _ _ _))
  iterate 2 (go_big_quiet_step (fail))
  go_big_quiet_step (exact KeptW.calls_same (checkRange_any _ _ _ _))
  refine wpQuiet_nil ?_
  rintro _ ⟨x, rfl⟩
  have hbx := b_then hb0 x.below
  clear k0 k1 k2 k3 k4 k5 hc0 hc1 hc2 hc3 hc4 hc5 hb0
  go_wp2_with fail
  refine (fe_new [_, _, _, _] _ _ _ _ _ rfl rfl (by simp)).mono ?_
  rintro e2 w2 ⟨rfl, hw⟩
  have hb2 : Below w.heap.size w w2 := by rw [hw]; exact b_then hbx (below_alloc _ _)
  clear hw
  go_wp2_with fail
  go_ret
  exact ⟨rfl, hb2⟩
/-- The day of the night in which a moment is, and whether there is one. -/
def nDay (f t m : Int) : Int := if f < t then m / 1440 else if f ≤ m % 1440 then m / 1440 else m / 1440 - 1
def nIs (f t m : Int) : Bool := if f < t then decide (f ≤ m % 1440 ∧ m % 1440 < t) else if f ≤ m % 1440 then true else decide (m % 1440 < t ∧ 0 < m / 1440)
end Go.Proofs.YtccanfeagfkehabGreatDoor
