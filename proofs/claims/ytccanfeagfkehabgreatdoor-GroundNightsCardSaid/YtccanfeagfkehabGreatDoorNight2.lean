
/- Contracts of package ground: the night of a moment; of the reference: the same. -/
import Derived.Test.YtccanfeagfkehabGreatDoorNight
namespace Go.Proofs.YtccanfeagfkehabGreatDoor
open Go Go.RowKit
def nBd (f t m : Int) : Prop := 0 ≤ f ∧ f ≤ 1439 ∧ 0 ≤ t ∧ t ≤ 1439 ∧ 0 ≤ m ∧ m ≤ 143999999
theorem nightOf_any (f t m : Int) (w : World) (hb : nBd f t m) :
    Calls Tryz.prog 36 #[.agg #[.int .i64 f, .int .i64 t], .int .i64 m] w fun r w' => r = .returned (.tuple #[.int .i64 (nDay f t m), .bool (nIs f t m)]) ∧ Below w.heap.size w w' := by
  obtain ⟨W, HW, hb0, hc0, hc1⟩ : ∃ W, Hid (w.alloc (.cells #[.int .i64 f, .int .i64 t] 23) = W) ∧ Below w.heap.size w W ∧ W.cell? ⟨w.heap.size, 0, none⟩ = some (.int .i64 f) ∧ W.cell? ⟨w.heap.size, 1, none⟩ = some (.int .i64 t) := ⟨_, Lib.hid rfl, below_alloc w _, by simp, by simp⟩
  obtain ⟨hf1, hf2, ht1, ht2, hm1, hm2⟩ := hb
  have k0 : ∀ x : KeptW W, x.v.cell? ⟨w.heap.size, 0, none⟩ = some (.int .i64 f) := fun x => x.cell hc0
  have k1 : ∀ x : KeptW W, x.v.cell? ⟨w.heap.size, 1, none⟩ = some (.int .i64 t) := fun x => x.cell hc1
  have hne : Nonempty (KeptW W) := ⟨⟨W, Below.refl _ _⟩⟩
  by_cases h1 : f < t
  · by_cases h2 : f ≤ m % 1440
    · have HD : Hid (nDay f t m = m / 1440 ∧ nIs f t m = decide (m % 1440 < t)) := Lib.hid ⟨by simp [nDay, h1], by simp [nIs, h1, h2]⟩
      go_enter Tryz.func36, Tryz.ntmps36
      go_wp2_with fail
      rw [HW.out]
      go_wp2_with fail
      refine region_kept (by kernel_rfl) (by kernel_rfl) ?_
      iterate 13 (go_big_quiet_step (fail))
      refine wpQuiet_nil ?_
      rintro _ ⟨x, rfl⟩
      have hbx := b_then hb0 x.below
      go_wp2_with fail
      go_ret2
      exact ⟨by rw [HD.out.1, HD.out.2]; rfl, hbx⟩
    · have HD : Hid (nDay f t m = m / 1440 ∧ nIs f t m = false) := Lib.hid ⟨by simp [nDay, h1], by simp [nIs, h1, h2]⟩
      have b2 : decide (f ≤ m % 1440) = false := decide_eq_false h2
      have h2' : m % 1440 < f := by omega
      go_enter Tryz.func36, Tryz.ntmps36
      go_wp2_with fail
      rw [HW.out]
      go_wp2_with fail
      refine region_kept (by kernel_rfl) (by kernel_rfl) ?_
      iterate 13 (go_big_quiet_step (fail))
      refine wpQuiet_nil ?_
      rintro _ ⟨x, rfl⟩
      have hbx := b_then hb0 x.below
      go_wp2_with fail
      go_ret2
      exact ⟨by rw [HD.out.1, HD.out.2]; rfl, hbx⟩
  · by_cases h2 : f ≤ m % 1440
    · have HD : Hid (nDay f t m = m / 1440 ∧ nIs f t m = true) := Lib.hid ⟨by simp [nDay, h1, h2], by simp [nIs, h1, h2]⟩
      go_enter Tryz.func36, Tryz.ntmps36
      go_wp2_with fail
      rw [HW.out]
      go_wp2_with fail
      go_ret2
      exact ⟨by rw [HD.out.1, HD.out.2]; rfl, hb0⟩
    · by_cases h3 : m % 1440 < t
      · have HD : Hid (nDay f t m = m / 1440 - 1 ∧ nIs f t m = decide (0 < m / 1440)) := Lib.hid ⟨by simp [nDay, h1, h2], by simp [nIs, h1, h2, h3]⟩
        go_enter Tryz.func36, Tryz.ntmps36
        go_wp2_with fail
        rw [HW.out]
        go_wp2_with fail
        go_ret2
        exact ⟨by rw [HD.out.1, HD.out.2]; rfl, hb0⟩
      · have HD : Hid (nDay f t m = m / 1440 - 1 ∧ nIs f t m = false) := Lib.hid ⟨by simp [nDay, h1, h2], by simp [nIs, h1, h2, h3]⟩
        go_enter Tryz.func36, Tryz.ntmps36
        go_wp2_with fail
        rw [HW.out]
        go_wp2_with fail
        go_ret2
        exact ⟨by rw [HD.out.1, HD.out.2]; rfl, hb0⟩
end Go.Proofs.YtccanfeagfkehabGreatDoor
