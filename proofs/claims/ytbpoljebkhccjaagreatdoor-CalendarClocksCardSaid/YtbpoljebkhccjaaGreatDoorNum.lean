/- Contracts: the statements' small tests of a result and an error; the error side of Date and PrintDate. -/
import Derived.Test.YtbpoljebkhccjaaGreatDoorPrint2
import Derived.Test.YtbpoljebkhccjaaGreatDoorYears0
namespace Go.Proofs.YtbpoljebkhccjaaGreatDoor
open Go Go.RowKit
theorem number_bad (bad u : Int) (w : World) (h : bad ≠ 0) :
    Calls Tryz.prog 12 #[.int .i64 0, .int .i64 bad, .int .i64 bad, .int .i64 u] w fun r w' => r = .returned (.bool true) ∧ w' = w := by
  have hb : (bad != 0) = true := by simpa using h
  clear h
  go_enter Tryz.func12, Tryz.ntmps12
  go_wp2_with fail
  go_ret
  exact ⟨rfl, rfl⟩
theorem number_ok (v : Int) (w : World) :
    Calls Tryz.prog 12 #[.int .i64 v, .int .i64 0, .int .i64 0, .int .i64 v] w fun r w' => r = .returned (.bool true) ∧ w' = w := by
  go_enter Tryz.func12, Tryz.ntmps12
  go_wp2_with fail
  go_ret
  exact ⟨rfl, rfl⟩
theorem text_bad (bad : Int) (s : ByteArray) (w : World) (h : bad ≠ 0) :
    Calls Tryz.prog 18 #[.string ⟨#[]⟩, .int .i64 bad, .int .i64 bad, .string s] w fun r w' => r = .returned (.bool true) ∧ w' = w := by
  have hb : (bad != 0) = true := by simpa using h
  clear h
  go_enter Tryz.func18, Tryz.ntmps18
  go_wp2_with fail
  go_ret
  exact ⟨rfl, rfl⟩
theorem text_ok (s : ByteArray) (w : World) :
    Calls Tryz.prog 18 #[.string s, .int .i64 0, .int .i64 0, .string s] w fun r w' => r = .returned (.bool true) ∧ w' = w := by
  go_enter Tryz.func18, Tryz.ntmps18
  go_wp2_with fail
  go_ret
  exact ⟨rfl, rfl⟩
set_option maxRecDepth 100000 in
theorem Date_bad (d : Int) (w : World) (h : ¬ (0 ≤ d ∧ d ≤ 99999)) :
    Calls Tryz.prog 14 #[.int .i64 d] w fun r w' => r = .returned (.tuple #[.agg #[.int .i64 0, .int .i64 0, .int .i64 0], .int .i64 3]) ∧ Below w.heap.size w w' := by
  have HR : Hid (rng d 0 99999 = 3) := Lib.hid (rng_bad h)
  clear h
  obtain ⟨W, HW, hb0, R0⟩ : ∃ W, Hid (w.alloc (.cells #[.int .i64 0, .int .i64 0, .int .i64 0] 22) = W) ∧ Below w.heap.size w W ∧ Res 3 w.heap.size W W := ⟨_, Lib.hid rfl, below_alloc w _, res3 w 0 0 0 _⟩
  go_enter Tryz.func14, Tryz.ntmps14
  go_wp2_with fail
  rw [HW.out]
  refine (checkDay_any _ _).mono ?_
  rintro e w1 ⟨rfl, hw⟩
  rw [hw, HR.out]
  clear hw
  obtain ⟨v0, q0⟩ := R0.cell 0 (by decide)
  obtain ⟨v1, q1⟩ := R0.cell 1 (by decide)
  obtain ⟨v2, q2⟩ := R0.cell 2 (by decide)
  have f0 := R0.frozen 0 (by decide)
  have f1 := R0.frozen 1 (by decide)
  have f2 := R0.frozen 2 (by decide)
  have RF := ((R0.set 0 (.int .i64 0)).set 1 (.int .i64 0)).set 2 (.int .i64 0)
  go_wp2_with fail
  exact bodyPost_ret (v := .tuple #[.agg #[.int .i64 0, .int .i64 0, .int .i64 0], .int .i64 3]) (by simp [results, Tryz.results14, go_sem, q0, q1, q2]) rfl ⟨rfl, hb0.trans RF.below⟩
theorem PrintDate_bad (d : Int) (w : World) (h : ¬ (0 ≤ d ∧ d ≤ 99999)) :
    Calls Tryz.prog 16 #[.int .i64 d] w fun r w' => r = .returned (.tuple #[.string ⟨#[]⟩, .int .i64 3]) ∧ w' = w := by
  have HR : Hid (rng d 0 99999 = 3) := Lib.hid (rng_bad h)
  clear h
  go_enter Tryz.func16, Tryz.ntmps16
  go_wp2_with fail
  refine (checkDay_any _ _).mono ?_
  rintro e w1 ⟨rfl, hw⟩
  rw [hw, HR.out]
  clear hw
  go_wp2_with fail
  exact bodyPost_ret (v := .tuple #[.string ⟨#[]⟩, .int .i64 3]) (by simp [results, Tryz.results16, go_sem]) rfl ⟨rfl, rfl⟩
end Go.Proofs.YtbpoljebkhccjaaGreatDoor
