
/- Contracts of the reference: ranges, moments, seasons (for seats without the reference's other functions). -/
import Derived.Test.YtccanfeagfkehabGreatDoorSeason
namespace Go.Proofs.YtccanfeagfkehabGreatDoor
open Go Go.RowKit
theorem gRange_any (n a b : Int) (w : World) :
    Calls Tryz.prog 34 #[.int .i64 n, .int .i64 a, .int .i64 b] w fun r w' => r = .returned (.int .i64 (rng n a b)) ∧ w' = w := by
  by_cases h1 : n < a
  · have H : Hid (rng n a b = 3) := Lib.hid (by unfold rng; rw [if_neg (by omega)])
    go_enter Tryz.func34, Tryz.ntmps34
    go_wp2_with fail
    go_ret
    exact ⟨by rw [H.out]; rfl, rfl⟩
  · by_cases h2 : b < n
    · have H : Hid (rng n a b = 3) := Lib.hid (by unfold rng; rw [if_neg (by omega)])
      go_enter Tryz.func34, Tryz.ntmps34
      go_wp2_with fail
      go_ret
      exact ⟨by rw [H.out]; rfl, rfl⟩
    · have H : Hid (rng n a b = 0) := Lib.hid (by unfold rng; rw [if_pos (by omega)])
      go_enter Tryz.func34, Tryz.ntmps34
      go_wp2_with fail
      go_ret
      exact ⟨by rw [H.out]; rfl, rfl⟩
theorem gMoment_any (d : Int) (w : World) :
    Calls Tryz.prog 11 #[.int .i64 d] w fun r w' => r = .returned (.int .i64 (rng d 0 143999999)) ∧ w' = w := by
  go_enter Tryz.func11, Tryz.ntmps11
  go_wp2_with (go_at_call 34; refine (gRange_any _ _ _ _).mono ?_; rintro e w' ⟨rfl, rfl⟩)
  go_ret
  exact ⟨rfl, rfl⟩
set_option maxRecDepth 100000 in
theorem gCheckSeason_any (y : Int) (s : ByteArray) (w : World) :
    Calls Tryz.prog 33 #[.agg #[.int .i64 y, .string s]] w fun r w' => r = .returned (.int .i64 (seasonErr y s)) ∧ Below w.heap.size w w' := by
  obtain ⟨W, HW, hb0, hc0, hc1⟩ : ∃ W, Hid (w.alloc (.cells #[.int .i64 y, .string s] 33) = W) ∧ Below w.heap.size w W ∧ W.cell? ⟨w.heap.size, 0, none⟩ = some (.int .i64 y) ∧ W.cell? ⟨w.heap.size, 1, none⟩ = some (.string s) := ⟨_, Lib.hid rfl, below_alloc w _, by simp, by simp⟩
  by_cases hy : 2000 ≤ y ∧ y ≤ 2272
  · have HR : Hid (rng y 2000 2272 = 0) := Lib.hid (rng_ok hy.1 hy.2)
    cases h1 : (s.toList == [83])
    · cases h2 : (s.toList == [87])
      · have HK : Hid (seasonErr y s = 13) := Lib.hid (by simp [seasonErr, fst, HR.out, kindErr, isS, isW, h1, h2])

        go_enter Tryz.func33, Tryz.ntmps33
        go_wp2_with fail
        rw [HW.out]
        refine (gRange_any _ _ _ _).mono ?_
        rintro e w2 ⟨rfl, hw⟩
        rw [hw, HR.out]
        clear hw
        go_wp2_with fail
        go_ret
        exact ⟨by rw [HK.out]; rfl, hb0⟩
      · have HK : Hid (seasonErr y s = 0) := Lib.hid (by simp [seasonErr, fst, HR.out, kindErr, isS, isW, h1, h2])
        go_enter Tryz.func33, Tryz.ntmps33
        go_wp2_with fail
        rw [HW.out]
        refine (gRange_any _ _ _ _).mono ?_
        rintro e w2 ⟨rfl, hw⟩
        rw [hw, HR.out]
        clear hw
        go_wp2_with fail
        go_ret
        exact ⟨by rw [HK.out]; rfl, hb0⟩
    · have HK : Hid (seasonErr y s = 0) := Lib.hid (by simp [seasonErr, fst, HR.out, kindErr, isS, h1])
      go_enter Tryz.func33, Tryz.ntmps33
      go_wp2_with fail
      rw [HW.out]
      refine (gRange_any _ _ _ _).mono ?_
      rintro e w2 ⟨rfl, hw⟩
      rw [hw, HR.out]
      clear hw
      go_wp2_with fail
      go_ret
      exact ⟨by rw [HK.out]; rfl, hb0⟩
  · have HR : Hid (rng y 2000 2272 = 3) := Lib.hid (rng_bad hy)
    have HK : Hid (seasonErr y s = 3) := Lib.hid (by simp [seasonErr, fst, HR.out])
    go_enter Tryz.func33, Tryz.ntmps33
    go_wp2_with fail
    rw [HW.out]
    refine (gRange_any _ _ _ _).mono ?_
    rintro e w2 ⟨rfl, hw⟩
    rw [hw, HR.out]
    clear hw
    go_wp2_with fail
    go_ret
    exact ⟨by rw [HK.out]; rfl, hb0⟩
end Go.Proofs.YtccanfeagfkehabGreatDoor
