/- The walk of CalendarTexts. -/
import Derived.Test.YtbpoljebkhccjaaGreatDoorAwake
import Derived.Test.YtbpoljebkhccjaaGreatDoorNum
import Derived.Test.YtbpoljebkhccjaaGreatDoorQName
import Derived.Test.YtbpoljebkhccjaaGreatDoorRMask
import Derived.Test.YtbpoljebkhccjaaGreatDoorQDate
namespace Go.Proofs.YtbpoljebkhccjaaGreatDoor
open Go Go.RowKit
theorem num_is (bad v : Int) : ∃ X, Hid (num2 bad v = .tuple #[.int .i64 X, .int .i64 bad]) ∧ Hid (∀ w, Calls Tryz.prog 12 #[.int .i64 X, .int .i64 bad, .int .i64 bad, .int .i64 X] w fun r w' => r = .returned (.bool true) ∧ w' = w) := by
  by_cases h : bad = 0
  · subst h
    exact ⟨v, Lib.hid rfl, Lib.hid fun w => number_ok v w⟩
  · exact ⟨0, Lib.hid (num2_bad _ h), Lib.hid fun w => number_bad bad 0 w h⟩
theorem pm_num (s : ByteArray) (w : World) : Calls Tryz.prog 12 #[.int .i64 (pmV s : Nat), .int .i64 (pmErr s), .int .i64 (pmErr s), .int .i64 (pmV s : Nat)] w fun r w' => r = .returned (.bool true) ∧ w' = w := by
  by_cases h : pmV s = 0
  · unfold pmErr
    rw [if_pos h, h]
    exact number_bad 25 0 w (by decide)
  · unfold pmErr
    rw [if_neg h]
    exact number_ok _ w
set_option maxRecDepth 100000 in
set_option maxHeartbeats 4000000 in
theorem Texts_true (s : ByteArray) (mask : Int) (w : World) (hl : Ev.Reads lst w) :
    Calls Tryz.prog 4 #[.string s, .int .i64 mask] w (IsTrue w) := by
  have HL := Lib.hid hl
  clear hl
  go_enter Tryz.func4, Tryz.ntmps4
  go_wp2_with fail
  refine (awake_true _ HL.out).mono ?_
  rintro e w1 ⟨rfl, hb1⟩
  by_cases h60 : s.size ≤ 60
  · have hd : decide ((60 : Int) < s.size) = false := decide_eq_false (by omega)
    clear h60
    go_wp2_with fail
    refine (ParseDate_any s _ (reads_tab (reads_below HL.out hb1))).mono ?_
    rintro e w2 ⟨rfl, hb⟩
    have hb2 := b_then hb1 hb
    clear hb hb1
    obtain ⟨X, HX, HNUM⟩ := num_is (pdErr s) (pdVal s)
    rw [HX.out]
    go_wp2_with fail
    refine (qParseDate_any s _).mono ?_
    rintro e w3 ⟨rfl, hb⟩
    have hb3 := b_then hb2 hb
    clear hb hb2
    rw [HX.out]
    clear HX
    generalize pdErr s = PE at *
    go_wp2_with fail
    refine (ParseMask_any s _).mono ?_
    rintro e w4 ⟨rfl, hb⟩
    have hb4 := b_then hb3 hb
    clear hb hb3
    go_wp2_with fail
    refine (qParseMask_any s _).mono ?_
    rintro e w5 ⟨rfl, hw⟩
    rw [hw]
    clear hw
    have HPM := Lib.hid (pm_num s)
    generalize pmErr s = ME at *
    generalize ((pmV s : Nat) : Int) = MV at *
    go_wp2_with fail
    have hcase : ∃ (t : ByteArray) (E : Int) (u : ByteArray), Hid (∀ w, Calls Tryz.prog 26 #[.int .i64 mask] w fun r w' => r = .returned (.tuple #[.string t, .int .i64 E]) ∧ Below w.heap.size w w') ∧ Hid (rng mask 1 127 = E) ∧
        ((E = 3 ∧ t = ⟨#[]⟩ ∧ u = ⟨#[]⟩) ∨ (E = 0 ∧ u = t ∧ Hid (∀ w, Calls Tryz.prog 28 #[.int .i64 mask] w fun r w' => r = .returned (.string t) ∧ w' = w))) := by
      by_cases hm : 1 ≤ mask ∧ mask ≤ 127
      · obtain ⟨n, rfl⟩ := Int.eq_ofNat_of_zero_le (show 0 ≤ mask by omega)
        exact ⟨maskT n, 0, maskT n, Lib.hid (fun w => PrintMask_ok n w (by omega) (by omega)), Lib.hid (rng_ok hm.1 hm.2), .inr ⟨rfl, rfl, Lib.hid (fun w => qPrintMask_any n w (by omega))⟩⟩
      · exact ⟨⟨#[]⟩, 3, ⟨#[]⟩, Lib.hid (fun w => (PrintMask_bad mask w hm).mono fun _ _ h => ⟨h.1, h.2 ▸ Below.refl _ _⟩), Lib.hid (rng_bad hm), .inl ⟨rfl, rfl, rfl⟩⟩
    obtain ⟨t, E, u, HP, HR, hc⟩ := hcase
    refine (HP.out _).mono ?_
    rintro e w6 ⟨rfl, hb⟩
    have hb6 := b_then hb4 hb
    clear hb hb4 HP
    go_wp2_with fail
    refine (qRange_any _ _ _ _).mono ?_
    rintro e w7 ⟨rfl, hw⟩
    rw [hw, HR.out]
    clear hw HR
    rcases hc with ⟨rfl, rfl, -⟩ | ⟨rfl, -, HQ⟩
    · go_wp2_with fail
      refine (text_bad _ _ _ (by decide)).mono ?_
      rintro e w7 ⟨rfl, hw⟩
      rw [hw]
      clear hw
      go_wp2_with fail
      refine (cIsName_any s _).mono ?_
      rintro e w8 ⟨rfl, hb⟩
      have hb8 := b_then hb6 hb
      clear hb hb6
      go_wp2_with fail
      refine (qIsName_any s _).mono ?_
      rintro e w9 ⟨rfl, hb⟩
      have hb9 := b_then hb8 hb
      clear hb hb8
      have hbb : (decide (isName s) == decide (isName s)) = true := by simp
      generalize decide (isName s) = NB at *
      go_wp2_with fail
      refine (HNUM.out _).mono ?_
      rintro e w10 ⟨rfl, hw⟩
      rw [hw]
      clear hw
      go_wp2_with fail
      refine (HPM.out _).mono ?_
      rintro e w10 ⟨rfl, hw⟩
      rw [hw]
      clear hw
      go_wp2_with fail
      go_ret
      exact ⟨rfl, hb9⟩
    · go_wp2_with fail
      refine (HQ.out _).mono ?_
      rintro e w7 ⟨rfl, hw⟩
      rw [hw]
      clear hw
      go_wp2_with fail
      refine (text_ok _ _).mono ?_
      rintro e w7 ⟨rfl, hw⟩
      rw [hw]
      clear hw
      go_wp2_with fail
      refine (cIsName_any s _).mono ?_
      rintro e w8 ⟨rfl, hb⟩
      have hb8 := b_then hb6 hb
      clear hb hb6
      go_wp2_with fail
      refine (qIsName_any s _).mono ?_
      rintro e w9 ⟨rfl, hb⟩
      have hb9 := b_then hb8 hb
      clear hb hb8
      have hbb : (decide (isName s) == decide (isName s)) = true := by simp
      generalize decide (isName s) = NB at *
      go_wp2_with fail
      refine (HNUM.out _).mono ?_
      rintro e w10 ⟨rfl, hw⟩
      rw [hw]
      clear hw
      go_wp2_with fail
      refine (HPM.out _).mono ?_
      rintro e w10 ⟨rfl, hw⟩
      rw [hw]
      clear hw
      go_wp2_with fail
      go_ret
      exact ⟨rfl, hb9⟩
  · have hd : decide ((60 : Int) < s.size) = true := decide_eq_true (by omega)
    clear h60
    go_wp2_with fail
    refine (awake_true _ (reads_below HL.out hb1)).mono ?_
    rintro e w2 ⟨rfl, hb⟩
    have hb2 := b_then hb1 hb
    go_wp2_with fail
    go_ret
    exact ⟨rfl, hb2⟩
end Go.Proofs.YtbpoljebkhccjaaGreatDoor
