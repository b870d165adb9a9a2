
/- Contracts of the functions of package calendar that count days. -/
import Derived.Test.YtccanfeagfkehabGreatDoorBase
import Derived.Test.YtccanfeagfkehabGreatDoorMath
import Derived.Below
namespace Go.Proofs.YtccanfeagfkehabGreatDoor
open Go.RowKit
/-- What the table of the lengths of months holds. -/
def HeldTab (w : World) : Prop := ∀ i : Nat, i < 12 → w.cell? ⟨0, i, none⟩ = some (.int .i64 (Cal.tab.getD i 0))

theorem leapYears_any (y : Int) (w : World) (h1 : 1 ≤ y) (h2 : y ≤ 3000) :
    Calls Tryz.prog 145 #[.int .i64 y] w fun r w' => r = .returned (.int .i64 (Cal.lp y)) ∧ w' = w := by
  go_enter Tryz.func145, Tryz.ntmps145
  go_wp2
  go_ret
  exact ⟨ret_int (by unfold Cal.lp; rfl), rfl⟩

theorem daysBefore_any (y : Int) (w : World) (h1 : 2000 ≤ y) (h2 : y ≤ 2900) :
    Calls Tryz.prog 143 #[.int .i64 y] w fun r w' => r = .returned (.int .i64 (Cal.db y)) ∧ w' = w := by
  have hb := Cal.lp_bd (y - 1) (by omega) (by omega)
  go_enter Tryz.func143, Tryz.ntmps143
  go_wp2_with fail
  refine (leapYears_any _ _ (by omega) (by omega)).mono ?_
  rintro e w' ⟨rfl, rfl⟩
  go_wp2_with fail
  refine (leapYears_any _ _ (by omega) (by omega)).mono ?_
  rintro e w' ⟨rfl, rfl⟩
  have hc : Cal.lp 1999 = 484 := by decide
  rw [hc]
  clear hc
  go_wp2
  go_ret
  exact ⟨ret_int (by unfold Cal.db; omega), rfl⟩

theorem isLeap_any (y : Int) (w : World) (h1 : 2000 ≤ y) (h2 : y ≤ 2900) :
    Calls Tryz.prog 146 #[.int .i64 y] w fun r w' => r = .returned (.bool (Cal.leap y)) ∧ w' = w := by
  go_enter Tryz.func146, Tryz.ntmps146
  go_wp2_with fail
  refine (leapYears_any _ _ (by omega) (by omega)).mono ?_
  rintro e w' ⟨rfl, rfl⟩
  go_wp2_with fail
  refine (leapYears_any _ _ (by omega) (by omega)).mono ?_
  rintro e w' ⟨rfl, rfl⟩
  go_wp2
  go_ret
  exact ⟨rfl, rfl⟩

theorem monthLength_any (y m : Int) (w : World) (ht : HeldTab w) (h1 : 2000 ≤ y) (h2 : y ≤ 2900) (h3 : 1 ≤ m) (h4 : m ≤ 12) :
    Calls Tryz.prog 144 #[.int .i64 y, .int .i64 m] w fun r w' => r = .returned (.int .i64 (Cal.ml y m.toNat)) ∧ w' = w := by
  obtain ⟨k, rfl⟩ := Int.eq_ofNat_of_zero_le (show 0 ≤ m by omega)
  simp only [Int.toNat_natCast]
  have hc := ht (k - 1) (by omega)
  by_cases hm : k = 2
  · subst hm
    cases hl : Cal.leap y
    · have HL := Lib.hid hl; clear hl
      go_enter Tryz.func144, Tryz.ntmps144
      go_wp2_with fail
      refine (isLeap_any _ _ (by omega) (by omega)).mono ?_
      rintro e w' ⟨rfl, rfl⟩
      rw [HL.out]
      go_wp2
      go_ret
      exact ⟨ret_int (by simp [Cal.ml, HL.out]), rfl⟩
    · have HL := Lib.hid hl; clear hl
      go_enter Tryz.func144, Tryz.ntmps144
      go_wp2_with fail
      refine (isLeap_any _ _ (by omega) (by omega)).mono ?_
      rintro e w' ⟨rfl, rfl⟩
      rw [HL.out]
      go_wp2
      go_ret
      exact ⟨ret_int (by simp [Cal.ml, HL.out]), rfl⟩
  · have hk : Cal.ml y k = Cal.tab.getD (k - 1) 0 := Cal.ml_ne y k hm
    have HK := Lib.hid hk; clear hk
    generalize Cal.tab.getD (k - 1) 0 = x at *
    obtain ⟨j, rfl⟩ : ∃ j, k = j + 1 := ⟨k - 1, by omega⟩
    simp only [Nat.add_sub_cancel] at hc
    have hb : (((j : Int) + 1) == 2) = false := by rw [beq_eq_false_iff_ne]; omega
    clear hm
    go_enter Tryz.func144, Tryz.ntmps144
    go_wp2
    go_ret
    exact ⟨ret_int (by rw [HK.out]), rfl⟩
end Go.Proofs.YtccanfeagfkehabGreatDoor
