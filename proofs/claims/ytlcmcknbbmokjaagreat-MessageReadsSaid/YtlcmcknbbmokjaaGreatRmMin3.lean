/- Contracts: ParseMinute, of package message and of the reference; the walk of MessageMinutes. -/
import Derived.Test.YtlcmcknbbmokjaaGreatPm11
import Derived.Test.YtlcmcknbbmokjaaGreatPm19
namespace Go.Proofs.YtlcmcknbbmokjaaGreat
open Go Go.RowKit Ev
def pmOk (s : ByteArray) : Prop := allD s ∧ nv s 4 / 100 < 24 ∧ nv s 4 % 100 < 60
instance (s : ByteArray) : Decidable (pmOk s) := by unfold pmOk; infer_instance
def pmVal (s : ByteArray) : Int := nv s 4 / 100 * 60 + nv s 4 % 100
def pmOut (s : ByteArray) : Value := if pmOk s then .tuple #[.int .i64 (pmVal s), .int .i64 0] else .tuple #[.int .i64 0, .int .i64 25]
def qpm (s : ByteArray) : Int := if pmOk s then pmVal s else -1
theorem pm_cases (s : ByteArray) : (¬ allD s ∧ ¬ pmOk s) ∨ (allD s ∧ 24 ≤ nv s 4 / 100 ∧ ¬ pmOk s) ∨ (allD s ∧ nv s 4 / 100 < 24 ∧ 60 ≤ nv s 4 % 100 ∧ ¬ pmOk s) ∨ (allD s ∧ nv s 4 / 100 < 24 ∧ nv s 4 % 100 < 60 ∧ pmOk s) := by
  by_cases h : allD s
  · by_cases h1 : nv s 4 / 100 < 24
    · by_cases h2 : nv s 4 % 100 < 60
      · exact .inr (.inr (.inr ⟨h, h1, h2, h, h1, h2⟩))
      · exact .inr (.inr (.inl ⟨h, h1, by omega, fun hp => h2 hp.2.2⟩))
    · exact .inr (.inl ⟨h, by omega, fun hp => h1 hp.2.1⟩)
  · exact .inl ⟨h, fun hp => h hp.1⟩
theorem ParseMinute_any (s : ByteArray) (w : World) :
    Calls Tryz.prog 54 #[.string s] w fun e w' => e = .returned (pmOut s) ∧ Below w.heap.size w w' := by
  rcases pm_cases s with ⟨h, hp⟩ | ⟨h, h1, hp⟩ | ⟨h, h1, h2, hp⟩ | ⟨h, h1, h2, hp⟩
  · have HN : Hid (numOut s = .tuple #[.int .i64 0, .bool false]) := Lib.hid (by unfold numOut; rw [if_neg h])
    have HO : Hid (pmOut s = .tuple #[.int .i64 0, .int .i64 25]) := Lib.hid (by unfold pmOut; rw [if_neg hp])
    clear h hp
    go_enter Tryz.func54, Tryz.ntmps54
    go_wp2_with fail
    refine (number_any _ _).mono ?_
    rintro e w1 ⟨rfl, hb⟩
    rw [HN.out]
    go_wp2_with fail
    go_ret2
    exact ⟨by rw [HO.out]; rfl, hb⟩
  · have HN : Hid (numOut s = .tuple #[.int .i64 (nv s 4), .bool true]) := Lib.hid (by unfold numOut; rw [if_pos h])
    have HO : Hid (pmOut s = .tuple #[.int .i64 0, .int .i64 25]) := Lib.hid (by unfold pmOut; rw [if_neg hp])
    obtain ⟨n0, n1, _⟩ := nv_bd s 4 (by omega) h.2
    clear h hp
    generalize nv s 4 = n at *
    go_enter Tryz.func54, Tryz.ntmps54
    go_wp2_with fail
    refine (number_any _ _).mono ?_
    rintro e w1 ⟨rfl, hb⟩
    rw [HN.out]
    go_wp2_with fail
    go_ret2
    exact ⟨by rw [HO.out]; rfl, hb⟩
  · have HN : Hid (numOut s = .tuple #[.int .i64 (nv s 4), .bool true]) := Lib.hid (by unfold numOut; rw [if_pos h])
    have HO : Hid (pmOut s = .tuple #[.int .i64 0, .int .i64 25]) := Lib.hid (by unfold pmOut; rw [if_neg hp])
    obtain ⟨n0, n1, _⟩ := nv_bd s 4 (by omega) h.2
    clear h hp
    generalize nv s 4 = n at *
    go_enter Tryz.func54, Tryz.ntmps54
    go_wp2_with fail
    refine (number_any _ _).mono ?_
    rintro e w1 ⟨rfl, hb⟩
    rw [HN.out]
    go_wp2_with fail
    go_ret2
    exact ⟨by rw [HO.out]; rfl, hb⟩
  · have HN : Hid (numOut s = .tuple #[.int .i64 (nv s 4), .bool true]) := Lib.hid (by unfold numOut; rw [if_pos h])
    have HO : Hid (pmOut s = .tuple #[.int .i64 (nv s 4 / 100 * 60 + nv s 4 % 100), .int .i64 0]) := Lib.hid (by unfold pmOut pmVal; rw [if_pos hp])
    obtain ⟨n0, n1, _⟩ := nv_bd s 4 (by omega) h.2
    clear h hp
    generalize nv s 4 = n at *
    go_enter Tryz.func54, Tryz.ntmps54
    go_wp2_with fail
    refine (number_any _ _).mono ?_
    rintro e w1 ⟨rfl, hb⟩
    rw [HN.out]
    go_wp2_with fail
    go_ret2
    exact ⟨by rw [HO.out]; rfl, hb⟩
theorem qParseMinute_any (s : ByteArray) (w : World) :
    Calls Tryz.prog 68 #[.string s] w fun e w' => e = .returned (.int .i64 (qpm s)) ∧ w' = w := by
  rcases pm_cases s with ⟨h, hp⟩ | ⟨h, h1, hp⟩ | ⟨h, h1, h2, hp⟩ | ⟨h, h1, h2, hp⟩
  · have HN : Hid (qNum s = -1) := Lib.hid (by unfold qNum; rw [if_neg h])
    have HO : Hid (qpm s = -1) := Lib.hid (by unfold qpm; rw [if_neg hp])
    clear h hp
    go_enter Tryz.func68, Tryz.ntmps68
    go_wp2_with fail
    refine (qdigits_any _ _).mono ?_
    rintro e w1 ⟨rfl, rfl⟩
    rw [HN.out]
    go_wp2_with fail
    go_ret
    exact ⟨by rw [HO.out]; rfl, rfl⟩
  · have HN : Hid (qNum s = nv s 4) := Lib.hid (by unfold qNum; rw [if_pos h])
    have HO : Hid (qpm s = -1) := Lib.hid (by unfold qpm; rw [if_neg hp])
    obtain ⟨n0, n1, _⟩ := nv_bd s 4 (by omega) h.2
    clear h hp
    generalize nv s 4 = n at *
    have hg : (23 : Int) < n / 100 := by omega
    go_enter Tryz.func68, Tryz.ntmps68
    go_wp2_with fail
    refine (qdigits_any _ _).mono ?_
    rintro e w1 ⟨rfl, rfl⟩
    rw [HN.out]
    go_wp2_with fail
    go_ret
    exact ⟨by rw [HO.out]; rfl, rfl⟩
  · have HN : Hid (qNum s = nv s 4) := Lib.hid (by unfold qNum; rw [if_pos h])
    have HO : Hid (qpm s = -1) := Lib.hid (by unfold qpm; rw [if_neg hp])
    obtain ⟨n0, n1, _⟩ := nv_bd s 4 (by omega) h.2
    clear h hp
    generalize nv s 4 = n at *
    have hg : ¬ (23 : Int) < n / 100 := by omega
    have hm : (59 : Int) < n % 100 := by omega
    go_enter Tryz.func68, Tryz.ntmps68
    go_wp2_with fail
    refine (qdigits_any _ _).mono ?_
    rintro e w1 ⟨rfl, rfl⟩
    rw [HN.out]
    go_wp2_with fail
    go_ret
    exact ⟨by rw [HO.out]; rfl, rfl⟩
  · have HN : Hid (qNum s = nv s 4) := Lib.hid (by unfold qNum; rw [if_pos h])
    have HO : Hid (qpm s = nv s 4 / 100 * 60 + nv s 4 % 100) := Lib.hid (by unfold qpm pmVal; rw [if_pos hp])
    obtain ⟨n0, n1, _⟩ := nv_bd s 4 (by omega) h.2
    clear h hp
    generalize nv s 4 = n at *
    have hg : ¬ (23 : Int) < n / 100 := by omega
    have hm : ¬ (59 : Int) < n % 100 := by omega
    go_enter Tryz.func68, Tryz.ntmps68
    go_wp2_with fail
    refine (qdigits_any _ _).mono ?_
    rintro e w1 ⟨rfl, rfl⟩
    rw [HN.out]
    go_wp2_with fail
    go_ret
    exact ⟨by rw [HO.out]; rfl, rfl⟩
def IsTrueM (r : Ending) (w w' : World) : Prop := r = .returned (.bool true) ∧ Below w.heap.size w w'
end Go.Proofs.YtlcmcknbbmokjaaGreat
