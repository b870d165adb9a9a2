
/- Contracts: ParseMinute, of package message and of the reference; the walk of MessageMinutes. -/
import Derived.Test.YtccanfeagfkehaaGreatMin2
import Derived.Test.YtccanfeagfkehaaGreatAwM9
namespace Go.Proofs.YtccanfeagfkehaaGreat
open Go Go.RowKit Ev
def pmOk (s : ByteArray) : Prop := allD s ∧ nv s 4 / 100 < 24 ∧ nv s 4 % 100 < 60
instance (s : ByteArray) : Decidable (pmOk s) := by unfold pmOk; infer_instance
def pmVal (s : ByteArray) : Int := nv s 4 / 100 * 60 + nv s 4 % 100
def pmOut (s : ByteArray) : Value := if pmOk s then .tuple #[.int .i64 (pmVal s), .int .i64 0] else .tuple #[.int .i64 0, .int .i64 25]
def qpm (s : ByteArray) : Int := if pmOk s then pmVal s else -1
theorem pm_cases (s : ByteArray) : (¬ allD s ∧ ¬ pmOk s) ∨ (allD s ∧ 24 ≤ nv s 4 / 100 ∧ ¬ pmOk s) ∨ (allD s ∧ nv s 4 / 100 < 24 ∧ 60 ≤ nv s 4 % 100 ∧ ¬ pmOk s) ∨ (allD s ∧ nv s 4 / 100 < 24 ∧ nv s 4 % 100 < 60 ∧ pmOk s) := by
  by_cases h : allD s
  · by_cases h1 : nv s 4 / 100 < 24
    · by_cases h2 : nv s 4 % 100 < 60
      · exact .inr (.inr (.inr ⟨h, h1, h2, h, h1, h2⟩))
      · exact .inr (.inr (.inl ⟨h, h1, by omega, fun hp => h2 hp.2.2⟩))
    · exact .inr (.inl ⟨h, by omega, fun hp => h1 hp.2.1⟩)
  · exact .inl ⟨h, fun hp => h hp.1⟩
theorem ParseMinute_any (s : ByteArray) (w : World) :
    Calls Tryz.prog 6 #[.string s] w fun e w' => e = .returned (pmOut s) ∧ Below w.heap.size w w' := by
  rcases pm_cases s with ⟨h, hp⟩ | ⟨h, h1, hp⟩ | ⟨h, h1, h2, hp⟩ | ⟨h, h1, h2, hp⟩
  · have HN : Hid (numOut s = .tuple #[.int .i64 0, .bool false]) := Lib.hid (by unfold numOut; rw [if_neg h])
    have HO : Hid (pmOut s = .tuple #[.int .i64 0, .int .i64 25]) := Lib.hid (by unfold pmOut; rw [if_neg hp])
    clear h hp
    go_enter Tryz.func6, Tryz.ntmps6
    go_wp2_with fail
    refine (number_any _ _).mono ?_
    rintro e w1 ⟨rfl, hb⟩
    rw [HN.out]
    go_wp2_with fail
    go_ret2
    exact ⟨by rw [HO.out]; rfl, hb⟩
  · have HN : Hid (numOut s = .tuple #[.int .i64 (nv s 4), .bool true]) := Lib.hid (by unfold numOut; rw [if_pos h])
    have HO : Hid (pmOut s = .tuple #[.int .i64 0, .int .i64 25]) := Lib.hid (by unfold pmOut; rw [if_neg hp])
    obtain ⟨n0, n1, _⟩ := nv_bd s 4 (by omega) h.2
    clear h hp
    generalize nv s 4 = n at *
    go_enter Tryz.func6, Tryz.ntmps6
    go_wp2_with fail
    refine (number_any _ _).mono ?_
    rintro e w1 ⟨rfl, hb⟩
    rw [HN.out]
    go_wp2_with fail
    go_ret2
    exact ⟨by rw [HO.out]; rfl, hb⟩
  · have HN : Hid (numOut s = .tuple #[.int .i64 (nv s 4), .bool true]) := Lib.hid (by unfold numOut; rw [if_pos h])
    have HO : Hid (pmOut s = .tuple #[.int .i64 0, .int .i64 25]) := Lib.hid (by unfold pmOut; rw [if_neg hp])
    obtain ⟨n0, n1, _⟩ := nv_bd s 4 (by omega) h.2
    clear h hp
    generalize nv s 4 = n at *
    go_enter Tryz.func6, Tryz.ntmps6
    go_wp2_with fail
    refine (number_any _ _).mono ?_
    rintro e w1 ⟨rfl, hb⟩
    rw [HN.out]
    go_wp2_with fail
    go_ret2
    exact ⟨by rw [HO.out]; rfl, hb⟩
  · have HN : Hid (numOut s = .tuple #[.int .i64 (nv s 4), .bool true]) := Lib.hid (by unfold numOut; rw [if_pos h])
    have HO : Hid (pmOut s = .tuple #[.int .i64 (nv s 4 / 100 * 60 + nv s 4 % 100), .int .i64 0]) := Lib.hid (by unfold pmOut pmVal; rw [if_pos hp])
    obtain ⟨n0, n1, _⟩ := nv_bd s 4 (by omega) h.2
    clear h hp
    generalize nv s 4 = n at *
    go_enter Tryz.func6, Tryz.ntmps6
    go_wp2_with fail
    refine (number_any _ _).mono ?_
    rintro e w1 ⟨rfl, hb⟩
    rw [HN.out]
    go_wp2_with fail
    go_ret2
    exact ⟨by rw [HO.out]; rfl, hb⟩
theorem qParseMinute_any (s : ByteArray) (w : World) :
    Calls Tryz.prog 9 #[.string s] w fun e w' => e = .returned (.int .i64 (qpm s)) ∧ w' = w := by
  rcases pm_cases s with ⟨h, hp⟩ | ⟨h, h1, hp⟩ | ⟨h, h1, h2, hp⟩ | ⟨h, h1, h2, hp⟩
  · have HN : Hid (qNum s = -1) := Lib.hid (by unfold qNum; rw [if_neg h])
    have HO : Hid (qpm s = -1) := Lib.hid (by unfold qpm; rw [if_neg hp])
    clear h hp
    go_enter Tryz.func9, Tryz.ntmps9
    go_wp2_with fail
    refine (qdigits_any _ _).mono ?_
    rintro e w1 ⟨rfl, rfl⟩
    rw [HN.out]
    go_wp2_with fail
    go_ret
    exact ⟨by rw [HO.out]; rfl, rfl⟩
  · have HN : Hid (qNum s = nv s 4) := Lib.hid (by unfold qNum; rw [if_pos h])
    have HO : Hid (qpm s = -1) := Lib.hid (by unfold qpm; rw [if_neg hp])
    obtain ⟨n0, n1, _⟩ := nv_bd s 4 (by omega) h.2
    clear h hp
    generalize nv s 4 = n at *
    have hg : (23 : Int) < n / 100 := by omega
    go_enter Tryz.func9, Tryz.ntmps9
    go_wp2_with fail
    refine (qdigits_any _ _).mono ?_
    rintro e w1 ⟨rfl, rfl⟩
    rw [HN.out]
    go_wp2_with fail
    go_ret
    exact ⟨by rw [HO.out]; rfl, rfl⟩
  · have HN : Hid (qNum s = nv s 4) := Lib.hid (by unfold qNum; rw [if_pos h])
    have HO : Hid (qpm s = -1) := Lib.hid (by unfold qpm; rw [if_neg hp])
    obtain ⟨n0, n1, _⟩ := nv_bd s 4 (by omega) h.2
    clear h hp
    generalize nv s 4 = n at *
    have hg : ¬ (23 : Int) < n / 100 := by omega
    have hm : (59 : Int) < n % 100 := by omega
    go_enter Tryz.func9, Tryz.ntmps9
    go_wp2_with fail
    refine (qdigits_any _ _).mono ?_
    rintro e w1 ⟨rfl, rfl⟩
    rw [HN.out]
    go_wp2_with fail
    go_ret
    exact ⟨by rw [HO.out]; rfl, rfl⟩
  · have HN : Hid (qNum s = nv s 4) := Lib.hid (by unfold qNum; rw [if_pos h])
    have HO : Hid (qpm s = nv s 4 / 100 * 60 + nv s 4 % 100) := Lib.hid (by unfold qpm pmVal; rw [if_pos hp])
    obtain ⟨n0, n1, _⟩ := nv_bd s 4 (by omega) h.2
    clear h hp
    generalize nv s 4 = n at *
    have hg : ¬ (23 : Int) < n / 100 := by omega
    have hm : ¬ (59 : Int) < n % 100 := by omega
    go_enter Tryz.func9, Tryz.ntmps9
    go_wp2_with fail
    refine (qdigits_any _ _).mono ?_
    rintro e w1 ⟨rfl, rfl⟩
    rw [HN.out]
    go_wp2_with fail
    go_ret
    exact ⟨by rw [HO.out]; rfl, rfl⟩
def IsTrue (r : Ending) (w w' : World) : Prop := r = .returned (.bool true) ∧ Below w.heap.size w w'
set_option maxRecDepth 100000 in
set_option maxHeartbeats 1000000 in
theorem Minutes_true (m : Int) (s : ByteArray) (w : World) :
    Calls Tryz.prog 3 #[.int .i64 m, .string s] w fun r w' => IsTrue r w w' := by
  by_cases hs : 40 < s.size
  · have hs' : (40 : Int) < (s.size : Int) := by omega
    clear hs
    go_enter Tryz.func3, Tryz.ntmps3
    go_wp2_with fail
    refine (awake2_true _).mono ?_
    rintro e w1 ⟨rfl, hb1⟩
    go_wp2_with fail
    go_ret
    exact ⟨rfl, hb1⟩
  · have hs' : ¬ (40 : Int) < (s.size : Int) := by omega
    clear hs
    have hp : (pmOut s = .tuple #[.int .i64 (pmVal s), .int .i64 0] ∧ qpm s = pmVal s ∧ 0 ≤ pmVal s) ∨ (pmOut s = .tuple #[.int .i64 0, .int .i64 25] ∧ qpm s = -1) := by
      by_cases h : pmOk s
      · refine .inl ⟨by unfold pmOut; rw [if_pos h], by unfold qpm; rw [if_pos h], ?_⟩
        obtain ⟨n0, n1, _⟩ := nv_bd s 4 (by omega) h.1.2
        unfold pmVal; omega
      · exact .inr ⟨by unfold pmOut; rw [if_neg h], by unfold qpm; rw [if_neg h]⟩
    by_cases hm : 0 ≤ m ∧ m ≤ 1439
    · have HR : Hid (rng m 0 1439 = 0) := Lib.hid (rng_ok hm.1 hm.2)
      have HO : Hid (mOut m = .tuple #[.string (mTxt m), .int .i64 0]) := Lib.hid (by unfold mOut; rw [HR.out, if_pos rfl])
      obtain ⟨m1, m2⟩ := hm
      rcases hp with ⟨P1, P2, P3⟩ | ⟨P1, P2⟩
      all_goals
        have P1 := Lib.hid P1
        have P2 := Lib.hid P2
        go_enter Tryz.func3, Tryz.ntmps3
        go_wp2_with fail
        refine (PrintMinute_any _ _).mono ?_
        rintro e w1 ⟨rfl, hb1⟩
        rw [HO.out]
        go_wp2_with fail
        refine (ParseMinute_any _ _).mono ?_
        rintro e w2 ⟨rfl, hb2⟩
        have hb2' := b_then hb1 hb2
        rw [P1.out]
        go_wp2_with fail
        refine (mRange_any _ _ _ _).mono ?_
        rintro e w3 ⟨rfl, rfl⟩
        rw [HR.out]
        go_wp2_with fail
        refine (qPrintMinute_ok _ _ m1 m2).mono ?_
        rintro e w4 ⟨rfl, hb4⟩
        have hb4' := b_then hb2' hb4
        go_wp2_with fail
        refine (qParseMinute_any _ _).mono ?_
        rintro e w5 ⟨rfl, rfl⟩
        rw [P2.out]
        go_wp2_with fail
        refine (awake2_true _).mono ?_
        rintro e w6 ⟨rfl, hb6⟩
        have hb6' := b_then hb4' hb6
        go_wp2_with fail
        go_ret
        exact ⟨by simp, hb6'⟩
    · have HR : Hid (rng m 0 1439 = 3) := Lib.hid (rng_bad hm)
      have HO : Hid (mOut m = .tuple #[.string ⟨#[]⟩, .int .i64 3]) := Lib.hid (by unfold mOut; rw [HR.out, if_neg (by decide)])
      clear hm
      rcases hp with ⟨P1, P2, P3⟩ | ⟨P1, P2⟩
      all_goals
        have P1 := Lib.hid P1
        have P2 := Lib.hid P2
        go_enter Tryz.func3, Tryz.ntmps3
        go_wp2_with fail
        refine (PrintMinute_any _ _).mono ?_
        rintro e w1 ⟨rfl, hb1⟩
        rw [HO.out]
        go_wp2_with fail
        refine (ParseMinute_any _ _).mono ?_
        rintro e w2 ⟨rfl, hb2⟩
        have hb2' := b_then hb1 hb2
        rw [P1.out]
        go_wp2_with fail
        refine (mRange_any _ _ _ _).mono ?_
        rintro e w3 ⟨rfl, rfl⟩
        rw [HR.out]
        go_wp2_with fail
        refine (qParseMinute_any _ _).mono ?_
        rintro e w5 ⟨rfl, rfl⟩
        rw [P2.out]
        go_wp2_with fail
        refine (awake2_true _).mono ?_
        rintro e w6 ⟨rfl, hb6⟩
        have hb6' := b_then hb2' hb6
        go_wp2_with fail
        go_ret
        exact ⟨by simp, hb6'⟩
end Go.Proofs.YtccanfeagfkehaaGreat
