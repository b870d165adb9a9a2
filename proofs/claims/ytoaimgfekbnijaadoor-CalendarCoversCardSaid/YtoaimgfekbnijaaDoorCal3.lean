/- Contracts of package calendar: Day, Date, texts of dates. -/
import Derived.Test.YtoaimgfekbnijaaDoorHeap
namespace Go.Proofs.YtoaimgfekbnijaaDoor
open Go.RowKit
def dayIn (y m d : Int) : Int := fst [rng y 2000 2273, rng m 1 12, rng d 1 31]
def dayErr (y m d : Int) : Int :=
  if dayIn y m d ≠ 0 then dayIn y m d
  else if Cal.ml y m.toNat < d ∨ 99999 < Cal.dn y m.toNat d then 7 else 0
theorem rng_zero {n a b : Int} (h : rng n a b = 0) : a ≤ n ∧ n ≤ b := by
  unfold rng at h; split at h
  · assumption
  · omega
theorem fst_cons_zero {x : Int} {l : List Int} (h : fst (x :: l) = 0) : x = 0 ∧ fst l = 0 := by
  by_cases e : x = 0
  · simp [fst, e] at h; exact ⟨e, h⟩
  · simp [fst, e] at h
theorem dayIn_zero {y m d : Int} (h : dayIn y m d = 0) : (2000 ≤ y ∧ y ≤ 2273) ∧ (1 ≤ m ∧ m ≤ 12) ∧ (1 ≤ d ∧ d ≤ 31) := by
  obtain ⟨h1, h⟩ := fst_cons_zero h
  obtain ⟨h2, h⟩ := fst_cons_zero h
  obtain ⟨h3, h⟩ := fst_cons_zero h
  exact ⟨rng_zero h1, rng_zero h2, rng_zero h3⟩

theorem Day_any (y m d : Int) (w : World) (ht : HeldTab w) :
    Calls Tryd.prog 26 #[.int .i64 y, .int .i64 m, .int .i64 d] w fun r w' => r = .returned (num2 (dayErr y m d) (Cal.dn y m.toNat d)) ∧ Below w.heap.size w w' := by
  by_cases hin : dayIn y m d = 0
  · obtain ⟨⟨h1, h2⟩, ⟨h3, h4⟩, h5, h6⟩ := dayIn_zero hin
    have HE : Hid (dayErr y m d = if Cal.ml y m.toNat < d ∨ 99999 < Cal.dn y m.toNat d then 7 else 0) := Lib.hid (by unfold dayErr; rw [if_neg (by simp [hin])])
    have HIN := Lib.hid hin; clear hin
    have ht1 := ht.below (below_alloc w (.cells ([rng y 2000 2273, rng m 1 12, rng d 1 31].map (Value.int .i64)).toArray 26))
    have hbl := below_alloc w (.cells ([rng y 2000 2273, rng m 1 12, rng d 1 31].map (Value.int .i64)).toArray 26)
    have hb := Cal.dn_bd y m.toNat d h1 (by omega) (by omega) h5 h6
    by_cases hm : Cal.ml y m.toNat < d
    · have HF : Hid (dayErr y m d = 7) := Lib.hid (by rw [HE.out, if_pos (.inl hm)])
      go_enter Tryd.func26, Tryd.ntmps26
      go_wp2_with (go_at_call 56; refine (checkRange_any _ _ _ _).mono ?_; rintro e w' ⟨rfl, rfl⟩)
      refine (fe_new [_, _, _] _ _ _ _ _ rfl rfl (by simp)).mono ?_
      rintro e w1 ⟨rfl, hw⟩
      rw [← hw] at ht1 hbl
      rw [show fst [rng y 2000 2273, rng m 1 12, rng d 1 31] = 0 from HIN.out]
      clear hw
      go_wp2_with fail
      refine (dayOf_any _ _ _ _ ht1 h1 (by omega) h3 h4 h5 h6).mono ?_
      rintro e w2 ⟨rfl, rfl⟩
      go_wp2_with fail
      refine (monthLength_any _ _ _ ht1 h1 (by omega) h3 h4).mono ?_
      rintro e w2 ⟨rfl, rfl⟩
      go_wp2_with fail
      go_ret2
      exact ⟨by rw [HF.out]; rfl, hbl⟩
    · by_cases hn : 99999 < Cal.dn y m.toNat d
      · have HF : Hid (dayErr y m d = 7) := Lib.hid (by rw [HE.out, if_pos (.inr hn)])
        go_enter Tryd.func26, Tryd.ntmps26
        go_wp2_with (go_at_call 56; refine (checkRange_any _ _ _ _).mono ?_; rintro e w' ⟨rfl, rfl⟩)
        refine (fe_new [_, _, _] _ _ _ _ _ rfl rfl (by simp)).mono ?_
        rintro e w1 ⟨rfl, hw⟩
        rw [← hw] at ht1 hbl
        rw [show fst [rng y 2000 2273, rng m 1 12, rng d 1 31] = 0 from HIN.out]
        clear hw
        go_wp2_with fail
        refine (dayOf_any _ _ _ _ ht1 h1 (by omega) h3 h4 h5 h6).mono ?_
        rintro e w2 ⟨rfl, rfl⟩
        go_wp2_with fail
        refine (monthLength_any _ _ _ ht1 h1 (by omega) h3 h4).mono ?_
        rintro e w2 ⟨rfl, rfl⟩
        go_wp2_with fail
        go_ret2
        exact ⟨by rw [HF.out]; rfl, hbl⟩
      · have HF : Hid (dayErr y m d = 0) := Lib.hid (by rw [HE.out, if_neg (by omega)])
        go_enter Tryd.func26, Tryd.ntmps26
        go_wp2_with (go_at_call 56; refine (checkRange_any _ _ _ _).mono ?_; rintro e w' ⟨rfl, rfl⟩)
        refine (fe_new [_, _, _] _ _ _ _ _ rfl rfl (by simp)).mono ?_
        rintro e w1 ⟨rfl, hw⟩
        rw [← hw] at ht1 hbl
        rw [show fst [rng y 2000 2273, rng m 1 12, rng d 1 31] = 0 from HIN.out]
        clear hw
        go_wp2_with fail
        refine (dayOf_any _ _ _ _ ht1 h1 (by omega) h3 h4 h5 h6).mono ?_
        rintro e w2 ⟨rfl, rfl⟩
        go_wp2_with fail
        refine (monthLength_any _ _ _ ht1 h1 (by omega) h3 h4).mono ?_
        rintro e w2 ⟨rfl, rfl⟩
        go_wp2_with fail
        go_ret2
        exact ⟨by rw [HF.out]; rfl, hbl⟩
  · have HE : Hid (dayErr y m d = dayIn y m d) := Lib.hid (by unfold dayErr; rw [if_pos hin])
    have hbl := below_alloc w (.cells ([rng y 2000 2273, rng m 1 12, rng d 1 31].map (Value.int .i64)).toArray 26)
    have HN := Lib.hid hin
    have hin' : (dayIn y m d != 0) = true := by simpa using hin
    clear hin
    go_enter Tryd.func26, Tryd.ntmps26
    go_wp2_with (go_at_call 56; refine (checkRange_any _ _ _ _).mono ?_; rintro e w' ⟨rfl, rfl⟩)
    refine (fe_new [_, _, _] _ _ _ _ _ rfl rfl (by simp)).mono ?_
    rintro e w1 ⟨rfl, hw⟩
    rw [← hw] at hbl
    rw [show fst [rng y 2000 2273, rng m 1 12, rng d 1 31] = dayIn y m d from rfl]
    clear hw
    go_wp2_with fail
    go_ret2
    exact ⟨by rw [HE.out, num2_bad _ HN.out]; rfl, hbl⟩
end Go.Proofs.YtoaimgfekbnijaaDoor
