/- Plain arithmetic: Zeller's congruence; the next date. -/
import Derived.Test.YtoaimgfekbnijaaDoorYears0
namespace Go.Proofs.YtoaimgfekbnijaaDoor
def zm (m : Int) : Int := if m < 3 then m + 12 else m
def zy (y m : Int) : Int := if m < 3 then y - 1 else y
theorem zm_lo {m : Int} (h : m < 3) : zm m = m + 12 := if_pos h
theorem zm_hi {m : Int} (h : 3 ≤ m) : zm m = m := if_neg (by omega)
theorem zy_lo {y m : Int} (h : m < 3) : zy y m = y - 1 := if_pos h
theorem zy_hi {y m : Int} (h : 3 ≤ m) : zy y m = y := if_neg (by omega)
theorem lv_eq (y : Int) : Cal.lv y = Cal.lp y - Cal.lp (y - 1) := by
  have h := Cal.lp_step y
  unfold Cal.lv Cal.leap
  by_cases e : Cal.lp (y - 1) < Cal.lp y
  · rw [decide_eq_true e, if_pos rfl]; omega
  · rw [decide_eq_false e, if_neg (by decide)]; omega
theorem zeller {d y t : Int} {m : Nat} (h : IsDate d y m t) : (t + 13 * (zm m + 1) / 5 + zy y m + zy y m / 4 - zy y m / 100 + zy y m / 400 + 5) % 7 = Cal.wd d := by
  obtain ⟨y1, y2, d1, d2, m1, m2, r1, r2, t0⟩ := h
  have hl := lv_eq y
  have hdb : Cal.db y = 365 * (y - 2000) + Cal.lp (y - 1) - 484 := rfl
  have hp : Cal.lp y = y / 4 - y / 100 + y / 400 := rfl
  have hq : Cal.lp (y - 1) = (y - 1) / 4 - (y - 1) / 100 + (y - 1) / 400 := rfl
  unfold Cal.wd
  clear r1 r2 d1 d2
  match m, m1, m2 with
  | 1, _, _ => rw [show Cal.cum y (1 - 1) = 0 from rfl] at t0; clear hp; rw [zm_lo (by decide), zy_lo (by decide)]; omega
  | 2, _, _ => rw [show (2 - 1 : Nat) = 1 from rfl, Cal.cum_1] at t0; clear hp; rw [zm_lo (by decide), zy_lo (by decide)]; omega
  | 3, _, _ => rw [show (3 - 1 : Nat) = 2 from rfl, Cal.cum_2] at t0; clear hq; rw [zm_hi (by decide), zy_hi (by decide)]; omega
  | 4, _, _ => rw [show (4 - 1 : Nat) = 3 from rfl, Cal.cum_3] at t0; clear hq; rw [zm_hi (by decide), zy_hi (by decide)]; omega
  | 5, _, _ => rw [show (5 - 1 : Nat) = 4 from rfl, Cal.cum_4] at t0; clear hq; rw [zm_hi (by decide), zy_hi (by decide)]; omega
  | 6, _, _ => rw [show (6 - 1 : Nat) = 5 from rfl, Cal.cum_5] at t0; clear hq; rw [zm_hi (by decide), zy_hi (by decide)]; omega
  | 7, _, _ => rw [show (7 - 1 : Nat) = 6 from rfl, Cal.cum_6] at t0; clear hq; rw [zm_hi (by decide), zy_hi (by decide)]; omega
  | 8, _, _ => rw [show (8 - 1 : Nat) = 7 from rfl, Cal.cum_7] at t0; clear hq; rw [zm_hi (by decide), zy_hi (by decide)]; omega
  | 9, _, _ => rw [show (9 - 1 : Nat) = 8 from rfl, Cal.cum_8] at t0; clear hq; rw [zm_hi (by decide), zy_hi (by decide)]; omega
  | 10, _, _ => rw [show (10 - 1 : Nat) = 9 from rfl, Cal.cum_9] at t0; clear hq; rw [zm_hi (by decide), zy_hi (by decide)]; omega
  | 11, _, _ => rw [show (11 - 1 : Nat) = 10 from rfl, Cal.cum_10] at t0; clear hq; rw [zm_hi (by decide), zy_hi (by decide)]; omega
  | 12, _, _ => rw [show (12 - 1 : Nat) = 11 from rfl, Cal.cum_11] at t0; clear hq; rw [zm_hi (by decide), zy_hi (by decide)]; omega
theorem date_uniq {d y t y' t' : Int} {m m' : Nat} (h : IsDate d y m t) (h' : IsDate d y' m' t') : y = y' ∧ m = m' ∧ t = t' := (date_eq_iff h h').2 rfl
theorem cum_step (y : Int) (m : Nat) (h : 1 ≤ m) : Cal.cum y m = Cal.cum y (m - 1) + Cal.ml y m := by
  obtain ⟨j, rfl⟩ : ∃ j, m = j + 1 := ⟨m - 1, by omega⟩
  rfl
theorem date_last : IsDate 99999 2273 10 15 := by constructor <;> decide
/-- The date of the next day. -/
theorem date_next {d y t y' t' : Int} {m m' : Nat} (h : IsDate d y m t) (h1 : d < 99999) (h' : IsDate (d + 1) y' m' t') :
    (1 < t' ∧ y' = y ∧ m' = m ∧ t' = t + 1) ∨ (t' = 1 ∧ 28 ≤ t ∧ ((y' = y ∧ m' = m + 1) ∨ (y' = y + 1 ∧ m' = 1 ∧ m = 12 ∧ t = 31))) := by
  have hml := date_ml h
  have ht := date_t h
  have hb := Cal.ml_bd y m h.m1 h.m2
  have hc := cum_step y m h.m1
  have H := h
  obtain ⟨y1, y2, d1, d2, m1, m2, r1, r2, t0⟩ := h
  by_cases e : t + 1 ≤ Cal.ml y m
  · have : Cal.cum y m ≤ 365 + Cal.lv y := by have := cum_le y m 12 m2 (by omega); rw [Cal.cum_12] at this; exact this
    have hs := Cal.db_succ y
    have hn : IsDate (d + 1) y m (t + 1) := ⟨y1, y2, by omega, by omega, m1, m2, by omega, by omega, by omega⟩
    obtain ⟨a, b, c⟩ := date_uniq h' hn
    exact .inl ⟨by omega, a, b, c⟩
  · have et : t = Cal.ml y m := by omega
    by_cases em : m < 12
    · have hc2 := cum_step y (m + 1) (by omega)
      have hb2 := Cal.ml_bd y (m + 1) (by omega) (by omega)
      have : Cal.cum y (m + 1) ≤ 365 + Cal.lv y := by have := cum_le y (m + 1) 12 (by omega) (by omega); rw [Cal.cum_12] at this; exact this
      have hs := Cal.db_succ y
      rw [show m + 1 - 1 = m from rfl] at hc2
      have hn : IsDate (d + 1) y (m + 1) 1 := ⟨y1, y2, by omega, by omega, by omega, by omega, by rw [show m + 1 - 1 = m from rfl]; omega, by omega, by rw [show m + 1 - 1 = m from rfl]; omega⟩
      obtain ⟨a, b, c⟩ := date_uniq h' hn
      exact .inr ⟨c, by omega, .inl ⟨a, b⟩⟩
    · obtain rfl : m = 12 := by omega
      have h12 := Cal.cum_12 y
      have hs := Cal.db_succ y
      have hs2 := Cal.db_succ (y + 1)
      have hl2 := Cal.lv_bd (y + 1)
      have e31 : Cal.ml y 12 = 31 := by rw [Cal.ml_ne y 12 (by decide)]; rfl
      have hy : y + 1 ≤ 2273 := by
        have : ¬ y = 2273 := by
          rintro rfl
          have : Cal.db (2273 + 1) = 100077 := by decide
          omega
        omega
      have hn : IsDate (d + 1) (y + 1) 1 1 := ⟨by omega, hy, by omega, by omega, by omega, by omega, by rw [show Cal.cum (y + 1) (1 - 1) = 0 from rfl]; omega, by rw [Cal.cum_1]; omega, by rw [show Cal.cum (y + 1) (1 - 1) = 0 from rfl]; omega⟩
      obtain ⟨a, b, c⟩ := date_uniq h' hn
      exact .inr ⟨c, by omega, .inr ⟨a, b, rfl, by omega⟩⟩
end Go.Proofs.YtoaimgfekbnijaaDoor
