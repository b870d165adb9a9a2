
/- Plain arithmetic of the Gregorian calendar: no program. -/
import Derived.KernelRfl
namespace Go.Proofs.YtnakmgeompjhpaaGreat.Cal
def lp (y : Int) : Int := y / 4 - y / 100 + y / 400
def db (y : Int) : Int := 365 * (y - 2000) + lp (y - 1) - 484
def leap (y : Int) : Bool := decide (lp (y - 1) < lp y)
def tab : List Int := [31, 28, 31, 30, 31, 30, 31, 31, 30, 31, 30, 31]
def ml (y : Int) (m : Nat) : Int := if m = 2 ∧ leap y = true then 29 else tab.getD (m - 1) 0
def cum (y : Int) : Nat → Int
  | 0 => 0
  | k + 1 => cum y k + ml y (k + 1)
def dn (y : Int) (m : Nat) (d : Int) : Int := db y + d - 1 + cum y (m - 1)
def wd (d : Int) : Int := (d + 5) % 7
def ls (y : Int) (m : Nat) : Int := dn y m 31 - (wd (dn y m 31) - 6 + 7) % 7
theorem lp_bd (y : Int) (h1 : 1 ≤ y) (h2 : y ≤ 3000) : 0 ≤ lp y ∧ lp y ≤ 800 := by unfold lp; omega
theorem lp_step (y : Int) : lp (y - 1) ≤ lp y ∧ lp y ≤ lp (y - 1) + 1 := by unfold lp; omega
def lv (y : Int) : Int := if leap y = true then 1 else 0
theorem lv_bd (y : Int) : 0 ≤ lv y ∧ lv y ≤ 1 := by unfold lv; split <;> omega
theorem db_succ (y : Int) : db (y + 1) = db y + 365 + lv y := by
  have := lp_step y
  unfold db lv leap
  simp only [Int.add_sub_cancel]
  by_cases h : lp (y - 1) < lp y
  · simp only [h, decide_true, if_true]; omega
  · simp only [h, decide_false, Bool.false_eq_true, if_false]; omega
theorem db_bd (y : Int) (h1 : 2000 ≤ y) (h2 : y ≤ 2400) : 0 ≤ db y ∧ db y ≤ 147000 := by unfold db lp; omega
theorem db_lo (y : Int) (h1 : 2000 ≤ y) (h2 : y ≤ 2400) : 365 * (y - 2000) ≤ db y ∧ db y ≤ 366 * (y - 2000) := by unfold db lp; omega
theorem db_mono (a b : Int) (h : a ≤ b) : db a ≤ db b := by unfold db lp; omega
theorem db_2000 : db 2000 = 0 := by decide
theorem db_2273 : db 2273 = 99712 := by decide
theorem ml_bd (y : Int) (m : Nat) (h1 : 1 ≤ m) (h2 : m ≤ 12) : 28 ≤ ml y m ∧ ml y m ≤ 31 := by
  unfold ml
  split
  · omega
  · match m, h1, h2 with
    | 1, _, _ | 2, _, _ | 3, _, _ | 4, _, _ | 5, _, _ | 6, _, _ | 7, _, _ | 8, _, _ | 9, _, _ | 10, _, _ | 11, _, _ | 12, _, _ => decide
theorem ml_2 (y : Int) : ml y 2 = 28 + lv y := by unfold ml lv; cases leap y <;> decide
theorem ml_ne (y : Int) (m : Nat) (h : m ≠ 2) : ml y m = tab.getD (m - 1) 0 := by unfold ml; rw [if_neg (by simp [h])]
theorem cum_1 (y : Int) : cum y 1 = 31 := by simp only [cum, ml_ne y 1 (by decide)]; decide
theorem cum_2 (y : Int) : cum y 2 = 59 + lv y := by rw [cum, cum_1, ml_2]; omega
theorem cum_3 (y : Int) : cum y 3 = 90 + lv y := by rw [cum, cum_2, ml_ne y 3 (by decide), show tab.getD (3 - 1) 0 = (31 : Int) from rfl]; omega
theorem cum_4 (y : Int) : cum y 4 = 120 + lv y := by rw [cum, cum_3, ml_ne y 4 (by decide), show tab.getD (4 - 1) 0 = (30 : Int) from rfl]; omega
theorem cum_5 (y : Int) : cum y 5 = 151 + lv y := by rw [cum, cum_4, ml_ne y 5 (by decide), show tab.getD (5 - 1) 0 = (31 : Int) from rfl]; omega
theorem cum_6 (y : Int) : cum y 6 = 181 + lv y := by rw [cum, cum_5, ml_ne y 6 (by decide), show tab.getD (6 - 1) 0 = (30 : Int) from rfl]; omega
theorem cum_7 (y : Int) : cum y 7 = 212 + lv y := by rw [cum, cum_6, ml_ne y 7 (by decide), show tab.getD (7 - 1) 0 = (31 : Int) from rfl]; omega
theorem cum_8 (y : Int) : cum y 8 = 243 + lv y := by rw [cum, cum_7, ml_ne y 8 (by decide), show tab.getD (8 - 1) 0 = (31 : Int) from rfl]; omega
theorem cum_9 (y : Int) : cum y 9 = 273 + lv y := by rw [cum, cum_8, ml_ne y 9 (by decide), show tab.getD (9 - 1) 0 = (30 : Int) from rfl]; omega
theorem cum_10 (y : Int) : cum y 10 = 304 + lv y := by rw [cum, cum_9, ml_ne y 10 (by decide), show tab.getD (10 - 1) 0 = (31 : Int) from rfl]; omega
theorem cum_11 (y : Int) : cum y 11 = 334 + lv y := by rw [cum, cum_10, ml_ne y 11 (by decide), show tab.getD (11 - 1) 0 = (30 : Int) from rfl]; omega
theorem cum_12 (y : Int) : cum y 12 = 365 + lv y := by rw [cum, cum_11, ml_ne y 12 (by decide), show tab.getD (12 - 1) 0 = (31 : Int) from rfl]; omega
theorem cum_bd (y : Int) (m : Nat) (h : m ≤ 12) : 28 * m ≤ cum y m ∧ cum y m ≤ 31 * m := by
  induction m with
  | zero => simp [cum]
  | succ k ih =>
    have := ih (by omega)
    have b := ml_bd y (k + 1) (by omega) h
    rw [cum]; omega
theorem dn_bd (y : Int) (m : Nat) (d : Int) (h1 : 2000 ≤ y) (h2 : y ≤ 2300) (h3 : m ≤ 12) (h4 : 1 ≤ d) (h5 : d ≤ 31) : 0 ≤ dn y m d ∧ dn y m d ≤ 150000 := by
  have a := db_bd y h1 (by omega)
  have b := cum_bd y (m - 1) (by omega)
  unfold dn; omega
theorem wd_bd (d : Int) : 0 ≤ wd d ∧ wd d ≤ 6 := by unfold wd; omega
/-- Each day up to the last one has its year. -/
theorem year_ex (d : Int) (h0 : 0 ≤ d) (h1 : d ≤ 99999) : ∃ y : Int, 2000 ≤ y ∧ y ≤ 2273 ∧ db y ≤ d ∧ d < db (y + 1) := by
  have key : ∀ n : Nat, ∀ d : Int, 0 ≤ d → d < db (2000 + n) → ∃ y : Int, 2000 ≤ y ∧ y < 2000 + n ∧ db y ≤ d ∧ d < db (y + 1) := by
    intro n
    induction n with
    | zero => intro d h0 h1; rw [show (2000 : Int) + (0 : Nat) = 2000 from rfl, db_2000] at h1; omega
    | succ k ih =>
      intro d h0 h1
      by_cases h : d < db (2000 + k)
      · obtain ⟨y, a, b, c, e⟩ := ih d h0 h
        exact ⟨y, a, by omega, c, e⟩
      · exact ⟨2000 + k, by omega, by omega, by omega, by rw [show (2000 : Int) + (k : Int) + 1 = 2000 + ((k + 1 : Nat) : Int) from by omega]; exact h1⟩
  obtain ⟨y, a, b, c, e⟩ := key 274 d h0 (by rw [show db (2000 + ((274 : Nat) : Int)) = 100077 from by decide]; omega)
  exact ⟨y, a, by omega, c, e⟩
/-- Each day of a year has its month. -/
theorem month_ex (y r : Int) (h0 : 0 ≤ r) (h1 : r < 365 + lv y) : ∃ m : Nat, 1 ≤ m ∧ m ≤ 12 ∧ cum y (m - 1) ≤ r ∧ r < cum y m := by
  have key : ∀ n : Nat, n ≤ 12 → r < cum y n → ∃ m : Nat, 1 ≤ m ∧ m ≤ n ∧ cum y (m - 1) ≤ r ∧ r < cum y m := by
    intro n
    induction n with
    | zero => intro _ h; simp [cum] at h; omega
    | succ k ih =>
      intro hk h
      by_cases hh : r < cum y k
      · obtain ⟨m, a, b, c, e⟩ := ih (by omega) hh
        exact ⟨m, a, by omega, c, e⟩
      · exact ⟨k + 1, by omega, Nat.le_refl _, by simp; omega, h⟩
  exact key 12 (Nat.le_refl _) (by rw [cum_12]; exact h1)
end Go.Proofs.YtnakmgeompjhpaaGreat.Cal
