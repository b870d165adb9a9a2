/- Contracts of the small functions of package calendar, over any world. · Plain arithmetic of the Gregorian calendar: no program. · Contracts of the functions of package calendar that count days. · Contracts of package calendar: days of dates, Sundays, checks. · What a walk keeps: old cells, and the laid variables. · The runes of a text, one by one: a byte below 128 is a rune of its own; at any other byte the rune is 128 or more. · Contracts: names (package check, package calendar and the reference). · Contracts of package check: names, optional names, kinds. · What check.Once gives: a function that remembers the strings that it was called with. · A region that draws its order: its first n operations leave the world in a class C (each yields one value in every world of the class), the others come one after another behind them. One walk in the o · A region that draws its order and whose operations read, or call what makes memory of its own: one walk in the order of the text, in the class of the worlds that keep what the world at its beginning h · A region that draws its order, one operation of which is a call that writes an old block (a map): all others yield one value each, whatever that block holds, and keep all cells. One walk in the order  · Contracts of package ground: terminals, sizes; lists whose elements have names. · Contracts of package ground: CheckStands, one element. · Rows of structs, of any type whose values are a fixed number of cells (for seats without messages). · Contracts of package ground: CheckStands, for every list. · Contracts of package ground: CheckTurns, one element. · Contracts of package ground: CheckTurns, for every list. · Contracts of package ground: CheckMovements, one element. -/
import Derived.Test.YtkjhnemfebgcnaaGreatDoorProg
import Derived.WalkKit
import Derived.IntWalk
import Derived.Outline
import Derived.Lib.Hide
import Derived.LoopTactic
import Derived.Deep.QuietTactic
import Derived.BigQuiet
import Derived.StillTailTactics
import Derived.KernelRfl
import Derived.Below
import Derived.Deep.DeepFit
import Derived.Laws.RangeString
import Derived.Laws.RangeAny
import Derived.Lib.OthersKept
import Derived.Maps.Own
import Derived.Maps.Views
import Derived.Maps.OwnSet
import Derived.StringKeys
import Derived.OpenShut
import Derived.OwnWalk
import Derived.StillTail
import Derived.Deep.Quiet
import Derived.RangeFuncBox
import Derived.Laws.AppendOwn
import Derived.Laws.Rows
import Derived.Deep.AppendLies
namespace Go.Proofs.YtkjhnemfebgcnaaGreatDoor
open Go.RowKit
theorem ret_int {k : IntKind} {a b : Int} (h : a = b) : Ending.returned (.int k a) = .returned (.int k b) := by rw [h]

/-- A number and an error: the number is 0 beside an error. -/
def num2 (bad v : Int) : Value := .tuple #[.int .i64 (if bad = 0 then v else 0), .int .i64 bad]
theorem num2_ok (v : Int) : num2 0 v = .tuple #[.int .i64 v, .int .i64 0] := rfl
theorem num2_bad {bad : Int} (v : Int) (h : bad ≠ 0) : num2 bad v = .tuple #[.int .i64 0, .int .i64 bad] := by unfold num2; rw [if_neg h]

/-- What unless returns. -/
def unl (b : Bool) (e : Int) : Int := if b = true then 0 else e
theorem unl_t (e : Int) : unl true e = 0 := rfl
theorem unl_f (e : Int) : unl false e = e := rfl
theorem unless_any (b : Bool) (e : Int) (w : World) :
    Calls Tryz.prog 91 #[.bool b, .int .i64 e] w fun r w' => r = .returned (.int .i64 (unl b e)) ∧ w' = w := by
  cases b
  all_goals
    go_enter Tryz.func91, Tryz.ntmps91
    go_wp2
    go_ret
    exact ⟨rfl, rfl⟩

theorem unless_t (e : Int) (w : World) :
    Calls Tryz.prog 91 #[.bool true, .int .i64 e] w fun r w' => r = .returned (.int .i64 0) ∧ w' = w := unless_any true e w
theorem unless_f (e : Int) (w : World) :
    Calls Tryz.prog 91 #[.bool false, .int .i64 e] w fun r w' => r = .returned (.int .i64 e) ∧ w' = w := unless_any false e w
/-- ErrRange if n is not from a to b. -/
def rng (n a b : Int) : Int := if a ≤ n ∧ n ≤ b then 0 else 3
theorem checkRange_any (n a b : Int) (w : World) :
    Calls Tryz.prog 97 #[.int .i64 n, .int .i64 a, .int .i64 b] w fun r w' => r = .returned (.int .i64 (rng n a b)) ∧ w' = w := by
  have R : rng n a b = if (decide (a ≤ n) && decide (n ≤ b)) = true then 0 else 3 := by simp [rng]
  by_cases h1 : a ≤ n
  · by_cases h2 : n ≤ b
    · have H : Hid (rng n a b = 0) := Lib.hid (by simp [rng, h1, h2])
      clear R
      go_enter Tryz.func97, Tryz.ntmps97
      go_wp2_with (go_at_call 91; refine (unless_any _ _ _).mono ?_; rintro e w' ⟨rfl, rfl⟩)
      go_ret
      exact ⟨by rw [H.out]; rfl, rfl⟩
    · have H : Hid (rng n a b = 3) := Lib.hid (by simp [rng, h2])
      clear R
      go_enter Tryz.func97, Tryz.ntmps97
      go_wp2_with (go_at_call 91; refine (unless_any _ _ _).mono ?_; rintro e w' ⟨rfl, rfl⟩)
      go_ret
      exact ⟨by rw [H.out]; rfl, rfl⟩
  · have H : Hid (rng n a b = 3) := Lib.hid (by simp [rng, h1])
    clear R
    go_enter Tryz.func97, Tryz.ntmps97
    go_wp2_with (go_at_call 91; refine (unless_any _ _ _).mono ?_; rintro e w' ⟨rfl, rfl⟩)
    go_ret
    exact ⟨by rw [H.out]; rfl, rfl⟩

/-- The first of some numbers that is not 0. -/
def fst (l : List Int) : Int := match l with
  | [] => 0
  | x :: r => if x = 0 then fst r else x

theorem fst_drop (es : List Int) (k : Nat) (h : k < es.length) : fst (es.drop k) = if es.getD k 0 = 0 then fst (es.drop (k + 1)) else es.getD k 0 := by
  rw [List.drop_eq_getElem_cons h]
  simp [fst, h]
theorem firstError_any (es : List Int) (b c : Nat) (w : World) (hc : ∀ i, i < es.length → w.cell? ⟨b, i, none⟩ = some (.int .i64 (es.getD i 0))) (hl : es.length ≤ 100) :
    Calls Tryz.prog 80 #[.slice (some ⟨b, 0, none⟩) es.length c] w fun r w' => r = .returned (.int .i64 (fst es)) ∧ w' = w := by
  have HC := Lib.hid hc
  clear hc
  go_enter Tryz.func80, Tryz.ntmps80
  go_wp2
  go_loop [7] (fun i => ∃ k : Nat, k ≤ es.length ∧ i = .int .i64 k ∧ Hid (fst es = fst (es.drop k))) (fun i => es.length - (intOf i).toNat)
  case atStart => exact ⟨0, Nat.zero_le _, rfl, Lib.hid (by simp)⟩
  case round =>
    obtain ⟨k, hk, rfl, HF⟩ := hrel
    by_cases hlt : k < es.length
    · have hcell := HC.out k hlt
      have hd := fst_drop es k hlt
      by_cases hz : es.getD k 0 = 0
      · have HD := Lib.hid hd; clear hd
        have HZ := Lib.hid hz; 
        rw [hz] at hcell
        clear hz
        go_wp2
        go_round
        case rel => exact ⟨k + 1, by omega, by go_num, Lib.hid (by rw [HF.out, HD.out, if_pos HZ.out])⟩
        case measure => simp [intOf]; omega
      · have HD := Lib.hid (show fst es = es.getD k 0 by rw [HF.out, hd, if_neg hz]); clear hd
        generalize es.getD k 0 = x at *
        have hb : (x != 0) = true := by simpa using hz
        clear hz
        go_wp2
        go_ret
        exact ⟨by rw [HD.out]; rfl, rfl⟩
    · have HD := Lib.hid (show fst es = 0 by rw [HF.out, List.drop_of_length_le (by omega)]; rfl)
      go_wp2
      go_ret
      exact ⟨by rw [HD.out]; rfl, rfl⟩
end Go.Proofs.YtkjhnemfebgcnaaGreatDoor
namespace Go.Proofs.YtkjhnemfebgcnaaGreatDoor.Cal
def lp (y : Int) : Int := y / 4 - y / 100 + y / 400
def db (y : Int) : Int := 365 * (y - 2000) + lp (y - 1) - 484
def leap (y : Int) : Bool := decide (lp (y - 1) < lp y)
def tab : List Int := [31, 28, 31, 30, 31, 30, 31, 31, 30, 31, 30, 31]
def ml (y : Int) (m : Nat) : Int := if m = 2 ∧ leap y = true then 29 else tab.getD (m - 1) 0
def cum (y : Int) : Nat → Int
  | 0 => 0
  | k + 1 => cum y k + ml y (k + 1)
def dn (y : Int) (m : Nat) (d : Int) : Int := db y + d - 1 + cum y (m - 1)
def wd (d : Int) : Int := (d + 5) % 7
def ls (y : Int) (m : Nat) : Int := dn y m 31 - (wd (dn y m 31) - 6 + 7) % 7
theorem lp_bd (y : Int) (h1 : 1 ≤ y) (h2 : y ≤ 3000) : 0 ≤ lp y ∧ lp y ≤ 800 := by unfold lp; omega
theorem lp_step (y : Int) : lp (y - 1) ≤ lp y ∧ lp y ≤ lp (y - 1) + 1 := by unfold lp; omega
def lv (y : Int) : Int := if leap y = true then 1 else 0
theorem lv_bd (y : Int) : 0 ≤ lv y ∧ lv y ≤ 1 := by unfold lv; split <;> omega
theorem db_succ (y : Int) : db (y + 1) = db y + 365 + lv y := by
  have := lp_step y
  unfold db lv leap
  simp only [Int.add_sub_cancel]
  by_cases h : lp (y - 1) < lp y
  · simp only [h, decide_true, if_true]; omega
  · simp only [h, decide_false, Bool.false_eq_true, if_false]; omega
theorem db_bd (y : Int) (h1 : 2000 ≤ y) (h2 : y ≤ 2400) : 0 ≤ db y ∧ db y ≤ 147000 := by unfold db lp; omega
theorem db_lo (y : Int) (h1 : 2000 ≤ y) (h2 : y ≤ 2400) : 365 * (y - 2000) ≤ db y ∧ db y ≤ 366 * (y - 2000) := by unfold db lp; omega
theorem db_mono (a b : Int) (h : a ≤ b) : db a ≤ db b := by unfold db lp; omega
theorem db_2000 : db 2000 = 0 := by decide
theorem db_2273 : db 2273 = 99712 := by decide
theorem ml_bd (y : Int) (m : Nat) (h1 : 1 ≤ m) (h2 : m ≤ 12) : 28 ≤ ml y m ∧ ml y m ≤ 31 := by
  unfold ml
  split
  · omega
  · match m, h1, h2 with
    | 1, _, _ | 2, _, _ | 3, _, _ | 4, _, _ | 5, _, _ | 6, _, _ | 7, _, _ | 8, _, _ | 9, _, _ | 10, _, _ | 11, _, _ | 12, _, _ => decide
theorem ml_2 (y : Int) : ml y 2 = 28 + lv y := by unfold ml lv; cases leap y <;> decide
theorem ml_ne (y : Int) (m : Nat) (h : m ≠ 2) : ml y m = tab.getD (m - 1) 0 := by unfold ml; rw [if_neg (by simp [h])]
theorem cum_1 (y : Int) : cum y 1 = 31 := by simp only [cum, ml_ne y 1 (by decide)]; decide
theorem cum_2 (y : Int) : cum y 2 = 59 + lv y := by rw [cum, cum_1, ml_2]; omega
theorem cum_3 (y : Int) : cum y 3 = 90 + lv y := by rw [cum, cum_2, ml_ne y 3 (by decide), show tab.getD (3 - 1) 0 = (31 : Int) from rfl]; omega
theorem cum_4 (y : Int) : cum y 4 = 120 + lv y := by rw [cum, cum_3, ml_ne y 4 (by decide), show tab.getD (4 - 1) 0 = (30 : Int) from rfl]; omega
theorem cum_5 (y : Int) : cum y 5 = 151 + lv y := by rw [cum, cum_4, ml_ne y 5 (by decide), show tab.getD (5 - 1) 0 = (31 : Int) from rfl]; omega
theorem cum_6 (y : Int) : cum y 6 = 181 + lv y := by rw [cum, cum_5, ml_ne y 6 (by decide), show tab.getD (6 - 1) 0 = (30 : Int) from rfl]; omega
theorem cum_7 (y : Int) : cum y 7 = 212 + lv y := by rw [cum, cum_6, ml_ne y 7 (by decide), show tab.getD (7 - 1) 0 = (31 : Int) from rfl]; omega
theorem cum_8 (y : Int) : cum y 8 = 243 + lv y := by rw [cum, cum_7, ml_ne y 8 (by decide), show tab.getD (8 - 1) 0 = (31 : Int) from rfl]; omega
theorem cum_9 (y : Int) : cum y 9 = 273 + lv y := by rw [cum, cum_8, ml_ne y 9 (by decide), show tab.getD (9 - 1) 0 = (30 : Int) from rfl]; omega
theorem cum_10 (y : Int) : cum y 10 = 304 + lv y := by rw [cum, cum_9, ml_ne y 10 (by decide), show tab.getD (10 - 1) 0 = (31 : Int) from rfl]; omega
theorem cum_11 (y : Int) : cum y 11 = 334 + lv y := by rw [cum, cum_10, ml_ne y 11 (by decide), show tab.getD (11 - 1) 0 = (30 : Int) from rfl]; omega
theorem cum_12 (y : Int) : cum y 12 = 365 + lv y := by rw [cum, cum_11, ml_ne y 12 (by decide), show tab.getD (12 - 1) 0 = (31 : Int) from rfl]; omega
theorem cum_bd (y : Int) (m : Nat) (h : m ≤ 12) : 28 * m ≤ cum y m ∧ cum y m ≤ 31 * m := by
  induction m with
  | zero => simp [cum]
  | succ k ih =>
    have := ih (by omega)
    have b := ml_bd y (k + 1) (by omega) h
    rw [cum]; omega
theorem dn_bd (y : Int) (m : Nat) (d : Int) (h1 : 2000 ≤ y) (h2 : y ≤ 2300) (h3 : m ≤ 12) (h4 : 1 ≤ d) (h5 : d ≤ 31) : 0 ≤ dn y m d ∧ dn y m d ≤ 150000 := by
  have a := db_bd y h1 (by omega)
  have b := cum_bd y (m - 1) (by omega)
  unfold dn; omega
theorem wd_bd (d : Int) : 0 ≤ wd d ∧ wd d ≤ 6 := by unfold wd; omega
/-- Each day up to the last one has its year. -/
theorem year_ex (d : Int) (h0 : 0 ≤ d) (h1 : d ≤ 99999) : ∃ y : Int, 2000 ≤ y ∧ y ≤ 2273 ∧ db y ≤ d ∧ d < db (y + 1) := by
  have key : ∀ n : Nat, ∀ d : Int, 0 ≤ d → d < db (2000 + n) → ∃ y : Int, 2000 ≤ y ∧ y < 2000 + n ∧ db y ≤ d ∧ d < db (y + 1) := by
    intro n
    induction n with
    | zero => intro d h0 h1; rw [show (2000 : Int) + (0 : Nat) = 2000 from rfl, db_2000] at h1; omega
    | succ k ih =>
      intro d h0 h1
      by_cases h : d < db (2000 + k)
      · obtain ⟨y, a, b, c, e⟩ := ih d h0 h
        exact ⟨y, a, by omega, c, e⟩
      · exact ⟨2000 + k, by omega, by omega, by omega, by rw [show (2000 : Int) + (k : Int) + 1 = 2000 + ((k + 1 : Nat) : Int) from by omega]; exact h1⟩
  obtain ⟨y, a, b, c, e⟩ := key 274 d h0 (by rw [show db (2000 + ((274 : Nat) : Int)) = 100077 from by decide]; omega)
  exact ⟨y, a, by omega, c, e⟩
/-- Each day of a year has its month. -/
theorem month_ex (y r : Int) (h0 : 0 ≤ r) (h1 : r < 365 + lv y) : ∃ m : Nat, 1 ≤ m ∧ m ≤ 12 ∧ cum y (m - 1) ≤ r ∧ r < cum y m := by
  have key : ∀ n : Nat, n ≤ 12 → r < cum y n → ∃ m : Nat, 1 ≤ m ∧ m ≤ n ∧ cum y (m - 1) ≤ r ∧ r < cum y m := by
    intro n
    induction n with
    | zero => intro _ h; simp [cum] at h; omega
    | succ k ih =>
      intro hk h
      by_cases hh : r < cum y k
      · obtain ⟨m, a, b, c, e⟩ := ih (by omega) hh
        exact ⟨m, a, by omega, c, e⟩
      · exact ⟨k + 1, by omega, Nat.le_refl _, by simp; omega, h⟩
  exact key 12 (Nat.le_refl _) (by rw [cum_12]; exact h1)
end Go.Proofs.YtkjhnemfebgcnaaGreatDoor.Cal
namespace Go.Proofs.YtkjhnemfebgcnaaGreatDoor
open Go.RowKit
/-- What the table of the lengths of months holds. -/
def HeldTab (w : World) : Prop := ∀ i : Nat, i < 12 → w.cell? ⟨0, i, none⟩ = some (.int .i64 (Cal.tab.getD i 0))

theorem leapYears_any (y : Int) (w : World) (h1 : 1 ≤ y) (h2 : y ≤ 3000) :
    Calls Tryz.prog 224 #[.int .i64 y] w fun r w' => r = .returned (.int .i64 (Cal.lp y)) ∧ w' = w := by
  go_enter Tryz.func224, Tryz.ntmps224
  go_wp2
  go_ret
  exact ⟨ret_int (by unfold Cal.lp; rfl), rfl⟩

theorem daysBefore_any (y : Int) (w : World) (h1 : 2000 ≤ y) (h2 : y ≤ 2900) :
    Calls Tryz.prog 222 #[.int .i64 y] w fun r w' => r = .returned (.int .i64 (Cal.db y)) ∧ w' = w := by
  have hb := Cal.lp_bd (y - 1) (by omega) (by omega)
  go_enter Tryz.func222, Tryz.ntmps222
  go_wp2_with fail
  refine (leapYears_any _ _ (by omega) (by omega)).mono ?_
  rintro e w' ⟨rfl, rfl⟩
  go_wp2_with fail
  refine (leapYears_any _ _ (by omega) (by omega)).mono ?_
  rintro e w' ⟨rfl, rfl⟩
  have hc : Cal.lp 1999 = 484 := by decide
  rw [hc]
  clear hc
  go_wp2
  go_ret
  exact ⟨ret_int (by unfold Cal.db; omega), rfl⟩

theorem isLeap_any (y : Int) (w : World) (h1 : 2000 ≤ y) (h2 : y ≤ 2900) :
    Calls Tryz.prog 225 #[.int .i64 y] w fun r w' => r = .returned (.bool (Cal.leap y)) ∧ w' = w := by
  go_enter Tryz.func225, Tryz.ntmps225
  go_wp2_with fail
  refine (leapYears_any _ _ (by omega) (by omega)).mono ?_
  rintro e w' ⟨rfl, rfl⟩
  go_wp2_with fail
  refine (leapYears_any _ _ (by omega) (by omega)).mono ?_
  rintro e w' ⟨rfl, rfl⟩
  go_wp2
  go_ret
  exact ⟨rfl, rfl⟩

theorem monthLength_any (y m : Int) (w : World) (ht : HeldTab w) (h1 : 2000 ≤ y) (h2 : y ≤ 2900) (h3 : 1 ≤ m) (h4 : m ≤ 12) :
    Calls Tryz.prog 223 #[.int .i64 y, .int .i64 m] w fun r w' => r = .returned (.int .i64 (Cal.ml y m.toNat)) ∧ w' = w := by
  obtain ⟨k, rfl⟩ := Int.eq_ofNat_of_zero_le (show 0 ≤ m by omega)
  simp only [Int.toNat_natCast]
  have hc := ht (k - 1) (by omega)
  by_cases hm : k = 2
  · subst hm
    cases hl : Cal.leap y
    · have HL := Lib.hid hl; clear hl
      go_enter Tryz.func223, Tryz.ntmps223
      go_wp2_with fail
      refine (isLeap_any _ _ (by omega) (by omega)).mono ?_
      rintro e w' ⟨rfl, rfl⟩
      rw [HL.out]
      go_wp2
      go_ret
      exact ⟨ret_int (by simp [Cal.ml, HL.out]), rfl⟩
    · have HL := Lib.hid hl; clear hl
      go_enter Tryz.func223, Tryz.ntmps223
      go_wp2_with fail
      refine (isLeap_any _ _ (by omega) (by omega)).mono ?_
      rintro e w' ⟨rfl, rfl⟩
      rw [HL.out]
      go_wp2
      go_ret
      exact ⟨ret_int (by simp [Cal.ml, HL.out]), rfl⟩
  · have hk : Cal.ml y k = Cal.tab.getD (k - 1) 0 := Cal.ml_ne y k hm
    have HK := Lib.hid hk; clear hk
    generalize Cal.tab.getD (k - 1) 0 = x at *
    obtain ⟨j, rfl⟩ : ∃ j, k = j + 1 := ⟨k - 1, by omega⟩
    simp only [Nat.add_sub_cancel] at hc
    have hb : (((j : Int) + 1) == 2) = false := by rw [beq_eq_false_iff_ne]; omega
    clear hm
    go_enter Tryz.func223, Tryz.ntmps223
    go_wp2
    go_ret
    exact ⟨ret_int (by rw [HK.out]), rfl⟩
end Go.Proofs.YtkjhnemfebgcnaaGreatDoor
namespace Go.Proofs.YtkjhnemfebgcnaaGreatDoor
open Go.RowKit
theorem weekday_any (d : Int) (w : World) (h1 : 0 ≤ d) (h2 : d ≤ 1000000) :
    Calls Tryz.prog 218 #[.int .i64 d] w fun r w' => r = .returned (.int .i64 (Cal.wd d)) ∧ w' = w := by
  go_enter Tryz.func218, Tryz.ntmps218
  go_wp2
  go_ret
  exact ⟨ret_int (by unfold Cal.wd; rfl), rfl⟩

theorem dayOf_any (y m d : Int) (w : World) (ht : HeldTab w) (h1 : 2000 ≤ y) (h2 : y ≤ 2300) (h3 : 1 ≤ m) (h4 : m ≤ 12) (h5 : 1 ≤ d) (h6 : d ≤ 31) :
    Calls Tryz.prog 217 #[.int .i64 y, .int .i64 m, .int .i64 d] w fun r w' => r = .returned (.int .i64 (Cal.dn y m.toNat d)) ∧ w' = w := by
  obtain ⟨n, rfl⟩ := Int.eq_ofNat_of_zero_le (show 0 ≤ m by omega)
  simp only [Int.toNat_natCast]
  have hdb := Cal.db_bd y h1 (by omega)
  go_enter Tryz.func217, Tryz.ntmps217
  go_wp2_with fail
  refine (daysBefore_any _ _ (by omega) (by omega)).mono ?_
  rintro e w' ⟨rfl, rfl⟩
  go_wp2_with fail
  go_loop [7, 8] (fun t i => ∃ k : Nat, 1 ≤ k ∧ k ≤ n ∧ i = .int .i64 k ∧ t = .int .i64 (Cal.db y + d - 1 + Cal.cum y (k - 1))) (fun _ i => n - (intOf i).toNat)
  case atStart => exact ⟨1, by omega, by omega, rfl, by simp [Cal.cum]⟩
  case round =>
    obtain ⟨k, hk1, hk2, rfl, rfl⟩ := hrel
    have hcb := Cal.cum_bd y (k - 1) (by omega)
    by_cases hlt : k < n
    · have hml := Cal.ml_bd y k hk1 (by omega)
      have HS : Hid (Cal.cum y k = Cal.cum y (k - 1) + Cal.ml y k) := Lib.hid (by
        obtain ⟨j, rfl⟩ : ∃ j, k = j + 1 := ⟨k - 1, by omega⟩
        rfl)
      go_wp2_with fail
      refine (monthLength_any _ _ _ ht (by omega) (by omega) (by omega) (by omega)).mono ?_
      rintro e w' ⟨rfl, rfl⟩
      rw [Int.toNat_natCast]
      go_wp2_with fail
      go_round
      case rel => exact ⟨k + 1, by omega, by omega, by go_num, by rw [Nat.add_sub_cancel, HS.out]; go_num⟩
      case measure => simp [intOf]; omega
    · obtain rfl : k = n := by omega
      go_wp2_with fail
      go_ret
      exact ⟨ret_int (by unfold Cal.dn; rfl), rfl⟩

theorem lastSunday_any (y m : Int) (w : World) (ht : HeldTab w) (h1 : 2000 ≤ y) (h2 : y ≤ 2300) (h3 : 1 ≤ m) (h4 : m ≤ 12) :
    Calls Tryz.prog 203 #[.int .i64 y, .int .i64 m] w fun r w' => r = .returned (.int .i64 (Cal.ls y m.toNat)) ∧ w' = w := by
  have hb := Cal.dn_bd y m.toNat 31 h1 h2 (by omega) (by omega) (by omega)
  have hw := Cal.wd_bd (Cal.dn y m.toNat 31)
  have HL : Hid (Cal.ls y m.toNat = Cal.dn y m.toNat 31 - (Cal.wd (Cal.dn y m.toNat 31) - 6 + 7) % 7) := Lib.hid rfl
  go_enter Tryz.func203, Tryz.ntmps203
  go_wp2_with fail
  refine (dayOf_any _ _ _ _ ht h1 h2 h3 h4 (by omega) (by omega)).mono ?_
  rintro e w' ⟨rfl, rfl⟩
  generalize Cal.dn y m.toNat 31 = n at *
  go_wp2_with fail
  refine (weekday_any _ _ (by omega) (by omega)).mono ?_
  rintro e w' ⟨rfl, rfl⟩
  go_wp2_with fail
  go_ret
  exact ⟨ret_int (by rw [HL.out]; simp), rfl⟩

theorem checkMoment_any (d : Int) (w : World) : Calls Tryz.prog 90 #[.int .i64 d] w fun r w' => r = .returned (.int .i64 (rng d 0 143999999)) ∧ w' = w := by
  go_enter Tryz.func90, Tryz.ntmps90
  go_wp2_with fail
  refine (checkRange_any _ _ _ _).mono ?_
  rintro e w' ⟨rfl, rfl⟩
  go_wp2_with fail
  go_ret
  exact ⟨rfl, rfl⟩
theorem rng_ok {n a b : Int} (h1 : a ≤ n) (h2 : n ≤ b) : rng n a b = 0 := by simp [rng, h1, h2]
theorem rng_bad {n a b : Int} (h : ¬ (a ≤ n ∧ n ≤ b)) : rng n a b = 3 := by simp only [rng, if_neg h]
end Go.Proofs.YtkjhnemfebgcnaaGreatDoor
namespace Go.Proofs.YtkjhnemfebgcnaaGreatDoor
open Go.RowKit
theorem cell_in {w : World} {a : Addr} {v : Value} (h : w.cell? a = some v) : a.block < w.heap.size := by
  unfold World.cell? at h
  rcases Nat.lt_or_ge a.block w.heap.size with h' | h'
  · exact h'
  · rw [Array.getElem?_eq_none h'] at h; simp at h
theorem b_old {w w' : World} (hb : Below w.heap.size w w') {a : Addr} {v : Value} (h : w.cell? a = some v) : w'.cell? a = some v := by
  rw [hb.cell (cell_in h)]; exact h
theorem HeldTab.below {w w' : World} (h : HeldTab w) (hb : Below w.heap.size w w') : HeldTab w' := fun i hi => b_old hb (h i hi)
theorem below_alloc (w : World) (o : Obj) : Below w.heap.size w (w.alloc o) := (Below.refl _ w).alloc (Nat.le_refl _) o
theorem b_then {w w1 w2 : World} (h : Below w.heap.size w w1) (k : Below w1.heap.size w1 w2) : Below w.heap.size w w2 := h.trans (k.mono h.size)
theorem cell_fresh (w : World) (l : List Value) (T : TypeId) (i : Nat) (v : Value) (h : l[i]? = some v) : (w.alloc (.cells l.toArray T)).cell? ⟨w.heap.size, i, none⟩ = some v := by
  have e : (w.alloc (.cells l.toArray T)).heap[w.heap.size]? = some (.cells l.toArray T (0, 0)) := by show (w.heap.push _)[_]? = _; simp
  simp only [World.cell?, e]
  simp [h]
/-- firstError of a list that has just been made. -/
theorem fe_new (es : List Int) (b n c T : Nat) (w : World) (hb : b = w.heap.size) (hn : n = es.length) (hl : es.length ≤ 100) :
    Calls Tryz.prog 80 #[.slice (some ⟨b, 0, none⟩) n c] (w.alloc (.cells (es.map (Value.int .i64)).toArray T)) fun r w' => r = .returned (.int .i64 (fst es)) ∧ w' = w.alloc (.cells (es.map (Value.int .i64)).toArray T) := by
  subst hn hb
  exact firstError_any es _ c _ (fun i hi => cell_fresh _ _ _ _ _ (by simp [hi])) hl
theorem still_tail {P : Program} {id : Nat} {Q : Exit → Act → World → Prop} {a : Act} {w : World} {l : List Oper} (n : Nat) (hm : P.follows .mixedOrders = true) (hB : Region.lexTailB .any l.toArray n = true)
    (h : wpStill P l.toArray w.drew (fun a' => wpList P l.toArray Q (l.drop n) a' w.drew) (l.take n) a) : (Code.region id l.toArray true).wp P Q a w :=
  wp_region_still_tail n hm hB h
theorem b_frozen {w w' : World} (hb : Below w.heap.size w w') {a : Addr} {v : Value} (h : w.cell? a = some v) (f : w.frozen? a = false) : w'.frozen? a = false := by
  rw [hb.frozen (cell_in h)]; exact f
theorem below_drew (w : World) : Below w.heap.size w w.drew := (Below.refl _ w).drew
/-- A block N of n cells that the call may write; below N all is as in W. -/
structure Res (n N : Nat) (W w' : World) : Prop where
  cell : ∀ i, i < n → ∃ v, w'.cell? ⟨N, i, none⟩ = some v
  frozen : ∀ i, i < n → w'.frozen? ⟨N, i, none⟩ = false
  below : Below N W w'
theorem Res.drew {n N : Nat} {W w' : World} (h : Res n N W w') : Res n N W w'.drew := ⟨h.cell, h.frozen, h.below.drew⟩
theorem Res.more {n N : Nat} {W w' w2 : World} (h : Res n N W w') (hN : N ≤ w'.heap.size) (hb : Below w'.heap.size w' w2) : Res n N W w2 :=
  ⟨fun i hi => by obtain ⟨v, hv⟩ := h.cell i hi; exact ⟨v, b_old hb hv⟩, fun i hi => by obtain ⟨v, hv⟩ := h.cell i hi; exact b_frozen hb hv (h.frozen i hi), h.below.trans (hb.mono hN)⟩
theorem Res.set {n N : Nat} {W w' : World} (h : Res n N W w') (k : Nat) (v : Value) : Res n N W (w'.setCell ⟨N, k, none⟩ v) :=
  ⟨fun i hi => by
    obtain ⟨u, hu⟩ := h.cell i hi
    obtain ⟨x, hx⟩ := cell?_setCell_some (w := w') (p := ⟨N, k, none⟩) (x := v) (q := ⟨N, i, none⟩) (v := u) hu
    exact ⟨x, hx⟩, fun i hi => by rw [World.frozen?_setCell]; exact h.frozen i hi, h.below.setCell (p := ⟨N, k, none⟩) (Nat.le_refl _) v⟩
theorem Res.old {n N : Nat} {W w' : World} (h : Res n N W w') {b o : Nat} {v : Value} (hb : b < N) (hc : W.cell? ⟨b, o, none⟩ = some v) : w'.cell? ⟨b, o, none⟩ = some v := by
  rw [h.below.cell (p := ⟨b, o, none⟩) hb]; exact hc
theorem Res.pos {n N : Nat} {W w' : World} (h : Res n N W w') (hn : 0 < n) : N ≤ w'.heap.size := by
  obtain ⟨v, hv⟩ := h.cell 0 hn
  exact Nat.le_of_lt (cell_in hv)
theorem Res.up {n N : Nat} {W w' w2 : World} (h : Res n N W w') (hb : Below (N + 1) w' w2) : Res n N W w2 :=
  ⟨fun i hi => by obtain ⟨v, hv⟩ := h.cell i hi; exact ⟨v, by rw [hb.cell (p := ⟨N, i, none⟩) (Nat.lt_succ_self N)]; exact hv⟩, fun i hi => by rw [hb.frozen (p := ⟨N, i, none⟩) (Nat.lt_succ_self N)]; exact h.frozen i hi, h.below.trans (hb.mono (Nat.le_succ N))⟩
theorem below_alloc2 (w : World) (o o' : Obj) : Below w.heap.size w ((w.alloc o).alloc o') := (below_alloc w o).alloc (by simp) o'
theorem b_keep {B : Nat} {w w' : World} (hb : Below B w w') {b o : Nat} {v : Value} (h : b < B) (hc : w.cell? ⟨b, o, none⟩ = some v) : w'.cell? ⟨b, o, none⟩ = some v := by
  rw [hb.cell (p := ⟨b, o, none⟩) h]; exact hc
theorem set_other {w : World} {a b : Addr} {u v : Value} (h : w.cell? b = some v) (hne : a ≠ b) : (w.setCell a u).cell? b = some v := by
  rw [World.cell?_setCell_other _ _ _ _ hne]; exact h
theorem set_same {w : World} {a : Addr} {u v : Value} (h : w.cell? a = some v) : (w.setCell a u).cell? a = some u := World.cell?_setCell_same _ _ _ h
theorem set_size (w : World) (a : Addr) (u : Value) : (w.setCell a u).heap.size = w.heap.size := by simp [World.setCell]
end Go.Proofs.YtkjhnemfebgcnaaGreatDoor
namespace Go.Proofs.YtkjhnemfebgcnaaGreatDoor
open Go Go.RowKit
def byteAt (s : ByteArray) (i : Nat) : Nat := if h : i < s.size then (s[i]'h).toNat else 0
theorem byteAt_eq {s : ByteArray} {i : Nat} (h : i < s.size) : byteAt s i = (s[i]'h).toNat := dif_pos h
theorem byteAt_lt (s : ByteArray) (i : Nat) : byteAt s i < 256 := by
  unfold byteAt
  split
  · exact UInt8.toNat_lt _
  · omega
theorem next_byte {P : Program} (wr : World) (k pos : Nat) (s : ByteArray) (hit : wr.heap[k]? = some (.stringIter s pos)) (h : pos < s.size) :
    ∃ (r p2 : Nat), (∀ ty, (Instr.next (.pointer (some ⟨k, 0, none⟩)) true ty).run P wr = .ok (.tuple #[.bool true, .int .i64 pos, .int .i32 r]) (wr.iterAt k s p2)) ∧ (byteAt s pos < 128 → r = byteAt s pos ∧ p2 = pos + 1) ∧ (128 ≤ byteAt s pos → 128 ≤ r) ∧ r ≤ 2147483647 := by
  rw [byteAt_eq h]
  refine ⟨(Utf8.decode s pos).1, pos + (Utf8.decode s pos).2, fun ty => Lib.run_next_any_at wr k s pos ty hit h, fun ha => ?_, fun ha => (decode_high s pos h ha).1, decode_le s pos⟩
  rw [decode_ascii s pos h ha]
  exact ⟨rfl, rfl⟩
theorem nb_below (V : World) (k : Nat) (s : ByteArray) (pos : Nat) : Below k V (World.iterAt V k s pos) := ⟨rfl, rfl, rfl, by simp [World.iterAt], fun j hj => by
  simp only [World.iterAt]
  rw [Array.getElem?_setIfInBounds, if_neg (by omega)]⟩
end Go.Proofs.YtkjhnemfebgcnaaGreatDoor
namespace Go.Proofs.YtkjhnemfebgcnaaGreatDoor
open Go Go.RowKit
def digN (c : Int) : Bool := decide (48 ≤ c) && decide (c ≤ 57)
def letN (c : Int) : Bool := (decide (65 ≤ c) && decide (c ≤ 90)) || (decide (97 ≤ c) && decide (c ≤ 122))
def nameC (i c : Nat) : Bool := letN c || (decide (i ≠ 0) && (digN c || decide (c = 95)))
def isName (s : ByteArray) : Prop := s.size ≠ 0 ∧ s.size ≤ 24 ∧ ∀ i, i < s.size → nameC i (byteAt s i) = true
instance (s : ByteArray) : Decidable (isName s) := by unfold isName; infer_instance
theorem name_bad {s : ByteArray} {i : Nat} (h : i < s.size) (hn : nameC i (byteAt s i) = false) : decide (isName s) = false :=
  decide_eq_false fun ⟨_, _, h3⟩ => by rw [h3 i h] at hn; cases hn
theorem nameC_true {i c : Nat} (h : nameC i c = true) : letN c = true ∨ (letN c = false ∧ i ≠ 0 ∧ (digN c = true ∨ (digN c = false ∧ c = 95))) := by
  unfold nameC at h
  cases h1 : letN c
  · right
    rw [h1] at h
    simp only [Bool.false_or, Bool.and_eq_true, decide_eq_true_eq, Bool.or_eq_true] at h
    refine ⟨rfl, h.1, ?_⟩
    cases h2 : digN c
    · right; rw [h2] at h; exact ⟨rfl, h.2.resolve_left (by simp)⟩
    · exact .inl rfl
  · exact .inl rfl
theorem nameC_false {i c : Nat} (h : nameC i c = false) : letN c = false ∧ (i = 0 ∨ (i ≠ 0 ∧ digN c = false ∧ c ≠ 95)) := by
  unfold nameC at h
  rw [Bool.or_eq_false_iff] at h
  refine ⟨h.1, ?_⟩
  by_cases hi : i = 0
  · exact .inl hi
  · right
    have h2 := h.2
    rw [decide_eq_true hi, Bool.true_and, Bool.or_eq_false_iff] at h2
    exact ⟨hi, h2.1, of_decide_eq_false h2.2⟩
theorem name_high {c r : Nat} (i : Nat) (hc : 128 ≤ c) (hr : 128 ≤ r) : nameC i c = false ∧ letN r = false ∧ digN r = false ∧ r ≠ 95 := by
  refine ⟨?_, ?_, ?_, by omega⟩
  · unfold nameC letN digN
    rw [decide_eq_false (show ¬ ((c : Int) ≤ 90) by omega), decide_eq_false (show ¬ ((c : Int) ≤ 122) by omega), decide_eq_false (show ¬ ((c : Int) ≤ 57) by omega), decide_eq_false (show ¬ (c = 95) by omega)]
    simp
  · unfold letN
    rw [decide_eq_false (show ¬ ((r : Int) ≤ 90) by omega), decide_eq_false (show ¬ ((r : Int) ≤ 122) by omega)]
    simp
  · unfold digN
    rw [decide_eq_false (show ¬ ((r : Int) ≤ 57) by omega)]
    simp
theorem isLetter_any (r : Int) (w : World) :
    Calls Tryz.prog 164 #[.int .i32 r] w fun e w' => e = .returned (.bool (letN r)) ∧ w' = w := by
  have HL : Hid (letN r = ((decide (65 ≤ r) && decide (r ≤ 90)) || (decide (97 ≤ r) && decide (r ≤ 122)))) := Lib.hid rfl
  cases h1 : decide (65 ≤ r) <;> cases h2 : decide (r ≤ 90) <;> cases h3 : decide (97 ≤ r) <;> cases h4 : decide (r ≤ 122)
  all_goals
    have HB : Hid (letN r = _) := Lib.hid (by rw [HL.out, h1, h2, h3, h4])
    go_enter Tryz.func164, Tryz.ntmps164
    go_wp2
    go_ret
    exact ⟨by rw [HB.out]; rfl, rfl⟩
theorem isDig_any (r : Int) (w : World) :
    Calls Tryz.prog 165 #[.int .i32 r] w fun e w' => e = .returned (.bool (digN r)) ∧ w' = w := by
  have HL : Hid (digN r = (decide (48 ≤ r) && decide (r ≤ 57))) := Lib.hid rfl
  cases h1 : decide (48 ≤ r) <;> cases h2 : decide (r ≤ 57)
  all_goals
    have HB : Hid (digN r = _) := Lib.hid (by rw [HL.out, h1, h2])
    go_enter Tryz.func165, Tryz.ntmps165
    go_wp2
    go_ret
    exact ⟨by rw [HB.out]; rfl, rfl⟩
theorem letter_is {r : Int} {b : Bool} (h : letN r = b) (w : World) : Calls Tryz.prog 164 #[.int .i32 r] w fun e w' => e = .returned (.bool b) ∧ w' = w := h ▸ isLetter_any r w
theorem dig_is {r : Int} {b : Bool} (h : digN r = b) (w : World) : Calls Tryz.prog 165 #[.int .i32 r] w fun e w' => e = .returned (.bool b) ∧ w' = w := h ▸ isDig_any r w
set_option maxRecDepth 100000 in
set_option maxHeartbeats 1000000 in
theorem isName_any (s : ByteArray) (w : World) :
    Calls Tryz.prog 133 #[.string s] w fun e w' => e = .returned (.bool (decide (isName s))) ∧ Below w.heap.size w w' := by
  by_cases h0 : s.size = 0
  · have HN : Hid (decide (isName s) = false) := Lib.hid (decide_eq_false fun h => h.1 h0)
    have hb : ((s.size : Int) == 0) = true := by simp [h0]
    clear h0
    go_enter Tryz.func133, Tryz.ntmps133
    go_wp2_with fail
    go_ret
    exact ⟨by rw [HN.out]; rfl, Below.refl _ _⟩
  · have hb : ((s.size : Int) == 0) = false := by rw [beq_eq_false_iff_ne]; omega
    by_cases h24 : s.size ≤ 24
    · have hb2 : decide ((24 : Int) < s.size) = false := decide_eq_false (by omega)
      have HS : Hid (s.size ≠ 0 ∧ s.size ≤ 24) := Lib.hid ⟨h0, h24⟩
      clear h0 h24
      go_enter Tryz.func133, Tryz.ntmps133
      go_wp2_with fail
      obtain ⟨W, hW, hb0, hit0⟩ : ∃ W, w.iter s 0 = W ∧ Below w.heap.size w W ∧ W.heap[w.heap.size]? = some (.stringIter s 0) := ⟨_, rfl, below_alloc _ _, World.iter_heap w s 0⟩
      rw [hW]
      clear hW
      go_loopw [] (fun wr => ∃ pos : Nat, pos ≤ s.size ∧ Hid (∀ i, i < pos → nameC i (byteAt s i) = true) ∧ Below w.heap.size w wr ∧ wr.heap[w.heap.size]? = some (.stringIter s pos)) (fun wr => s.size - wr.iterPos w.heap.size)
      case atStart => exact ⟨0, Nat.zero_le _, Lib.hid (fun i hi => absurd hi (Nat.not_lt_zero _)), hb0, hit0⟩
      case round =>
        obtain ⟨pos, hps, HP, hbr, hit⟩ := hrel
        by_cases hp : pos < s.size
        · obtain ⟨r, p2, hnx0, hlo, hhi, hr2⟩ := next_byte (P := Tryz.prog) wr w.heap.size pos s hit hp
          obtain ⟨W2, hnx, hb2', hit2⟩ : ∃ W2, (∀ ty, (Instr.next (.pointer (some ⟨w.heap.size, 0, none⟩)) true ty).run Tryz.prog wr = .ok (.tuple #[.bool true, .int .i64 pos, .int .i32 r]) W2) ∧ Below w.heap.size w W2 ∧ W2.heap[w.heap.size]? = some (.stringIter s p2) :=
            ⟨_, hnx0, hbr.trans (nb_below _ _ _ _), Lib.iterAt_heap _ _ _ _ _ hit⟩
          clear hnx0
          have hmu : wr.iterPos w.heap.size = pos := by simp [World.iterPos, hit]
          have hmu2 : W2.iterPos w.heap.size = p2 := by simp [World.iterPos, hit2]
          have HMU := Lib.hid hmu; have HMU2 := Lib.hid hmu2
          clear hmu hmu2 hit
          cases hok : nameC pos (byteAt s pos)
          · have HB : Hid (decide (isName s) = false) := Lib.hid (name_bad hp hok)
            have hbad : letN r = false ∧ (pos = 0 ∨ (pos ≠ 0 ∧ digN r = false ∧ r ≠ 95)) := by
              by_cases hc : byteAt s pos < 128
              · rw [(hlo hc).1]; exact nameC_false hok
              · obtain ⟨-, a, b, c⟩ := name_high pos (show 128 ≤ byteAt s pos by omega) (hhi (by omega))
                refine ⟨a, ?_⟩
                by_cases h : pos = 0
                · exact .inl h
                · exact .inr ⟨h, b, c⟩
            obtain ⟨HL, h | ⟨h, HD, h95⟩⟩ := hbad
            · subst h
              have HL := Lib.hid HL
              clear hlo hhi hok
              go_wp2_with (go_at_call 164; refine (letter_is HL.out _).mono ?_; rintro e w' ⟨rfl, hw⟩; rw [hw]; clear hw)
              go_ret
              exact ⟨by rw [HB.out]; rfl, hb2'⟩
            · have HL := Lib.hid HL
              have HD := Lib.hid HD
              have hz : ((pos : Int) == 0) = false := by rw [beq_eq_false_iff_ne]; omega
              have hq : ((r : Int) == 95) = false := by rw [beq_eq_false_iff_ne]; omega
              clear hlo hhi hok h h95
              go_wp2_with (first | (go_at_call 164; refine (letter_is HL.out _).mono ?_; rintro e w' ⟨rfl, hw⟩; rw [hw]; clear hw) | (go_at_call 165; refine (dig_is HD.out _).mono ?_; rintro e w' ⟨rfl, hw⟩; rw [hw]; clear hw))
              go_ret
              exact ⟨by rw [HB.out]; rfl, hb2'⟩
          · have hc : byteAt s pos < 128 := by
              rcases Nat.lt_or_ge (byteAt s pos) 128 with h | h
              · exact h
              · rw [(name_high pos h (hhi h)).1] at hok; cases hok
            obtain ⟨hr, hp2⟩ := hlo hc
            subst hr hp2
            have HP2 : Hid (∀ i, i < pos + 1 → nameC i (byteAt s i) = true) := Lib.hid (fun i hi => by
              rcases Nat.lt_or_ge i pos with h | h
              · exact HP.out i h
              · obtain rfl : i = pos := by omega
                exact hok)
            have hcs := nameC_true hok
            generalize byteAt s pos = r at *
            clear hlo hhi hok hc
            rcases hcs with HL | ⟨HL, h, HD | ⟨HD, h95⟩⟩
            · have HL := Lib.hid HL
              go_wp2_with (go_at_call 164; refine (letter_is HL.out _).mono ?_; rintro e w' ⟨rfl, hw⟩; rw [hw]; clear hw)
              go_roundw
              case rel => exact ⟨pos + 1, by omega, HP2, hb2', hit2⟩
              case measure => rw [HMU.out, HMU2.out]; omega
            · have HL := Lib.hid HL
              have HD := Lib.hid HD
              have hz : ((pos : Int) == 0) = false := by rw [beq_eq_false_iff_ne]; omega
              clear h
              go_wp2_with (first | (go_at_call 164; refine (letter_is HL.out _).mono ?_; rintro e w' ⟨rfl, hw⟩; rw [hw]; clear hw) | (go_at_call 165; refine (dig_is HD.out _).mono ?_; rintro e w' ⟨rfl, hw⟩; rw [hw]; clear hw))
              go_roundw
              case rel => exact ⟨pos + 1, by omega, HP2, hb2', hit2⟩
              case measure => rw [HMU.out, HMU2.out]; omega
            · have HL := Lib.hid HL
              have HD := Lib.hid HD
              have hz : ((pos : Int) == 0) = false := by rw [beq_eq_false_iff_ne]; omega
              have hq : ((r : Int) == 95) = true := by simp [h95]
              clear h h95
              go_wp2_with (first | (go_at_call 164; refine (letter_is HL.out _).mono ?_; rintro e w' ⟨rfl, hw⟩; rw [hw]; clear hw) | (go_at_call 165; refine (dig_is HD.out _).mono ?_; rintro e w' ⟨rfl, hw⟩; rw [hw]; clear hw))
              go_roundw
              case rel => exact ⟨pos + 1, by omega, HP2, hb2', hit2⟩
              case measure => rw [HMU.out, HMU2.out]; omega
        · obtain rfl : pos = s.size := by omega
          have HB : Hid (decide (isName s) = true) := Lib.hid (decide_eq_true ⟨HS.out.1, HS.out.2, HP.out⟩)
          have hnx : ∀ ty, (Instr.next (.pointer (some ⟨w.heap.size, 0, none⟩)) true ty).run Tryz.prog wr = _ := fun ty => Lib.run_next_end_at wr w.heap.size s s.size ty hit hp
          go_wp2_with fail
          go_ret
          exact ⟨by rw [HB.out]; rfl, hbr⟩
    · have HN : Hid (decide (isName s) = false) := Lib.hid (decide_eq_false fun h => h24 h.2.1)
      have hb2 : decide ((24 : Int) < s.size) = true := decide_eq_true (by omega)
      clear h24 h0
      go_enter Tryz.func133, Tryz.ntmps133
      go_wp2_with fail
      go_ret
      exact ⟨by rw [HN.out]; rfl, Below.refl _ _⟩
end Go.Proofs.YtkjhnemfebgcnaaGreatDoor
namespace Go.Proofs.YtkjhnemfebgcnaaGreatDoor
open Go Go.RowKit
def nameE (s : ByteArray) : Int := unl (decide (isName s)) 8
theorem CName_any (s : ByteArray) (w : World) : Calls Tryz.prog 81 #[.string s] w fun r w' => r = .returned (.int .i64 (nameE s)) ∧ Below w.heap.size w w' := by
  go_enter Tryz.func81, Tryz.ntmps81
  go_wp2_with fail
  refine (isName_any _ _).mono ?_
  rintro e w1 ⟨rfl, hb⟩
  go_wp2_with fail
  refine (unless_any _ _ _).mono ?_
  rintro e w2 ⟨rfl, rfl⟩
  go_wp2_with fail
  go_ret
  exact ⟨rfl, hb⟩
def optE (s : ByteArray) : Int := unl (s.toList == [] || decide (isName s)) 8
def isKindB (s : ByteArray) : Bool := s.toList == [65] || s.toList == [68]
theorem CIsKind_any (s : ByteArray) (w : World) : Calls Tryz.prog 96 #[.string s] w fun r w' => r = .returned (.bool (isKindB s)) ∧ w' = w := by
  cases h1 : (s.toList == [65])
  · have HK : Hid (isKindB s = (s.toList == [68])) := Lib.hid (by unfold isKindB; rw [h1]; rfl)
    go_enter Tryz.func96, Tryz.ntmps96
    go_wp2_with fail
    go_ret
    exact ⟨by rw [HK.out]; rfl, rfl⟩
  · have HK : Hid (isKindB s = true) := Lib.hid (by unfold isKindB; rw [h1]; rfl)
    go_enter Tryz.func96, Tryz.ntmps96
    go_wp2_with fail
    go_ret
    exact ⟨by rw [HK.out]; rfl, rfl⟩
def kindE (s : ByteArray) : Int := unl (isKindB s) 13
theorem CKind_any (s : ByteArray) (w : World) : Calls Tryz.prog 134 #[.string s] w fun r w' => r = .returned (.int .i64 (kindE s)) ∧ w' = w := by
  go_enter Tryz.func134, Tryz.ntmps134
  go_wp2_with fail
  refine (CIsKind_any _ _).mono ?_
  rintro e w1 ⟨rfl, rfl⟩
  go_wp2_with fail
  refine (unless_any _ _ _).mono ?_
  rintro e w2 ⟨rfl, rfl⟩
  go_wp2_with fail
  go_ret
  exact ⟨rfl, rfl⟩
theorem CMinute_any (n : Int) (w : World) : Calls Tryz.prog 161 #[.int .i64 n] w fun r w' => r = .returned (.int .i64 (rng n 0 1439)) ∧ w' = w := by
  go_enter Tryz.func161, Tryz.ntmps161
  go_wp2_with fail
  refine (checkRange_any _ _ _ _).mono ?_
  rintro e w' ⟨rfl, rfl⟩
  go_wp2_with fail
  go_ret
  exact ⟨rfl, rfl⟩
end Go.Proofs.YtkjhnemfebgcnaaGreatDoor
namespace Go.Proofs.YtkjhnemfebgcnaaGreatDoor
open Go Go.RowKit Go.ChangeMaps Go.MapKept
open Go.Maps (Keyed)
theorem keyStr : Keyed Tryz.prog 9 := Go.Maps.string_keyed Tryz.underlying9
theorem zero4 (w : World) : (zeroValue 4).run Tryz.prog w = .ok (.bool false) w := by kernel_rfl
/-- Block b is a map of at most n entries that has true at the strings of S, and false at all others. -/
def SeenM (w : World) (b n : Nat) (S : ByteArray → Bool) : Prop :=
  ∃ D : DataW Unit, w.ownsMap Tryz.prog 9 (plainElem Tryz.prog 4) b n D ∧ ∀ s : ByteArray, D.atKey (.string s.data.toList) (.lit (.bool false)) = .lit (.bool (S s))
theorem SeenM.made (w : World) : SeenM (w.alloc (.map #[] 0)) w.heap.size 0 (fun _ => false) :=
  ⟨.map [], World.ownsMap_made w _ _ _, fun _ => rfl⟩
theorem SeenM.grown {w w' : World} {b n : Nat} {S : ByteArray → Bool} {r : Option Nat} (h : SeenM w b n S) (hg : w.grownBy w' r) (hne : some b ≠ r) : SeenM w' b n S := by
  obtain ⟨D, hown, hat⟩ := h
  exact ⟨D, hown.kept hg hne, hat⟩
theorem grown_below {w w' : World} (hb : Below w.heap.size w w') : w.grownBy w' none := ⟨hb.os, hb.tape, hb.output, hb.size, fun i hi _ => hb.block i hi⟩
theorem SeenM.below {w w' : World} {b n : Nat} {S : ByteArray → Bool} (h : SeenM w b n S) (hb : Below w.heap.size w w') : SeenM w' b n S := h.grown (grown_below hb) (by simp)
theorem str_inj {s z : ByteArray} (h : s.data.toList = z.data.toList) : s = z := ByteArray.ext (Array.toList_inj.1 h)
theorem SeenM.look {w : World} {b n : Nat} {S : ByteArray → Bool} (h : SeenM w b n S) {s : ByteArray} (hs : s.size ≤ maxLen) :
    (Instr.lookup 225 (.map (some b)) (.string s) false).run Tryz.prog w = .ok (.bool (S s)) w := by
  obtain ⟨D, hown, hat⟩ := h
  obtain ⟨v, ps, hrun, hv⟩ := hown.lookup keyStr Tryz.underlying225 (zero4 _) (plainElem_bool Tryz.underlying4 false) (key := .string s) (Go.WideMaps.keyOf_string_mk Tryz.underlying9 hs)
  rw [hat s] at hv
  have hvb : v = .bool (S s) := by
    unfold plainElem at hv
    split at hv
    · simp only [Option.some.injEq, Prod.mk.injEq, DataW.lit.injEq, Lit.bool.injEq] at hv; rw [hv.1]
    all_goals first
      | (rename_i hu; rw [Tryz.underlying4] at hu; cases hu; done)
      | (cases hv; done)
  rw [← hvb]
  exact hrun
theorem SeenM.put {w' : World} {b n : Nat} {S : ByteArray → Bool} {D : DataW Unit} {s : ByteArray} (hat : ∀ s : ByteArray, D.atKey (.string s.data.toList) (.lit (.bool false)) = .lit (.bool (S s))) (hm : Go.Maps.IsMap D)
    (h : w'.ownsMap Tryz.prog 9 (plainElem Tryz.prog 4) b n (D.put (.string s.data.toList) (.lit (.bool true)))) : SeenM w' b n (fun z => if z = s then true else S z) := by
  refine ⟨_, h, fun z => ?_⟩
  by_cases e : z = s
  · subst e
    show _ = DataW.lit (.bool (if z = z then true else S z))
    rw [if_pos rfl]
    exact Go.Maps.atKey_put_same hm (by simp [WideAt.IsKeyLit]) _ _
  · show _ = DataW.lit (.bool (if z = s then true else S z))
    rw [if_neg e, Go.Maps.atKey_put_other (fun h => e (by injection h with h; exact str_inj h))]
    exact hat z
set_option maxRecDepth 100000 in
theorem once_any (c m n : Nat) (S : ByteArray → Bool) (s : ByteArray) (w : World) (hc : w.cell? ⟨c, 0, none⟩ = some (.map (some m))) (hS : SeenM w m n S) (hs : s.size ≤ maxLen) (hn : n < 1000) :
    Calls Tryz.prog 132 #[.string s, .pointer (some ⟨c, 0, none⟩)] w fun e w' => e = .returned (.int .i64 (unl (!(S s)) 9)) ∧ SeenM w' m (n + 1) (fun z => if z = s then true else S z) ∧ w.grownBy w' (some m) := by
  have hl := hS.look hs
  go_enter Tryz.func132, Tryz.ntmps132
  go_wp2_with fail
  refine (unless_any _ _ _).mono ?_
  rintro e w1 ⟨rfl, rfl⟩
  obtain ⟨D, hown, hat⟩ := hS
  have hmap := hown.isMap
  clear hl
  go_wp2_with (first
    | (at_mapUpdate; refine wpList_mapUpdate_own _ rfl _ _ _ 225 rfl 9 4 keyStr Tryz.underlying225 _ m n _ rfl hown (by unfold maxLen; omega) _ _ _ rfl rfl (Go.WideMaps.keyOf_string_mk Tryz.underlying9 hs) _ [] (plainElem_bool Tryz.underlying4 true) ?_)
    | fail)
  intro w2 hown2 hgrow2
  go_wp2_with fail
  go_ret
  exact ⟨rfl, SeenM.put hat hmap hown2, hgrow2⟩
/-- check.Once: a variable that holds a new map. -/
theorem Once_new (w : World) : Calls Tryz.prog 77 #[] w fun e w' => e = .returned (.func (.func 132) #[] #[.pointer (some ⟨w.heap.size + 1, 0, none⟩)]) ∧ SeenM w' w.heap.size 0 (fun _ => false) ∧ w'.cell? ⟨w.heap.size + 1, 0, none⟩ = some (.map (some w.heap.size)) ∧ Below w.heap.size w w' ∧ w'.heap.size = w.heap.size + 2 := by
  have hmm := @run_makeMap Tryz.prog
  go_enter Tryz.func77, Tryz.ntmps77
  go_wp2
  have e1 : (w.alloc (.map #[] 0)).heap.size = w.heap.size + 1 := by simp
  have hb2 := below_alloc2 w (.map #[] 0) (.cells #[.map (some w.heap.size)] 225)
  have hc := cell_fresh (w.alloc (.map #[] 0)) [.map (some w.heap.size)] 225 0 (.map (some w.heap.size)) rfl
  rw [e1] at hc
  go_ret
  exact ⟨rfl, (SeenM.made w).below (below_alloc _ _), hc, hb2, by simp⟩
/-- A string that is looked at: the error of a second one, and the strings so far. -/
def onceStep (S : ByteArray → Bool) (s : ByteArray) : ByteArray → Bool := fun z => if z = s then true else S z
/-- The first error of strings that are looked at, one after another. -/
def onceErr : List ByteArray → (ByteArray → Bool) → Int
  | [], _ => 0
  | s :: ss, S => if unl (!(S s)) 9 = 0 then onceErr ss (onceStep S s) else unl (!(S s)) 9
end Go.Proofs.YtkjhnemfebgcnaaGreatDoor
namespace Go.Proofs.YtkjhnemfebgcnaaGreatDoor
open Go
section
variable {P : Program} {ops : Array Oper} {md : Region.Mode} {C : World → Prop}
/-- Whatever order is drawn among the first n operations, f of them; then L. -/
def HeadQ (P : Program) (md : Region.Mode) (ops : Array Oper) (C : World → Prop) (n : Nat) (L : Array Bool → Act → Prop) (f : Nat) : Array Bool → Act → Prop :=
  f.rec L fun _ next listed a => Region.ready md ops listed ≠ [] ∧ ∀ i ∈ Region.ready md ops listed, i < n ∧ qOp P ops C i (next (listed.setIfInBounds i true)) a
theorem HeadQ.any {n g : Nat} {L : Array Bool → Act → Prop} {Q' : Exit → Act → World → Prop} (hL : ∀ listed a w, C w → L listed a → wpAny P md ops Q' g listed a w) (f : Nat) :
    ∀ (listed : Array Bool) (a : Act) (w : World), C w → HeadQ P md ops C n L f listed a → wpAny P md ops Q' (f + g) listed a w := by
  induction f with
  | zero => intro listed a w hw h; rw [Nat.zero_add]; exact hL _ _ _ hw h
  | succ f ih =>
    intro listed a w hw h
    rw [Nat.succ_add]
    exact ⟨fun h0 => absurd h0 h.1, fun i hi => wpOp_of_qOp hw (fun a' w' hw' h' => ih _ a' w' hw' h') (h.2 i hi).2⟩
/-- An operation of the head that is ready, and apart from all that do not wait for it, may be taken first. -/
theorem HeadQ.first {n i : Nat} {oi : Oper} {v : Value} {L : Array Bool → Act → Prop} (hi : ops[i]? = some oi) (hsel : ∀ (j : Nat) (o : Oper) cs b, ops[j]? = some o → o.op ≠ .select cs b)
    (hs : Region.sinkB md ops n = true) (hc : Region.chainB md ops n = true) (hn : n < ops.size) (hin : i < n) (hdone : ∀ listed a, L listed a → ∀ j ∈ Region.ready md ops listed, n ≤ j) (f : Nat) :
    ∀ (listed : Array Bool) (a : Act), HeadInv md ops n listed →
      (∀ j oj, ops[j]? = some oj → j ≠ i → listed.getD j true = false → (∀ e ∈ oj.after, Region.binds md e = true → e.on ≠ i) → oi.apart ops oj = true) →
      i ∈ Region.ready md ops listed → YieldsIn P ops C oi v a → HeadQ P md ops C n L f (listed.setIfInBounds i true) (a.put oi.dst v) → HeadQ P md ops C n L (f + 1) listed a := by
  induction f with
  | zero =>
    intro listed a inv _ hr hy H
    refine ⟨List.ne_nil_of_mem hr, fun j hj => ?_⟩
    have hjn : j < n := Nat.lt_of_not_le fun h => tail_waits hs hc hn inv _ i rfl hin (mem_ready.1 hr).1 j h hj
    refine ⟨hjn, ?_⟩
    rcases Nat.decEq j i with hji | hji
    · exact absurd (hdone _ _ H j (ready_mono hj hji)) (by omega)
    · subst hji; exact hy.qOp hi H
  | succ f ih =>
    intro listed a inv hfree hr hy H
    refine ⟨List.ne_nil_of_mem hr, fun j hj => ?_⟩
    have hjn : j < n := Nat.lt_of_not_le fun h => tail_waits hs hc hn inv _ i rfl hin (mem_ready.1 hr).1 j h hj
    refine ⟨hjn, ?_⟩
    rcases Nat.decEq j i with hji | hji
    · obtain ⟨hun, oj, hoj, hall⟩ := mem_ready.1 hj
      have hnot : ∀ e ∈ oj.after, Region.binds md e = true → e.on ≠ i := fun e he hb heq => by
        have h1 := hall e he hb
        rw [heq, getD_both (mem_ready.1 hr).1] at h1
        cases h1
      have h2 := qOp_put hoj (hfree j oj hoj hji hun hnot) (fun cs b => hsel i oi cs b hi) (fun cs b => hsel j oj cs b hoj) hy (H.2 j (ready_mono hj hji)).2
      refine qOp_mono (fun a' h3 => ih (listed.setIfInBounds j true) a' (inv.set hj hjn) (fun k ok hk hki hk2 hno => hfree k ok hk hki ?_ hno) (ready_mono hr (Ne.symm hji)) h3.1 ?_) h2
      · rcases Nat.decEq j k with hjk | hjk
        · rwa [getD_set_ne true hjk] at hk2
        · subst hjk; exact hun
      · rw [Array.setIfInBounds_comm _ _ hji]; exact h3.2
    · subst hji; exact hy.qOp hi H
theorem HeadQ.lex {n g : Nat} {Lq : Act → Prop} (hsel : Region.noSelect ops = true) (hs : Region.sinkB md ops n = true) (hc : Region.chainB md ops n = true) (hn : n < ops.size) (l : List Oper) :
    ∀ (k : Nat) (listed : Array Bool) (a : Act), (∀ j, j < l.length → l[j]? = ops[k + j]?) → k + l.length = n → HeadInv md ops n listed → Region.lexHead md ops g l.length k listed = true → wpQuiet P ops C Lq l a →
    HeadQ P md ops C n (fun listed' a' => Region.seqB md ops g n listed' = true ∧ Lq a') l.length listed a := by
  induction l with
  | nil =>
    intro k listed a _ hk _ hB h
    obtain rfl : k = n := by simpa using hk
    exact ⟨by simpa [Region.lexHead] using hB, h⟩
  | cons o l ih =>
    intro k listed a hl hk inv hB h
    have h0 : ops[k]? = some o := by simpa using (hl 0 (by simp)).symm
    simp only [List.length_cons, Region.lexHead, Bool.and_eq_true, List.contains_iff_mem] at hB
    have hkn : k < n := by simp only [List.length_cons] at hk; omega
    obtain ⟨v, hy, hK⟩ := yieldsIn_of_qOp (K := wpQuiet P ops C Lq l) h0 (by unfold qOp; simp only [h0]; exact h)
    exact HeadQ.first h0 (Region.noSelect_spec hsel) hs hc hn hkn (fun _ _ hL => seqB_ready hL.1) l.length listed a inv (Region.free_spec h0 hB.1.2) hB.1.1 hy
      (ih (k + 1) _ _ (fun j hj => by have := hl (j + 1) (by simp; omega); simpa [Nat.add_assoc, Nat.add_comm 1 j] using this) (by simp only [List.length_cons] at hk; omega) (inv.set hB.1.1 hkn) hB.2 hK)
theorem quiet_tail {id : Nat} {Q : Exit → Act → World → Prop} {a : Act} {w : World} {l : List Oper} (n : Nat) (hm : P.follows .mixedOrders = true) (hB : Region.lexTailB .any l.toArray n = true) (hC : C w.drew)
    (h : wpQuiet P l.toArray C (fun a' => ∀ w', C w' → wpList P l.toArray Q (l.drop n) a' w') (l.take n) a) : (Code.region id l.toArray true).wp P Q a w := by
  simp only [Region.lexTailB, Bool.and_eq_true, decide_eq_true_eq] at hB
  obtain ⟨⟨⟨⟨hsel, hn⟩, hs⟩, hc⟩, hlex⟩ := hB
  have hlen : n < l.length := by simpa using hn
  have hln : (l.take n).length = n := by simp; omega
  have hdl : (l.drop n).length = l.toArray.size - n := by simp
  have inv0 : HeadInv .any l.toArray n (Array.replicate l.toArray.size false) :=
    ⟨by simp, fun j oj _ hl => (by rw [getD_replicate_false] at hl; cases hl), fun t _ ht => getD_in (by simpa using ht) (getD_replicate_false _ _)⟩
  have H := HeadQ.lex (md := .any) (g := l.toArray.size - n) hsel hs hc hn (l.take n) 0 _ a (fun j hj => by
    have hj' : j < n := by rw [hln] at hj; exact hj
    simp [hj']) (by simpa using hln) inv0 (by rw [hln]; exact hlex) h
  have T := HeadQ.any (Q' := Q) (g := l.toArray.size - n) (fun listed a' w' hw' hL => by
    have := wpAny_of_seq (md := .any) (Q' := Q) (l.drop n) n listed a' w' (fun j => by simp [List.getElem?_drop]) (by rw [hdl]; exact hL.1) (hL.2 w' hw')
    rwa [hdl] at this) _ _ _ w.drew hC H
  rw [hln, Nat.add_sub_cancel' (Nat.le_of_lt hn)] at T
  exact wp_region_any hm T
/-- The same at the class of the worlds that are w after some draws. -/
theorem quiet_tail_drew {id : Nat} {Q : Exit → Act → World → Prop} {a : Act} {w : World} {l : List Oper} (n : Nat) (hm : P.follows .mixedOrders = true) (hB : Region.lexTailB .any l.toArray n = true)
    (h : wpQuiet P l.toArray (fun w' => ∃ m, w' = w.drewN m) (fun a' => ∀ w', (∃ m, w' = w.drewN m) → wpList P l.toArray Q (l.drop n) a' w') (l.take n) a) : (Code.region id l.toArray true).wp P Q a w :=
  quiet_tail n hm hB ⟨1, rfl⟩ h
end
end Go.Proofs.YtkjhnemfebgcnaaGreatDoor
namespace Go.Proofs.YtkjhnemfebgcnaaGreatDoor
open Go.RowKit
/-- A world that keeps all that w holds. -/
structure KeptW (w : World) where
  v : World
  below : Below w.heap.size w v
theorem KeptW.cell {w : World} (x : KeptW w) {a : Addr} {u : Value} (h : w.cell? a = some u) : x.v.cell? a = some u := b_old x.below h
theorem KeptW.calls {P : Program} {w : World} {x : KeptW w} {f : FuncId} {args : Array Value} {u : Value} (h : Calls P f args x.v fun e w' => e = .returned u ∧ Below x.v.heap.size x.v w') :
    Calls P f args x.v fun e w' => e = .returned u ∧ ∃ y : KeptW w, w' = y.v :=
  h.mono fun _ w' ⟨he, hb⟩ => ⟨he, ⟨w', b_then x.below hb⟩, rfl⟩
theorem KeptW.calls_same {P : Program} {w : World} {x : KeptW w} {f : FuncId} {args : Array Value} {u : Value} (h : Calls P f args x.v fun e w' => e = .returned u ∧ w' = x.v) :
    Calls P f args x.v fun e w' => e = .returned u ∧ ∃ y : KeptW w, w' = y.v :=
  h.mono fun _ _ ⟨he, hb⟩ => ⟨he, x, hb⟩
theorem region_kept {P : Program} {id : Nat} {Q : Exit → Act → World → Prop} {a : Act} {w : World} {l : List Oper} (hm : P.follows .mixedOrders = true) (hB : Region.lexB .any l.toArray = true)
    (h : wpQuiet P l.toArray (fun w' => ∃ x : KeptW w, w' = x.v) (fun a' => ∀ w', (∃ x : KeptW w, w' = x.v) → Q .normal a' w') l a) : (Code.region id l.toArray true).wp P Q a w :=
  wp_region_quiet (C := fun w' => ∃ x : KeptW w, w' = x.v) hm hB ⟨⟨_, below_drew w⟩, rfl⟩ (by simpa using h)
theorem tail_kept {P : Program} {id : Nat} {Q : Exit → Act → World → Prop} {a : Act} {w : World} {l : List Oper} (n : Nat) (hm : P.follows .mixedOrders = true) (hB : Region.lexTailB .any l.toArray n = true)
    (h : wpQuiet P l.toArray (fun w' => ∃ x : KeptW w, w' = x.v) (fun a' => ∀ w', (∃ x : KeptW w, w' = x.v) → wpList P l.toArray Q (l.drop n) a' w') (l.take n) a) : (Code.region id l.toArray true).wp P Q a w :=
  quiet_tail n hm hB ⟨⟨_, below_drew w⟩, rfl⟩ h
end Go.Proofs.YtkjhnemfebgcnaaGreatDoor
namespace Go.Proofs.YtkjhnemfebgcnaaGreatDoor
open Go Go.RowKit
namespace OneVal
variable {P : Program}
/-- A frame that ends the run as soon as it is resumed. -/
def deadEnd : Frame := { fn := 0, tmps := #[], todo := [.code (.goto 0)], defers := [], mode := .run, kind := .normal }
theorem deadEnd_finish (v : Value) : deadEnd.finish v = deadEnd := rfl
theorem deadEnd_step (w : World) : ∃ o w', step P (lone deadEnd [] w) = .ended o w' := by
  refine ⟨_, _, step_lone_ended (o := .stuck "exit, goto: no such block or label" (deadEnd.pos P)) (w' := w) ?_⟩
  simp [stepG, stepG.exec, deadEnd, gotoIn]
theorem leaves_once {fr1 fr2 : Frame} {w1 w2 : World} {v : Value} (hl : fr1.leaving P w1 (.returned v)) : ∀ k, runN P k (lone fr1 [deadEnd] w1) = .next (lone fr2 [deadEnd] w2) → fr1 = fr2 ∧ w1 = w2
  | 0, h => by
    simp only [runN, Stepped.next.injEq, lone, Machine.mk.injEq] at h
    obtain ⟨h1, h2, _⟩ := h
    have h3 : fr1 = fr2 := by simpa using h2
    exact ⟨h3, h1⟩
  | 1, h => by
    have h' : (match step P (lone fr1 [deadEnd] w1) with | .next m => runN P 0 m | e => e) = .next (lone fr2 [deadEnd] w2) := h
    rw [step_leave_returned hl] at h'
    simp only [runN, Stepped.next.injEq, lone, Machine.mk.injEq] at h'
    obtain ⟨_, h2, _⟩ := h'
    simp at h2
  | k + 2, h => by
    obtain ⟨o, w', he⟩ := deadEnd_step (P := P) w1
    have h' : (match step P (lone fr1 [deadEnd] w1) with | .next m => runN P (k + 1) m | e => e) = .next (lone fr2 [deadEnd] w2) := h
    rw [step_leave_returned hl, deadEnd_finish] at h'
    have h'' : (match step P (lone deadEnd [] w1) with | .next m => runN P k m | e => e) = .next (lone fr2 [deadEnd] w2) := h'
    rw [he] at h''
    cases h''
theorem leaving_one {fr : Frame} {w : World} {v v' : Value} (h : fr.leaving P w (.returned v)) (h' : fr.leaving P w (.returned v')) : v = v' := by
  obtain ⟨_, _, _, fn, hf, hr⟩ := h
  obtain ⟨_, _, _, fn', hf', hr'⟩ := h'
  rw [hf] at hf'
  cases hf'
  rw [hr] at hr'
  cases hr'
  rfl
theorem calls_one {f : FuncId} {args : Array Value} {w : World} {v v' : Value} {R R' : World → Prop} (h : Calls P f args w fun e w' => e = .returned v ∧ R w') (h' : Calls P f args w fun e w' => e = .returned v' ∧ R' w') : v = v' := by
  obtain ⟨_, w1, fr1, ⟨rfl, _⟩, ⟨n1, h1⟩, _, hl1⟩ := h [deadEnd]
  obtain ⟨_, w2, fr2, ⟨rfl, _⟩, ⟨n2, h2⟩, _, hl2⟩ := h' [deadEnd]
  rcases Nat.le_total n1 n2 with hle | hle
  · obtain ⟨k, rfl⟩ := Nat.le.dest hle
    rw [runN_add, h1] at h2
    obtain ⟨rfl, rfl⟩ := leaves_once hl1 k h2
    exact leaving_one hl1 hl2
  · obtain ⟨k, rfl⟩ := Nat.le.dest hle
    rw [runN_add, h2] at h1
    obtain ⟨rfl, rfl⟩ := leaves_once hl2 k h1
    exact leaving_one hl1 hl2
theorem quietAt_one {o : Oper} {a : Act} {C C' : World → Prop} {w : World} {v v' : Value} (h : o.quietAt P a C w v) (h' : o.quietAt P a C' w v') : v = v' := by
  unfold Oper.quietAt at h h'
  generalize (execOp a.eval o).run P w = r at *
  cases r with
  | ok n w' =>
    cases n <;> simp only [Oper.quietUpon] at h h'
    case value u => exact h.2.symm.trans h'.2
    case skip => exact h.2.trans h'.2.symm
    case enter f args => exact calls_one h.2 h'.2
  | halt x w' => simp only [Oper.quietUpon] at h
end OneVal
section
variable {P : Program} {ops : Array Oper} {md : Region.Mode} {hk : Oper → Bool} {U F T : World → Prop}
theorem getD_put (l : Array Bool) (i : Nat) : (l.setIfInBounds i true).getD i true = true := by
  rw [Array.getD_eq_getD_getElem?, Array.getElem?_setIfInBounds]
  split
  · split <;> simp
  · simp_all
/-- The worlds that keep what w holds. -/
def KpW (w : World) : World → Prop := fun w' => ∃ x : KeptW w, w' = x.v
theorem KpW.iff {w w' : World} : KpW w w' ↔ Below w.heap.size w w' := ⟨fun ⟨x, h⟩ => h ▸ x.below, fun h => ⟨⟨w', h⟩, rfl⟩⟩
theorem KpW.self (w : World) : KpW w w := KpW.iff.2 (Below.refl _ w)
def wUpon (P : Program) (w : World) (v : Value) (R : World → Prop) : Result Next → Prop
  | .ok (.enter f args) w' => w' = w ∧ Calls P f args w' (fun e w'' => e = .returned v ∧ R w'')
  | _ => False
def yUpon (P : Program) (hk : Oper → Bool) (U F T : World → Prop) (o : Oper) (x : Sem Next) (v : Value) : Prop :=
  if hk o = true then ∀ w, U w → F w → wUpon P w v (fun w' => U w' ∧ T w') (x.run P w) else ∀ w, U w → Oper.quietUpon P (KpW w) w v (x.run P w)
def yOp (P : Program) (ops : Array Oper) (hk : Oper → Bool) (U F T : World → Prop) (o : Oper) (K : Act → Prop) (a : Act) : Prop :=
  if Region.wanted o (yielded ops a.tmps) then ∃ v, yUpon P hk U F T o (execOp a.eval o) v ∧ K (a.put o.dst v) else hk o = false ∧ K (a.put o.dst undef)
theorem yOp.mono {o : Oper} {a : Act} {K K' : Act → Prop} (hn : ∀ a, K a → K' a) (h : yOp P ops hk U F T o K a) : yOp P ops hk U F T o K' a := by
  unfold yOp at *
  split
  · rename_i e; rw [if_pos e] at h; exact ⟨h.choose, h.choose_spec.1, hn _ h.choose_spec.2⟩
  · rename_i e; rw [if_neg e] at h; exact ⟨h.1, hn _ h.2⟩
theorem yOp.out {o : Oper} {a : Act} {K : Act → Prop} (h : yOp P ops hk U F T o K a) : ∃ a', K a' := by
  unfold yOp at h
  split at h
  · exact ⟨_, h.choose_spec.2⟩
  · exact ⟨_, h.2⟩
theorem yOp.swap {oi oj : Oper} {a : Act} {K : Act → Prop} (hap : oi.apart ops oj = true) (hsi : ∀ cs b, oi.op ≠ .select cs b) (hsj : ∀ cs b, oj.op ≠ .select cs b)
    (h : yOp P ops hk U F T oi (fun a' => yOp P ops hk U F T oj K a') a) : yOp P ops hk U F T oj (fun a' => yOp P ops hk U F T oi K a') a := by
  obtain ⟨p1, p2, p3⟩ := Oper.apart_spec hap
  have ej : ∀ v, execOp (a.put oi.dst v).eval oj = execOp a.eval oj := fun v => execOp_put oj hsj a oi.dst v p1
  have wj : ∀ v, Region.wanted oj (yielded ops (a.put oi.dst v).tmps) = Region.wanted oj (yielded ops a.tmps) := fun v => wanted_put oj a oi.dst v p1
  have ei : ∀ v, execOp (a.put oj.dst v).eval oi = execOp a.eval oi := fun v => execOp_put oi hsi a oj.dst v p3
  have wi : ∀ v, Region.wanted oi (yielded ops (a.put oj.dst v).tmps) = Region.wanted oi (yielded ops a.tmps) := fun v => wanted_put oi a oj.dst v p3
  have hcomm : ∀ v u, (a.put oi.dst v).put oj.dst u = (a.put oj.dst u).put oi.dst v := fun v u => Act.put_comm a v u p2
  simp only [yOp, ej, wj, ei, wi] at h ⊢
  by_cases hi : Region.wanted oi (yielded ops a.tmps) = true
  · simp only [hi, if_true] at h ⊢
    obtain ⟨v, hv, hN⟩ := h
    by_cases hj : Region.wanted oj (yielded ops a.tmps) = true
    · simp only [hj, if_true] at hN ⊢
      obtain ⟨u, hu, hK⟩ := hN
      exact ⟨u, hu, v, hv, by rw [← hcomm]; exact hK⟩
    · simp only [hj] at hN ⊢
      rw [if_neg (by simp)] at hN ⊢
      exact ⟨hN.1, v, hv, by rw [← hcomm]; exact hN.2⟩
  · simp only [hi] at h ⊢
    rw [if_neg (by simp)] at h
    obtain ⟨h0, hN⟩ := h
    by_cases hj : Region.wanted oj (yielded ops a.tmps) = true
    · simp only [hj, if_true] at hN ⊢
      obtain ⟨u, hu, hK⟩ := hN
      refine ⟨u, hu, ?_⟩
      rw [if_neg (by simp)]
      exact ⟨h0, by rw [← hcomm]; exact hK⟩
    · simp only [hj] at hN ⊢
      rw [if_neg (by simp)] at hN ⊢
      refine ⟨hN.1, ?_⟩
      rw [if_neg (by simp)]
      exact ⟨h0, by rw [← hcomm]; exact hN.2⟩
def HeadY (P : Program) (md : Region.Mode) (ops : Array Oper) (hk : Oper → Bool) (U F T : World → Prop) (n : Nat) (L : Array Bool → Act → Prop) (f : Nat) : Array Bool → Act → Prop :=
  f.rec L fun _ next listed a => Region.ready md ops listed ≠ [] ∧ ∀ i ∈ Region.ready md ops listed, i < n ∧ ∃ o, ops[i]? = some o ∧ yOp P ops hk U F T o (next (listed.setIfInBounds i true)) a
theorem HeadY.any {n g k : Nat} {L : Array Bool → Act → Prop} {Q' : Exit → Act → World → Prop} (hkk : ∀ i o, ops[i]? = some o → (hk o = true ↔ i = k))
    (hU : ∀ w w', U w → KpW w w' → U w') (hF : ∀ w w', F w → KpW w w' → F w') (hT : ∀ w w', T w → KpW w w' → T w')
    (hL : ∀ listed a w, U w → T w → L listed a → wpAny P md ops Q' g listed a w) (hend : ∀ listed a, L listed a → listed.getD k true = true) (f : Nat) :
    ∀ (listed : Array Bool) (a : Act) (w : World), U w → (listed.getD k true = true → T w) → (listed.getD k true = false → F w) → HeadY P md ops hk U F T n L f listed a → wpAny P md ops Q' (f + g) listed a w := by
  induction f with
  | zero => intro listed a w hw h1 _ h; rw [Nat.zero_add]; exact hL _ _ _ hw (h1 (hend _ _ h)) h
  | succ f ih =>
    intro listed a w hw h1 h0 h
    rw [Nat.succ_add]
    refine ⟨fun h0 => absurd h0 h.1, fun i hi => ?_⟩
    obtain ⟨-, o, ho, h2⟩ := h.2 i hi
    obtain ⟨hun, -⟩ := mem_ready.1 hi
    unfold wpOp
    simp only [ho]
    unfold yOp at h2
    split
    · rename_i hwt
      rw [if_pos hwt] at h2
      refine .inl ?_
      obtain ⟨v, hv, hN⟩ := h2
      unfold Oper.wp
      unfold yUpon at hv
      by_cases hko : hk o = true
      · rw [if_pos hko] at hv
        obtain rfl := (hkk i o ho).1 hko
        have h3 := hv w hw (h0 hun)
        generalize (execOp a.eval o).run P w = r at h3
        cases r with
        | ok nx w' =>
          cases nx
          case enter fn args =>
            obtain ⟨rfl, h3⟩ := h3
            refine Calls.mono h3 (fun e w'' h => ?_)
            obtain ⟨rfl, h4, h5⟩ := h
            refine ih _ _ w'' h4 (fun _ => h5) (fun hf => ?_) hN
            rw [getD_put] at hf
            cases hf
          all_goals exact (h3 : False).elim
        | halt y w' => exact (h3 : False).elim
      · rw [if_neg hko] at hv
        have hne : i ≠ k := fun e => hko ((hkk i o ho).2 e)
        have h3 := hv w hw
        have hgo : ∀ w', KpW w w' → wpAny P md ops Q' (f + g) (listed.setIfInBounds i true) (a.put o.dst v) w' := fun w' hk' =>
          ih _ _ w' (hU _ _ hw hk') (fun hf => hT _ _ (h1 (by rwa [getD_set_ne true hne] at hf)) hk') (fun hf => hF _ _ (h0 (by rwa [getD_set_ne true hne] at hf)) hk') hN
        generalize (execOp a.eval o).run P w = r at h3
        cases r with
        | ok nx w' =>
          cases nx
          case value u => obtain ⟨rfl, rfl⟩ := h3; exact hgo _ (KpW.self _)
          case skip => obtain ⟨rfl, rfl⟩ := h3; exact hgo _ (KpW.self _)
          case enter fn args =>
            obtain ⟨rfl, h3⟩ := h3
            refine Calls.mono h3 (fun e w'' h => ?_)
            obtain ⟨rfl, h4⟩ := h
            exact hgo _ h4
          all_goals exact (h3 : False).elim
        | halt y w' => exact (h3 : False).elim
    · rename_i hwt
      rw [if_neg hwt] at h2
      have hne : i ≠ k := fun e => by have := (hkk i o ho).2 e; rw [h2.1] at this; cases this
      exact ih _ _ w hw (fun hf => h1 (by rwa [getD_set_ne true hne] at hf)) (fun hf => h0 (by rwa [getD_set_ne true hne] at hf)) h2.2
theorem HeadY.first {n i : Nat} {oi : Oper} {L : Array Bool → Act → Prop} (hi : ops[i]? = some oi) (hsel : ∀ (j : Nat) (o : Oper) cs b, ops[j]? = some o → o.op ≠ .select cs b)
    (hs : Region.sinkB md ops n = true) (hc : Region.chainB md ops n = true) (hn : n < ops.size) (hin : i < n) (hdone : ∀ listed a, L listed a → ∀ j ∈ Region.ready md ops listed, n ≤ j) (f : Nat) :
    ∀ (listed : Array Bool) (a : Act), HeadInv md ops n listed →
      (∀ j oj, ops[j]? = some oj → j ≠ i → listed.getD j true = false → (∀ e ∈ oj.after, Region.binds md e = true → e.on ≠ i) → oi.apart ops oj = true) →
      i ∈ Region.ready md ops listed → yOp P ops hk U F T oi (HeadY P md ops hk U F T n L f (listed.setIfInBounds i true)) a → HeadY P md ops hk U F T n L (f + 1) listed a := by
  induction f with
  | zero =>
    intro listed a inv _ hr H
    refine ⟨List.ne_nil_of_mem hr, fun j hj => ?_⟩
    have hjn : j < n := Nat.lt_of_not_le fun h => tail_waits hs hc hn inv _ i rfl hin (mem_ready.1 hr).1 j h hj
    rcases Nat.decEq j i with hji | hji
    · obtain ⟨a', hl⟩ := H.out
      exact absurd (hdone _ _ hl j (ready_mono hj hji)) (by omega)
    · subst hji; exact ⟨hjn, oi, hi, H⟩
  | succ f ih =>
    intro listed a inv hfree hr H
    refine ⟨List.ne_nil_of_mem hr, fun j hj => ?_⟩
    have hjn : j < n := Nat.lt_of_not_le fun h => tail_waits hs hc hn inv _ i rfl hin (mem_ready.1 hr).1 j h hj
    refine ⟨hjn, ?_⟩
    rcases Nat.decEq j i with hji | hji
    · obtain ⟨hun, oj, hoj, hall⟩ := mem_ready.1 hj
      have hnot : ∀ e ∈ oj.after, Region.binds md e = true → e.on ≠ i := fun e he hb heq => by
        have h1 := hall e he hb
        rw [heq, getD_both (mem_ready.1 hr).1] at h1
        cases h1
      have hap := hfree j oj hoj hji hun hnot
      refine ⟨oj, hoj, ?_⟩
      have H2 : yOp P ops hk U F T oi (fun a' => yOp P ops hk U F T oj (HeadY P md ops hk U F T n L f ((listed.setIfInBounds j true).setIfInBounds i true)) a') a := H.mono (fun a' h => by
        obtain ⟨-, o, ho, h3⟩ := h.2 j (ready_mono hj hji)
        rw [hoj] at ho
        cases ho
        rw [Array.setIfInBounds_comm _ _ hji]
        exact h3)
      refine (H2.swap hap (fun cs b => hsel i oi cs b hi) (fun cs b => hsel j oj cs b hoj)).mono (fun a' h => ?_)
      refine ih _ a' (inv.set hj hjn) (fun k ok hk hki hk2 hno => hfree k ok hk hki ?_ hno) (ready_mono hr (Ne.symm hji)) h
      rcases Nat.decEq j k with hjk | hjk
      · rwa [getD_set_ne true hjk] at hk2
      · subst hjk; exact hun
    · subst hji; exact ⟨oi, hi, H⟩
/-- The lexical walk. -/
def wpY (P : Program) (ops : Array Oper) (hk : Oper → Bool) (U F T : World → Prop) (Q : Act → Prop) : List Oper → Act → Prop
  | [], a => Q a
  | o :: r, a => yOp P ops hk U F T o (wpY P ops hk U F T Q r) a
theorem HeadY.lex {n g : Nat} {Lq : Act → Prop} (hsel : Region.noSelect ops = true) (hs : Region.sinkB md ops n = true) (hc : Region.chainB md ops n = true) (hn : n < ops.size) (l : List Oper) :
    ∀ (k : Nat) (listed : Array Bool) (a : Act), listed.size = ops.size → (∀ j, j < k → listed.getD j true = true) → (∀ j, j < l.length → l[j]? = ops[k + j]?) → k + l.length = n → HeadInv md ops n listed → Region.lexHead md ops g l.length k listed = true → wpY P ops hk U F T Lq l a →
    HeadY P md ops hk U F T n (fun listed' a' => (Region.seqB md ops g n listed' = true ∧ ∀ j, j < n → listed'.getD j true = true) ∧ Lq a') l.length listed a := by
  induction l with
  | nil =>
    intro k listed a _ hd _ hk _ hB h
    obtain rfl : k = n := by simpa using hk
    exact ⟨⟨by simpa [Region.lexHead] using hB, hd⟩, h⟩
  | cons o l ih =>
    intro k listed a hz hd hl hk inv hB h
    have h0 : ops[k]? = some o := by simpa using (hl 0 (by simp)).symm
    simp only [List.length_cons, Region.lexHead, Bool.and_eq_true, List.contains_iff_mem] at hB
    have hkn : k < n := by simp only [List.length_cons] at hk; omega
    refine HeadY.first h0 (Region.noSelect_spec hsel) hs hc hn hkn (fun _ _ hL => seqB_ready hL.1.1) l.length listed a inv (Region.free_spec h0 hB.1.2) hB.1.1 ?_
    exact yOp.mono (fun a' h' => ih (k + 1) _ a' (by simpa using hz) (fun j hj => by
      rcases Nat.lt_or_ge j k with h | h
      · rw [getD_set_ne true (by omega)]; exact hd j h
      · obtain rfl : j = k := by omega
        exact getD_put _ _) (fun j hj => by have := hl (j + 1) (by simp; omega); simpa [Nat.add_assoc, Nat.add_comm 1 j] using this) (by simp only [List.length_cons] at hk; omega) (inv.set hB.1.1 hkn) hB.2 h') h
/-- One operation alone is the writer. -/
def oneB (ops : Array Oper) (hk : Oper → Bool) (k : Nat) : Bool := (List.range ops.size).all fun i => match ops[i]? with
  | some o => hk o == decide (i = k)
  | none => true
theorem oneB_spec {k : Nat} (h : oneB ops hk k = true) (i : Nat) (o : Oper) (hi : ops[i]? = some o) : hk o = true ↔ i = k := by
  have := List.all_eq_true.1 h i (List.mem_range.2 (Array.getElem?_eq_some_iff.1 hi).1)
  rw [hi] at this
  simp only [beq_iff_eq] at this
  rw [this, decide_eq_true_iff]
theorem writer_tail {id : Nat} {Q : Exit → Act → World → Prop} {a : Act} {w : World} {l : List Oper} (hk : Oper → Bool) (U F T : World → Prop) (k n : Nat) (hm : P.follows .mixedOrders = true) (hB : Region.lexTailB .any l.toArray n = true)
    (h1 : oneB l.toArray hk k = true) (hkn : k < n)
    (hU : ∀ w w', U w → Below w.heap.size w w' → U w') (hF : ∀ w w', F w → Below w.heap.size w w' → F w') (hT : ∀ w w', T w → Below w.heap.size w w' → T w') (hu0 : U w) (hf0 : F w)
    (h : wpY P l.toArray hk U F T (fun a' => ∀ w', U w' → T w' → wpList P l.toArray Q (l.drop n) a' w') (l.take n) a) : (Code.region id l.toArray true).wp P Q a w := by
  simp only [Region.lexTailB, Bool.and_eq_true, decide_eq_true_eq] at hB
  obtain ⟨⟨⟨⟨hsel, hn⟩, hs⟩, hc⟩, hlex⟩ := hB
  have hlen : n < l.length := by simpa using hn
  have hln : (l.take n).length = n := by simp; omega
  have hdl : (l.drop n).length = l.toArray.size - n := by simp
  have inv0 : HeadInv .any l.toArray n (Array.replicate l.toArray.size false) :=
    ⟨by simp, fun j oj _ hl => (by rw [getD_replicate_false] at hl; cases hl), fun t _ ht => getD_in (by simpa using ht) (getD_replicate_false _ _)⟩
  have H := HeadY.lex (md := .any) (g := l.toArray.size - n) hsel hs hc hn (l.take n) 0 (Array.replicate l.toArray.size false) a (by simp) (fun j hj => by omega) (fun j hj => by
    have hj' : j < n := by rw [hln] at hj; exact hj
    simp [hj']) (by simpa using hln) inv0 (by rw [hln]; exact hlex) h
  have hk0 : (Array.replicate l.toArray.size false).getD k true = false := getD_in (by simp; omega) (getD_replicate_false _ _)
  have T := HeadY.any (Q' := Q) (g := l.toArray.size - n) (k := k) (oneB_spec h1) (fun x y hx hy => hU x y hx (KpW.iff.1 hy)) (fun x y hx hy => hF x y hx (KpW.iff.1 hy)) (fun x y hx hy => hT x y hx (KpW.iff.1 hy)) (fun listed a' w' hw' ht hL => by
    have := wpAny_of_seq (md := .any) (Q' := Q) (l.drop n) n listed a' w' (fun j => by simp [List.getElem?_drop]) (by rw [hdl]; exact hL.1.1) (hL.2 w' hw' ht)
    rwa [hdl] at this) (fun listed a' hL => hL.1.2 k hkn) _ _ a w.drew (hU _ _ hu0 (below_drew w)) (fun hf => by rw [hk0] at hf; cases hf) (fun _ => hF _ _ hf0 (below_drew w)) H
  rw [hln, Nat.add_sub_cancel' (Nat.le_of_lt hn)] at T
  exact wp_region_any hm T
theorem wpY_append {Q : Act → Prop} (l1 l2 : List Oper) : ∀ a, wpY P ops hk U F T (wpY P ops hk U F T Q l2) l1 a → wpY P ops hk U F T Q (l1 ++ l2) a := by
  induction l1 with
  | nil => intro a h; exact h
  | cons o l ih => intro a h; exact yOp.mono ih h
theorem y_quiet {Q : Act → Prop} (l : List Oper) (hl : l.all (fun o => !hk o) = true) :
    ∀ (a : Act), wpQuiet P ops U Q l a → (∀ w1, U w1 → wpQuiet P ops (KpW w1) (fun _ => True) l a) → wpY P ops hk U F T Q l a := by
  induction l with
  | nil => intro a h _; exact h
  | cons o l ih =>
    intro a h h2
    simp only [List.all_cons, Bool.and_eq_true, Bool.not_eq_true'] at hl
    obtain ⟨ho, hl⟩ := hl
    show yOp P ops hk U F T o (wpY P ops hk U F T Q l) a
    have h1 : (if Region.wanted o (yielded ops a.tmps) then o.quiet P a U (wpQuiet P ops U Q l) else wpQuiet P ops U Q l (a.put o.dst undef)) := h
    have h' : ∀ w1, U w1 → (if Region.wanted o (yielded ops a.tmps) then o.quiet P a (KpW w1) (wpQuiet P ops (KpW w1) (fun _ => True) l) else wpQuiet P ops (KpW w1) (fun _ => True) l (a.put o.dst undef)) := h2
    unfold yOp
    split
    · rename_i hw
      simp only [hw, if_true] at h' h1
      obtain ⟨v, q0, k0⟩ := h1
      have hq : ∀ w1, U w1 → o.quietAt P a (KpW w1) w1 v ∧ wpQuiet P ops (KpW w1) (fun _ => True) l (a.put o.dst v) := fun w1 hw1 => by
        obtain ⟨v1, q1, k1⟩ := h' w1 hw1
        obtain rfl : v = v1 := OneVal.quietAt_one (q0 w1 hw1) (q1 w1 (KpW.self _))
        exact ⟨q1 w1 (KpW.self _), k1⟩
      refine ⟨v, ?_, ih hl _ k0 (fun w1 hw1 => (hq w1 hw1).2)⟩
      unfold yUpon
      rw [if_neg (by simp [ho])]
      exact fun w hw => (hq w hw).1
    · rename_i hw
      rw [if_neg hw] at h1
      refine ⟨ho, ih hl _ h1 (fun w1 hw1 => ?_)⟩
      have := h' w1 hw1
      rwa [if_neg hw] at this
theorem y_run {Q : Act → Prop} {l : List Oper} {a : Act} (k : Nat) (hl : (l.take k).all (fun o => !hk o) = true) (h1 : wpQuiet P ops U (wpY P ops hk U F T Q (l.drop k)) (l.take k) a)
    (h2 : ∀ w1, U w1 → wpQuiet P ops (fun w' => ∃ x : KeptW w1, w' = x.v) (fun _ => True) (l.take k) a) : wpY P ops hk U F T Q l a := by
  rw [← List.take_append_drop k l]
  exact wpY_append _ _ _ (y_quiet _ hl _ h1 h2)
theorem y_at {Q : Act → Prop} {o : Oper} {l : List Oper} {a : Act} {v : Value} (ho : hk o = true) (hg : o.guard = none) {f : FuncId} {args : Array Value} (hx : ∀ w, (execOp a.eval o).run P w = .ok (.enter f args) w)
    (hc : ∀ w, U w → F w → Calls P f args w (fun e w' => e = .returned v ∧ U w' ∧ T w')) (h : wpY P ops hk U F T Q l (a.put o.dst v)) : wpY P ops hk U F T Q (o :: l) a := by
  show yOp P ops hk U F T o (wpY P ops hk U F T Q l) a
  unfold yOp
  rw [if_pos (by simp [Region.wanted, hg])]
  refine ⟨v, ?_, h⟩
  unfold yUpon
  rw [if_pos ho]
  intro w hu hf
  rw [hx w]
  exact ⟨rfl, hc w hu hf⟩
end
end Go.Proofs.YtkjhnemfebgcnaaGreatDoor
namespace Go.Proofs.YtkjhnemfebgcnaaGreatDoor
open Go Go.RowKit
def termE (s : ByteArray) : Int := unl (s.toList == [] || decide (isName s)) 1
theorem gTerm_any (s : ByteArray) (w : World) : Calls Tryz.prog 83 #[.string s] w fun r w' => r = .returned (.int .i64 (termE s)) ∧ Below w.heap.size w w' := by
  cases h : (s.toList == [])
  · have HO : Hid (termE s = unl (decide (isName s)) 1) := Lib.hid (by unfold termE; rw [h]; rfl)
    go_enter Tryz.func83, Tryz.ntmps83
    go_wp2_with fail
    refine (isName_any _ _).mono ?_
    rintro e w1 ⟨rfl, hb⟩
    go_wp2_with fail
    refine (unless_any _ _ _).mono ?_
    rintro e w2 ⟨rfl, rfl⟩
    go_wp2_with fail
    go_ret
    exact ⟨by rw [HO.out]; rfl, hb⟩
  · have HO : Hid (termE s = 0) := Lib.hid (by unfold termE; rw [h]; rfl)
    go_enter Tryz.func83, Tryz.ntmps83
    go_wp2_with fail
    refine (unless_t _ _).mono ?_
    rintro e w2 ⟨rfl, rfl⟩
    go_wp2_with fail
    go_ret
    exact ⟨by rw [HO.out]; rfl, Below.refl _ _⟩
theorem gSize_any (n : Int) (w : World) : Calls Tryz.prog 82 #[.int .i64 n] w fun r w' => r = .returned (.int .i64 (rng n 1 9)) ∧ w' = w := by
  go_enter Tryz.func82, Tryz.ntmps82
  go_wp2_with fail
  refine (checkRange_any _ _ _ _).mono ?_
  rintro e w' ⟨rfl, rfl⟩
  go_wp2_with fail
  go_ret
  exact ⟨rfl, rfl⟩
theorem gb_but' {a c : World} (h : a.grownBy c none) (row : Option Nat) : a.grownBy c row := ⟨h.os, h.tape, h.output, h.size, fun i hi _ => h.block i hi (by simp)⟩
theorem gb_trans' {a b c : World} {row : Option Nat} (h : a.grownBy b row) (k : b.grownBy c row) : a.grownBy c row :=
  ⟨k.os.trans h.os, k.tape.trans h.tape, k.output.trans h.output, Nat.le_trans h.size k.size, fun i hi hne => (k.block i (Nat.lt_of_lt_of_le hi h.size) hne).trans (h.block i hi hne)⟩
theorem gb_cell' {w w' : World} {r : Nat} (h : w.grownBy w' (some r)) {b o : Nat} {v : Value} (hc : w.cell? ⟨b, o, none⟩ = some v) (hne : b ≠ r) : w'.cell? ⟨b, o, none⟩ = some v := by
  rw [World.cell?_of_block (h.block b (cell_in hc) (by simpa using hne))]; exact hc
/-- The worlds that keep what W holds, but for one block. -/
structure OffW (W : World) (m : Nat) where
  v : World
  g : W.grownBy v (some m)
theorem OffW.cell {W : World} {m : Nat} (x : OffW W m) {b o : Nat} {u : Value} (h : W.cell? ⟨b, o, none⟩ = some u) (hne : b ≠ m) : x.v.cell? ⟨b, o, none⟩ = some u := gb_cell' x.g h hne
theorem OffW.calls {P : Program} {W : World} {m : Nat} {x : OffW W m} {f : FuncId} {args : Array Value} {u : Value} (h : Calls P f args x.v fun e w' => e = .returned u ∧ Below x.v.heap.size x.v w') :
    Calls P f args x.v fun e w' => e = .returned u ∧ ∃ y : OffW W m, w' = y.v :=
  h.mono fun _ w' ⟨he, hb⟩ => ⟨he, ⟨w', gb_trans' x.g (gb_but' (grown_below hb) _)⟩, rfl⟩
theorem OffW.calls_same {P : Program} {W : World} {m : Nat} {x : OffW W m} {f : FuncId} {args : Array Value} {u : Value} (h : Calls P f args x.v fun e w' => e = .returned u ∧ w' = x.v) :
    Calls P f args x.v fun e w' => e = .returned u ∧ ∃ y : OffW W m, w' = y.v :=
  h.mono fun _ _ ⟨he, hb⟩ => ⟨he, x, hb⟩
/-- The first error of a list whose elements have names, some of which have been seen. -/
def listErr {α : Type} (e : (ByteArray → Bool) → α → Int) (nm : α → ByteArray) : List α → (ByteArray → Bool) → Int
  | [], _ => 0
  | x :: r, S => if e S x ≠ 0 then e S x else listErr e nm r (onceStep S (nm x))
theorem listErr_drop {α : Type} [Inhabited α] (e : (ByteArray → Bool) → α → Int) (nm : α → ByteArray) (l : List α) (k : Nat) (h : k < l.length) {x : α} (hx : l.getD k default = x) (S : ByteArray → Bool) :
    listErr e nm (l.drop k) S = if e S x ≠ 0 then e S x else listErr e nm (l.drop (k + 1)) (onceStep S (nm x)) := by
  subst hx
  rw [List.drop_eq_getElem_cons h]
  simp only [List.getD_eq_getElem?_getD, List.getElem?_eq_getElem h, Option.getD_some]
  rfl
/-- The first error of a list. -/
def plainErr {α : Type} (e : α → Int) : List α → Int
  | [] => 0
  | x :: r => if e x ≠ 0 then e x else plainErr e r
theorem plainErr_drop {α : Type} [Inhabited α] (e : α → Int) (l : List α) (k : Nat) (h : k < l.length) {x : α} (hx : l.getD k default = x) :
    plainErr e (l.drop k) = if e x ≠ 0 then e x else plainErr e (l.drop (k + 1)) := by
  subst hx
  rw [List.drop_eq_getElem_cons h]
  simp only [List.getD_eq_getElem?_getD, List.getElem?_eq_getElem h, Option.getD_some]
  rfl
end Go.Proofs.YtkjhnemfebgcnaaGreatDoor
namespace Go.Proofs.YtkjhnemfebgcnaaGreatDoor
open Go Go.RowKit
structure StandV where
  name : ByteArray
  size : Int
  terminal : ByteArray
instance : Inhabited StandV := ⟨⟨ByteArray.empty, 0, ByteArray.empty⟩⟩
def StandV.cells (x : StandV) : Array Value := #[.string x.name, .int .i64 x.size, .string x.terminal]
structure StandW (w : World) (b : Nat) (x : StandV) : Prop where
  c0 : w.cell? ⟨b, 0, none⟩ = some (.string x.name)
  c1 : w.cell? ⟨b, 1, none⟩ = some (.int .i64 x.size)
  c2 : w.cell? ⟨b, 2, none⟩ = some (.string x.terminal)
theorem Stand_new (w : World) (x : StandV) (T : TypeId) : ∃ W, Hid (w.alloc (.cells x.cells T) = W) ∧ Below w.heap.size w W ∧ StandW W w.heap.size x := by
  refine ⟨_, Lib.hid rfl, below_alloc w _, ?_⟩
  unfold StandV.cells
  constructor <;> simp
def standE (S : ByteArray → Bool) (x : StandV) : Int := fst [nameE x.name, unl (!(S x.name)) 9, rng x.size 1 9, termE x.terminal]
set_option maxRecDepth 100000 in
set_option maxHeartbeats 1000000 in
theorem stand1_any (c1 cm m n : Nat) (S : ByteArray → Bool) (x : StandV) (w : World) (f1 : w.cell? ⟨c1, 0, none⟩ = some (.func (.func 132) #[] #[.pointer (some ⟨cm, 0, none⟩)])) (f2 : w.cell? ⟨cm, 0, none⟩ = some (.map (some m))) (hS : SeenM w m n S) (n1 : c1 ≠ m) (n2 : cm ≠ m) (hm : m < w.heap.size) (hq : x.name.size ≤ maxLen) (hn : n < 1000) :
    Calls Tryz.prog 79 #[.agg x.cells, .pointer (some ⟨c1, 0, none⟩)] w
      fun e w' => e = .returned (.int .i64 (standE S x)) ∧ SeenM w' m (n + 1) (onceStep S x.name) ∧ w.grownBy w' (some m) := by
  have HE : Hid (standE S x = fst [nameE x.name, unl (!(S x.name)) 9, rng x.size 1 9, termE x.terminal]) := Lib.hid rfl
  obtain ⟨W, HW, hb0, R⟩ := Stand_new w x 54
  have g1 := b_old hb0 f1
  have g2 := b_old hb0 f2
  have hSW := hS.below hb0
  have hon : ∀ v, W.grownBy v (some m) → SeenM v m n S → Calls Tryz.prog 132 #[.string x.name, .pointer (some ⟨cm, 0, none⟩)] v fun e w' => e = .returned (.int .i64 (unl (!(S x.name)) 9)) ∧ W.grownBy w' (some m) ∧ SeenM w' m (n + 1) (onceStep S x.name) :=
    fun v hv hs => (once_any cm m n S x.name v (gb_cell' hv g2 n2) hs hq hn).mono fun e w' ⟨h1, h2, h3⟩ => ⟨h1, gb_trans' hv h3, h2⟩
  obtain ⟨name, size, terminal⟩ := x
  obtain ⟨r0, r1, r2⟩ := R
  simp only [StandV.cells] at *
  clear f1 f2 hS hq
  have k0 : ∀ x : OffW W m, x.v.cell? ⟨w.heap.size, 0, none⟩ = _ := fun x => x.cell r0 (by omega)
  have k1 : ∀ x : OffW W m, x.v.cell? ⟨w.heap.size, 1, none⟩ = _ := fun x => x.cell r1 (by omega)
  have k2 : ∀ x : OffW W m, x.v.cell? ⟨w.heap.size, 2, none⟩ = _ := fun x => x.cell r2 (by omega)
  have j1 : ∀ x : OffW W m, x.v.cell? ⟨c1, 0, none⟩ = _ := fun x => x.cell g1 n1
  have hne : Nonempty (OffW W m) := ⟨⟨W, gb_but' (grown_below (Below.refl _ _)) _⟩⟩
  have HCE : Hid (∀ v : World, W.grownBy v (some m) → (v.cell? ⟨w.heap.size, 0, none⟩ = some (.string name) ∧ v.cell? ⟨w.heap.size, 1, none⟩ = some (.int .i64 size) ∧ v.cell? ⟨w.heap.size, 2, none⟩ = some (.string terminal) ∧ v.cell? ⟨c1, 0, none⟩ = some (.func (.func 132) #[] #[.pointer (some ⟨cm, 0, none⟩)]))) := Lib.hid fun v hv => ⟨gb_cell' hv r0 (by omega), gb_cell' hv r1 (by omega), gb_cell' hv r2 (by omega), gb_cell' hv g1 n1⟩
  clear r0 r1 r2 g1 g2
  go_enter Tryz.func79, Tryz.ntmps79
  go_wp2_with fail
  rw [HW.out]
  refine writer_tail (fun o => o.dst == some 10) (fun v => ∃ x : OffW W m, v = x.v) (fun v => SeenM v m n S) (fun v => SeenM v m (n + 1) (onceStep S name)) 6 13 (by kernel_rfl) (by kernel_rfl) (by kernel_rfl) (by decide) (fun _ _ h k => by obtain ⟨x, rfl⟩ := h; exact ⟨⟨_, gb_trans' x.g (gb_but' (grown_below k) _)⟩, rfl⟩) (fun _ _ h k => h.below k) (fun _ _ h k => h.below k) ⟨⟨W, gb_but' (grown_below (Below.refl _ _)) _⟩, rfl⟩ hSW ?_
  simp only [List.take_succ_cons, List.take_zero, List.drop_succ_cons, List.drop_zero]
  refine y_run 6 (by kernel_rfl) ?_ (fun w1 hw1 => ?_)
  · simp only [List.take_succ_cons, List.take_zero, List.drop_succ_cons, List.drop_zero]
    iterate 2 (go_big_quiet_step (fail))
    go_big_quiet_step (exact OffW.calls (CName_any _ _))
    iterate 3 (go_big_quiet_step (fail))
    refine wpQuiet_nil ?_
    refine y_at (f := 132) (args := #[.string name, .pointer (some ⟨cm, 0, none⟩)]) rfl rfl (fun w => by simp [go_sem]) (fun v hv hs => by obtain ⟨x, rfl⟩ := hv; exact (hon x.v x.g hs).mono fun e w' h => ⟨h.1, ⟨⟨w', h.2.1⟩, rfl⟩, h.2.2⟩) ?_
    simp only [Act.put, List.setIfInBounds_toArray, List.set_cons_succ, List.set_cons_zero]
    refine y_run 6 (by kernel_rfl) ?_ (fun w1 hw1 => ?_)
    · simp only [List.take_succ_cons, List.take_zero, List.drop_succ_cons, List.drop_zero]
      iterate 2 (go_big_quiet_step (fail))
      go_big_quiet_step (exact OffW.calls_same (gSize_any _ _))
      iterate 2 (go_big_quiet_step (fail))
      go_big_quiet_step (exact OffW.calls (gTerm_any _ _))
      refine wpQuiet_nil ?_
      rintro _ ⟨y, rfl⟩ hS2
      have hgV : w.grownBy y.v (some m) := gb_trans' (gb_but' (grown_below hb0) _) y.g
      clear k0 k1 k2 j1 hon HCE
      go_wp2_with fail
      refine (fe_new [_, _, _, _] _ _ _ _ _ rfl rfl (by simp)).mono ?_
      rintro e2 w2 ⟨rfl, hw⟩
      go_wp2_with fail
      go_ret
      subst hw
      exact ⟨by rw [HE.out]; rfl, hS2.below (below_alloc _ _), gb_trans' hgV (gb_but' (grown_below (below_alloc _ _)) _)⟩
    · obtain ⟨s0, s1, s2, -⟩ := HCE.out w1 (by obtain ⟨x, rfl⟩ := hw1; exact x.g)
      have k0 : ∀ x : KeptW w1, x.v.cell? ⟨w.heap.size, 0, none⟩ = _ := fun x => x.cell s0
      have k1 : ∀ x : KeptW w1, x.v.cell? ⟨w.heap.size, 1, none⟩ = _ := fun x => x.cell s1
      have k2 : ∀ x : KeptW w1, x.v.cell? ⟨w.heap.size, 2, none⟩ = _ := fun x => x.cell s2
      have hne1 : Nonempty (KeptW w1) := ⟨⟨w1, Below.refl _ _⟩⟩
      simp only [List.take_succ_cons, List.take_zero]
      iterate 2 (go_big_quiet_step (fail))
      go_big_quiet_step (exact KeptW.calls_same (gSize_any _ _))
      iterate 2 (go_big_quiet_step (fail))
      go_big_quiet_step (exact KeptW.calls (gTerm_any _ _))
      exact wpQuiet_nil trivial
  · obtain ⟨s0, s1, s2, t1⟩ := HCE.out w1 (by obtain ⟨x, rfl⟩ := hw1; exact x.g)
    have k0 : ∀ x : KeptW w1, x.v.cell? ⟨w.heap.size, 0, none⟩ = _ := fun x => x.cell s0
    have k1 : ∀ x : KeptW w1, x.v.cell? ⟨w.heap.size, 1, none⟩ = _ := fun x => x.cell s1
    have k2 : ∀ x : KeptW w1, x.v.cell? ⟨w.heap.size, 2, none⟩ = _ := fun x => x.cell s2
    have j1 : ∀ x : KeptW w1, x.v.cell? ⟨c1, 0, none⟩ = _ := fun x => x.cell t1
    have hne1 : Nonempty (KeptW w1) := ⟨⟨w1, Below.refl _ _⟩⟩
    simp only [List.take_succ_cons, List.take_zero]
    iterate 2 (go_big_quiet_step (fail))
    go_big_quiet_step (exact KeptW.calls (CName_any _ _))
    iterate 3 (go_big_quiet_step (fail))
    exact wpQuiet_nil trivial
end Go.Proofs.YtkjhnemfebgcnaaGreatDoor
namespace Go.Proofs.YtkjhnemfebgcnaaGreatDoor
open Go Go.RowKit Go.ChangeMaps Go.MapKept
theorem store_func' (w : World) (a : Addr) (m : Mode) (fn : Fn) (first captured : Array Value) : (store a (.func fn first captured) m).run Tryz.prog w = stored Tryz.prog w a (.func fn first captured) m := run_store Tryz.prog w a _ m rfl
theorem pr_below {w w' : World} {base : Nat} {e : TypeId} {size : Nat} {v : Value} {n : Nat} {xs : List Value} (h : w.ownsRow base e size v n xs) (hb : Below w.heap.size w w') : w'.ownsRow base e size v n xs :=
  h.kept (grown_below hb) (by cases h : v.ownBlock with
    | none => exact .inl rfl
    | some k => exact .inr (by simp))
theorem pr_blk {w : World} {base : Nat} {e : TypeId} {size : Nat} {v : Value} {n : Nat} {xs : List Value} (h : w.ownsRow base e size v n xs) : ∀ k, v.ownBlock = some k → base ≤ k := by
  intro k hk
  rcases h.2 with ⟨hv, _⟩ | ⟨g, cap, cur, hv, hb, _⟩
  · subst hv; simp [Value.ownBlock] at hk
  · subst hv; simp only [Value.ownBlock, Option.some.injEq] at hk; omega
theorem heap_new (w : World) (o : Obj) : (w.alloc o).heap[w.heap.size]? = some o := by
  show (w.heap.push _)[_]? = _; simp
theorem pr_zero {w : World} {base : Nat} {e : TypeId} {size : Nat} {v : Value} {xs : List Value} (h : w.ownsRow base e size v 0 xs) : ∃ A c, v = .slice A 0 c := by
  rcases h.2 with ⟨rfl, _⟩ | ⟨g, cap, cur, rfl, _⟩
  · exact ⟨none, 0, rfl⟩
  · exact ⟨_, _, rfl⟩
theorem own_cap {w : World} {base : Nat} {e : TypeId} {size : Nat} {g n cp : Nat} {xs : List Value} (h : w.ownsRow base e size (.slice (some ⟨g, 0, none⟩) n cp) n xs) : n ≤ cp := by
  rcases h.2 with ⟨hv, _⟩ | ⟨g', cp', cur, hv, _, _, hc, _⟩
  · cases hv
  · cases hv; exact hc
section
variable {α : Type} {f : α → Array Value} {k : Nat}
def flatG (f : α → Array Value) (l : List α) : List Value := (l.map fun x => (f x).toList).flatten
theorem flatG_snoc (l : List α) (x : α) : flatG f (l ++ [x]) = flatG f l ++ (f x).toList := by simp [flatG]
theorem flatG_len (hk : ∀ x, (f x).size = k) (l : List α) : (flatG f l).length = l.length * k := by
  induction l with
  | nil => simp [flatG]
  | cons x r ih =>
    have e : flatG f (x :: r) = (f x).toList ++ flatG f r := by simp [flatG]
    rw [e, List.length_append, ih, Array.length_toList, hk x, List.length_cons, Nat.add_mul, Nat.one_mul, Nat.add_comm]
/-- A call that has returned a slice of these structs, of its own. -/
structure SlR (f : α → Array Value) (k : Nat) (T : TypeId) (e : Ending) (w' : World) (N : Nat) (l : List α) : Prop where
  ex : ∃ v, e = .returned v ∧ w'.ownsRow N T k v l.length (flatG f l)
end
section
variable {α : Type} [Inhabited α] {f : α → Array Value} {k : Nat}
/-- The cells of a slice of structs. -/
structure RowsAt (f : α → Array Value) (k : Nat) (w : World) (b off : Nat) (l : List α) : Prop where
  c : ∀ i, i < l.length → ∀ t v, (f (l.getD i default))[t]? = some v → w.cell? ⟨b, off + i * k + t, none⟩ = some v
theorem RowsAt.below {w w' : World} {b off : Nat} {l : List α} (h : RowsAt f k w b off l) (hb : Below w.heap.size w w') : RowsAt f k w' b off l := ⟨fun i hi t v hv => b_old hb (h.c i hi t v hv)⟩
theorem RowsAt.grown {w w' : World} {b off : Nat} {l : List α} {r : Nat} (h : RowsAt f k w b off l) (hg : w.grownBy w' (some r)) (hne : b ≠ r) : RowsAt f k w' b off l := ⟨fun i hi t v hv => gb_cell' hg (h.c i hi t v hv) hne⟩
theorem flatG_at (hk : ∀ x, (f x).size = k) (l : List α) : ∀ (i t : Nat), i < l.length → t < k → (flatG f l)[i * k + t]? = (f (l.getD i default))[t]? := by
  induction l with
  | nil => intro i t h; simp at h
  | cons x r ih =>
    intro i t h ht
    have e : flatG f (x :: r) = (f x).toList ++ flatG f r := by simp [flatG]
    have hs : (f x).toList.length = k := by rw [Array.length_toList, hk x]
    cases i with
    | zero => rw [e, List.getElem?_append_left (by omega)]; simp
    | succ j =>
      have e2 : (j + 1) * k + t = k + (j * k + t) := by rw [Nat.add_mul, Nat.one_mul]; omega
      rw [e, e2, List.getElem?_append_right (by omega), hs, Nat.add_sub_cancel_left, ih j t (by simpa using h) ht]
      simp
theorem flatG_take (l : List α) (i : Nat) (h : i < l.length) : flatG f (l.take (i + 1)) = flatG f (l.take i) ++ (f (l.getD i default)).toList := by
  rw [← flatG_snoc]
  congr 1
  rw [List.take_succ_eq_append_getElem h]; simp [List.getD_eq_getElem?_getD, List.getElem?_eq_getElem h]
theorem rowsG_own (hk : ∀ x, (f x).size = k) {T : TypeId} {w : World} {base g c : Nat} {l : List α} (h : w.ownsRow base T k (.slice (some ⟨g, 0, none⟩) l.length c) l.length (flatG f l)) : RowsAt f k w g 0 l :=
  ⟨fun i hi t v hv => by
    have ht : t < k := by
      have := (Array.getElem?_eq_some_iff.1 hv).1
      rwa [hk] at this
    have hlt : i * k + t < l.length * k := by
      have : (i + 1) * k ≤ l.length * k := Nat.mul_le_mul_right k hi
      rw [Nat.add_mul, Nat.one_mul] at this
      omega
    have e : w.cell? ⟨g, i * k + t, none⟩ = (flatG f l)[i * k + t]? := h.cellAt _ hlt
    rw [flatG_at hk l i t hi ht, hv] at e
    rw [Nat.zero_add]
    exact e⟩
theorem rowsG_cells (hk : ∀ x, (f x).size = k) (hp : 0 < k) {w : World} {b off : Nat} {l : List α} (h : RowsAt f k w b off l) : ∀ j u, (flatG f l)[j]? = some u → w.cell? ((⟨b, off, none⟩ : Addr).add j) = some u := fun j u hu => by
  have hj : j < l.length * k := by
    have := (List.getElem?_eq_some_iff.1 hu).1
    rwa [flatG_len hk] at this
  have hi : j / k < l.length := Nat.div_lt_of_lt_mul (by rwa [Nat.mul_comm])
  have hd := Nat.div_add_mod' j k
  have e := flatG_at hk l (j / k) (j % k) hi (Nat.mod_lt _ hp)
  rw [hd, hu] at e
  have := h.c (j / k) hi (j % k) u e.symm
  rw [Go.WideShapes.add_plain]
  rw [Nat.add_assoc, hd] at this
  exact this
/-- A value that is a slice of these structs. -/
def SlArg (f : α → Array Value) (k : Nat) (w : World) (v : Value) (l : List α) : Prop :=
  (l = [] ∧ ∃ A c, v = .slice A 0 c) ∨ (0 < l.length ∧ ∃ b off cap, v = .slice (some ⟨b, off, none⟩) l.length cap ∧ RowsAt f k w b off l ∧ l.length ≤ cap ∧ b < w.heap.size)
theorem SlArg.len {w : World} {v : Value} {l : List α} (h : SlArg f k w v l) : ∃ A c, v = .slice A l.length c := by
  rcases h with ⟨rfl, A, c, rfl⟩ | ⟨_, b, off, cap, rfl, _⟩
  · exact ⟨A, c, rfl⟩
  · exact ⟨_, _, rfl⟩
theorem SlArg.below {w w' : World} {v : Value} {l : List α} (h : SlArg f k w v l) (hb : Below w.heap.size w w') : SlArg f k w' v l := by
  rcases h with h | ⟨h0, b, off, cap, hv, hl, hc, hg⟩
  · exact .inl h
  · exact .inr ⟨h0, b, off, cap, hv, hl.below hb, hc, Nat.lt_of_lt_of_le hg hb.size⟩
theorem slArg_own (hk : ∀ x, (f x).size = k) (hp : 0 < k) {T : TypeId} {w : World} {base : Nat} {v : Value} {l : List α} (h : w.ownsRow base T k v l.length (flatG f l)) : SlArg f k w v l := by
  rcases Nat.eq_zero_or_pos l.length with h0 | h0
  · have e : l = [] := List.length_eq_zero_iff.1 h0
    rw [h0] at h
    obtain ⟨A, c, rfl⟩ := pr_zero h
    exact .inl ⟨e, A, c, rfl⟩
  · have h' := h
    rw [show l.length = (l.length - 1) + 1 by omega] at h'
    obtain ⟨g, cp, hv⟩ := ownsRow_succ h'
    rw [Nat.sub_add_cancel h0] at hv
    subst hv
    have hR := rowsG_own hk h
    have hne : ∃ u, (f (l.getD 0 default))[0]? = some u := ⟨_, Array.getElem?_eq_getElem (by rw [hk]; exact hp)⟩
    obtain ⟨u, hu⟩ := hne
    exact .inr ⟨h0, g, 0, cp, rfl, hR, own_cap h, cell_in (hR.c 0 h0 0 u hu)⟩
end
end Go.Proofs.YtkjhnemfebgcnaaGreatDoor
namespace Go.Proofs.YtkjhnemfebgcnaaGreatDoor
open Go Go.RowKit Go.ChangeMaps Go.MapKept
set_option maxRecDepth 100000 in
set_option maxHeartbeats 2000000 in
theorem standList_any (c1 cm m : Nat) (l : List StandV) (b off cap : Nat) (most : Int) (w : World) (f1 : w.cell? ⟨c1, 0, none⟩ = some (.func (.func 132) #[] #[.pointer (some ⟨cm, 0, none⟩)])) (f2 : w.cell? ⟨cm, 0, none⟩ = some (.map (some m))) (hS : SeenM w m 0 (fun _ => false)) (n1 : c1 ≠ m) (n2 : cm ≠ m) (hm : m < w.heap.size) (hl : RowsAt StandV.cells 3 w b off l) (hbm : b ≠ m) (hn : (l.length : Int) ≤ most) (hmo : most ≤ 900)
    (hs : ∀ k, k < l.length → (l.getD k default).name.size ≤ maxLen) :
    Calls Tryz.prog 78 #[.slice (some ⟨b, off, none⟩) l.length cap, .int .i64 most, .func (.func 79) #[] #[.pointer (some ⟨c1, 0, none⟩)]] w
      fun e w' => e = .returned (.int .i64 (listErr standE StandV.name l fun _ => false)) ∧ w.grownBy w' (some m) := by
  have HL := Lib.hid hl
  have HS := Lib.hid hs
  have HSN := Lib.hid hS
  have HF1 := Lib.hid f1
  have HF2 := Lib.hid f2
  have hgt : ¬ (l.length : Int) > most := by omega
  obtain ⟨R, hR⟩ : ∃ R, R = listErr standE StandV.name l fun _ => false := ⟨_, rfl⟩
  rw [← hR]
  have HR := Lib.hid hR
  clear hl hs hS f1 f2 hR
  go_enter Tryz.func78, Tryz.ntmps78
  go_wp2_with fail
  go_loopw [8, 9, 16] (fun _ _ v16 wr => ∃ (k : Nat) (S : ByteArray → Bool), k ≤ l.length ∧ v16 = .int .i64 k ∧ Hid (R = listErr standE StandV.name (l.drop k) S) ∧ Hid (SeenM wr m k S) ∧ Hid (w.grownBy wr (some m))) (fun _ _ v16 _ => l.length - (intOf v16).toNat)
  case atStart => exact ⟨0, _, Nat.zero_le _, rfl, Lib.hid (by rw [HR.out]; rfl), HSN, Lib.hid (gb_but' (grown_below (Below.refl _ _)) _)⟩
  case round =>
    obtain ⟨k, S, hk, rfl, HD, HSe, HG⟩ := hrel
    by_cases hlt : k < l.length
    · have hrow := (HL.out.grown HG.out hbm).c k hlt
      have hsz := HS.out k hlt
      have hd := HD.out.trans (listErr_drop standE StandV.name l k hlt rfl S)
      generalize l.getD k default = x at hrow hsz hd
      have hms := HG.out.size
      have hcall : ∀ W : World, wr.grownBy W none → Calls Tryz.prog 79 #[.agg x.cells, .pointer (some ⟨c1, 0, none⟩)] W
          fun e w' => e = .returned (.int .i64 (standE S x)) ∧ SeenM w' m (k + 1) (onceStep S x.name) ∧ W.grownBy w' (some m) := fun W hW =>
        stand1_any c1 cm m k S x W (gb_cell' (gb_trans' HG.out (gb_but' hW _)) HF1.out n1) (gb_cell' (gb_trans' HG.out (gb_but' hW _)) HF2.out n2) (HSe.out.grown hW (by simp)) n1 n2 (by have := hW.size; omega) hsz (by omega)
      have HDD := Lib.hid hd
      clear hd
      generalize standE S x = e at *
      generalize onceStep S x.name = S' at *
      obtain ⟨name, size, terminal⟩ := x
      simp only [StandV.cells] at hrow hcall
      have x0 := hrow 0 _ rfl
      have x1 := hrow 1 _ rfl
      have x2 := hrow 2 _ rfl
      clear hrow
      simp only [Nat.add_zero] at x0
      have hal := grown_below (below_alloc wr (.cells #[.string name, .int .i64 size, .string terminal] 54))
      have HBA := Lib.hid hal
      go_wp2_with fail
      refine (hcall _ hal).mono ?_
      rintro e1 w1 ⟨rfl, hS1, hg1⟩
      have HG1 : Hid (w.grownBy w1 (some m)) := Lib.hid (gb_trans' (gb_trans' HG.out (gb_but' HBA.out _)) hg1)
      have HS1 := Lib.hid hS1
      clear hcall hal hg1 hS1 x0 x1 x2
      by_cases he : e = 0
      · subst he
        go_wp2_with fail
        go_roundw
        case rel => exact ⟨k + 1, S', by omega, by go_num, Lib.hid (by rw [HDD.out, if_neg (by simp)]), HS1, HG1⟩
        case measure => simp [intOf]; omega
      · have hb : (e != 0) = true := by simpa using he
        have HE := Lib.hid (show R = e by rw [HDD.out, if_pos he])
        go_wp2_with fail
        go_ret
        exact ⟨by rw [HE.out]; rfl, HG1.out⟩
    · have HE := Lib.hid (show R = 0 by rw [HD.out, List.drop_eq_nil_of_le (by omega)]; rfl)
      go_wp2_with fail
      go_ret
      exact ⟨by rw [HE.out]; rfl, HG.out⟩
set_option maxRecDepth 100000 in
theorem standList_many (F : Value) (A : Option Addr) (n cap : Nat) (most : Int) (w : World) (h : most < (n : Int)) :
    Calls Tryz.prog 78 #[.slice A n cap, .int .i64 most, F] w fun e w' => e = .returned (.int .i64 5) ∧ w' = w := by
  have hgt : (n : Int) > most := h
  go_enter Tryz.func78, Tryz.ntmps78
  go_wp2_with fail
  go_ret
  exact ⟨rfl, rfl⟩
set_option maxRecDepth 100000 in
theorem standList_none (F : Value) (A : Option Addr) (cap : Nat) (most : Int) (w : World) (h : 0 ≤ most) :
    Calls Tryz.prog 78 #[.slice A 0 cap, .int .i64 most, F] w fun e w' => e = .returned (.int .i64 0) ∧ w' = w := by
  have hgt : ¬ (0 : Int) > most := by omega
  go_enter Tryz.func78, Tryz.ntmps78
  go_wp2_with fail
  go_loopw [8, 9, 16] (fun _ _ v16 wr => v16 = .int .i64 0 ∧ wr = w) (fun _ _ _ _ => 0)
  case atStart => exact ⟨rfl, rfl⟩
  case round =>
    obtain ⟨rfl, rfl⟩ := hrel
    go_wp2_with fail
    go_ret
    exact ⟨rfl, rfl⟩
def standsErr (l : List StandV) : Int := if 32 < l.length then 5 else listErr standE StandV.name l fun _ => false
set_option maxRecDepth 100000 in
set_option maxHeartbeats 1000000 in
theorem CheckStands_any (l : List StandV) (v : Value) (w0 w : World) (hv : SlArg StandV.cells 3 w0 v l) (hb : Below w0.heap.size w0 w) (hs : ∀ k, k < l.length → (l.getD k default).name.size ≤ maxLen) :
    Calls Tryz.prog 22 #[v] w fun e w' => e = .returned (.int .i64 (standsErr l)) ∧ Below w.heap.size w w' := by
  have key : ∀ (c1 cm m : Nat) (W : World), W.cell? ⟨c1, 0, none⟩ = some (.func (.func 132) #[] #[.pointer (some ⟨cm, 0, none⟩)]) → W.cell? ⟨cm, 0, none⟩ = some (.map (some m)) → SeenM W m 0 (fun _ => false) → c1 ≠ m → cm ≠ m → m < W.heap.size → w.heap.size ≤ m → Below w.heap.size w W →
      Calls Tryz.prog 78 #[v, .int .i64 32, .func (.func 79) #[] #[.pointer (some ⟨c1, 0, none⟩)]] W fun e w' => e = .returned (.int .i64 (standsErr l)) ∧ Below w.heap.size w w' := by
    intro c1 cm m W f1 f2 hS n1 n2 hm hmw hW
    rcases hv with ⟨rfl, A, c, rfl⟩ | ⟨h0, b, off, cap, rfl, hl, hc, hg⟩
    · exact (standList_none _ A c 32 W (by decide)).mono fun e w' ⟨h1, h2⟩ => ⟨h1, h2 ▸ hW⟩
    · by_cases hlen : 32 < l.length
      · refine (standList_many _ _ l.length cap 32 W (by omega)).mono fun e w' ⟨h1, h2⟩ => ⟨?_, h2 ▸ hW⟩
        unfold standsErr
        rw [if_pos hlen]; exact h1
      · refine (standList_any c1 cm m l b off cap 32 W f1 f2 hS n1 n2 hm ((hl.below hb).below hW) (by have := hb.size; omega) (by omega) (by decide) hs).mono fun e w' ⟨h1, h2⟩ => ⟨?_, hW.grown h2 hW.size (by rintro k ⟨⟩; omega)⟩
        unfold standsErr
        rw [if_neg hlen]; exact h1
  have HK := Lib.hid key
  clear key
  obtain ⟨A, c, rfl⟩ := hv.len
  clear hv hb hs
  generalize standsErr l = R at *
  generalize l.length = nn at *
  have hsf := store_func'
  go_enter Tryz.func22, Tryz.ntmps22
  go_wp2_with fail
  refine (Once_new w).mono ?_
  rintro e1 w1 ⟨rfl, hS1, hcm, hb1, hs1⟩
  have HB1 := Lib.hid hb1
  have HS1 := Lib.hid hs1
  have HSS := Lib.hid hS1
  have HCM := Lib.hid hcm
  clear hb1 hs1 hS1 hcm
  go_wp2_with fail
  have hs1 := HS1.out
  have hb3 := below_alloc w1 (.cells #[.func (.func 132) #[] #[.pointer (some ⟨w.heap.size + 1, 0, none⟩)]] 163)
  refine (HK.out w1.heap.size (w.heap.size + 1) w.heap.size _ (cell_fresh w1 [_] _ 0 _ rfl) (b_old hb3 HCM.out) (HSS.out.below hb3) (by omega) (by omega) (by simp; omega) (Nat.le_refl _) (b_then HB1.out hb3)).mono ?_
  rintro e2 w2 ⟨rfl, hb2⟩
  go_wp2_with fail
  go_ret
  exact ⟨rfl, hb2⟩
end Go.Proofs.YtkjhnemfebgcnaaGreatDoor
namespace Go.Proofs.YtkjhnemfebgcnaaGreatDoor
open Go Go.RowKit
structure TurnV where
  name : ByteArray
  start : Int
  fin : Int
  size : Int
  terminal : ByteArray
instance : Inhabited TurnV := ⟨⟨ByteArray.empty, 0, 0, 0, ByteArray.empty⟩⟩
def TurnV.cells (x : TurnV) : Array Value := #[.string x.name, .int .i64 x.start, .int .i64 x.fin, .int .i64 x.size, .string x.terminal]
structure TurnW (w : World) (b : Nat) (x : TurnV) : Prop where
  c0 : w.cell? ⟨b, 0, none⟩ = some (.string x.name)
  c1 : w.cell? ⟨b, 1, none⟩ = some (.int .i64 x.start)
  c2 : w.cell? ⟨b, 2, none⟩ = some (.int .i64 x.fin)
  c3 : w.cell? ⟨b, 3, none⟩ = some (.int .i64 x.size)
  c4 : w.cell? ⟨b, 4, none⟩ = some (.string x.terminal)
theorem Turn_new (w : World) (x : TurnV) (T : TypeId) : ∃ W, Hid (w.alloc (.cells x.cells T) = W) ∧ Below w.heap.size w W ∧ TurnW W w.heap.size x := by
  refine ⟨_, Lib.hid rfl, below_alloc w _, ?_⟩
  unfold TurnV.cells
  constructor <;> simp
def turnE (S : ByteArray → Bool) (x : TurnV) : Int := fst [nameE x.name, unl (!(S x.name)) 9, rng x.start 0 143999999, rng x.fin 0 143999999, unl (decide (x.start ≤ x.fin)) 11, rng x.size 1 9, termE x.terminal]
set_option maxRecDepth 100000 in
set_option maxHeartbeats 1000000 in
theorem turn1_any (c1 cm m n : Nat) (S : ByteArray → Bool) (x : TurnV) (w : World) (f1 : w.cell? ⟨c1, 0, none⟩ = some (.func (.func 132) #[] #[.pointer (some ⟨cm, 0, none⟩)])) (f2 : w.cell? ⟨cm, 0, none⟩ = some (.map (some m))) (hS : SeenM w m n S) (n1 : c1 ≠ m) (n2 : cm ≠ m) (hm : m < w.heap.size) (hq : x.name.size ≤ maxLen) (hn : n < 1000) :
    Calls Tryz.prog 89 #[.agg x.cells, .pointer (some ⟨c1, 0, none⟩)] w
      fun e w' => e = .returned (.int .i64 (turnE S x)) ∧ SeenM w' m (n + 1) (onceStep S x.name) ∧ w.grownBy w' (some m) := by
  have HE : Hid (turnE S x = fst [nameE x.name, unl (!(S x.name)) 9, rng x.start 0 143999999, rng x.fin 0 143999999, unl (decide (x.start ≤ x.fin)) 11, rng x.size 1 9, termE x.terminal]) := Lib.hid rfl
  obtain ⟨W, HW, hb0, R⟩ := Turn_new w x 56
  have g1 := b_old hb0 f1
  have g2 := b_old hb0 f2
  have hSW := hS.below hb0
  have hon : ∀ v, W.grownBy v (some m) → SeenM v m n S → Calls Tryz.prog 132 #[.string x.name, .pointer (some ⟨cm, 0, none⟩)] v fun e w' => e = .returned (.int .i64 (unl (!(S x.name)) 9)) ∧ W.grownBy w' (some m) ∧ SeenM w' m (n + 1) (onceStep S x.name) :=
    fun v hv hs => (once_any cm m n S x.name v (gb_cell' hv g2 n2) hs hq hn).mono fun e w' ⟨h1, h2, h3⟩ => ⟨h1, gb_trans' hv h3, h2⟩
  obtain ⟨name, start, fin, size, terminal⟩ := x
  obtain ⟨r0, r1, r2, r3, r4⟩ := R
  simp only [TurnV.cells] at *
  clear f1 f2 hS hq
  have k0 : ∀ x : OffW W m, x.v.cell? ⟨w.heap.size, 0, none⟩ = _ := fun x => x.cell r0 (by omega)
  have k1 : ∀ x : OffW W m, x.v.cell? ⟨w.heap.size, 1, none⟩ = _ := fun x => x.cell r1 (by omega)
  have k2 : ∀ x : OffW W m, x.v.cell? ⟨w.heap.size, 2, none⟩ = _ := fun x => x.cell r2 (by omega)
  have k3 : ∀ x : OffW W m, x.v.cell? ⟨w.heap.size, 3, none⟩ = _ := fun x => x.cell r3 (by omega)
  have k4 : ∀ x : OffW W m, x.v.cell? ⟨w.heap.size, 4, none⟩ = _ := fun x => x.cell r4 (by omega)
  have j1 : ∀ x : OffW W m, x.v.cell? ⟨c1, 0, none⟩ = _ := fun x => x.cell g1 n1
  have hne : Nonempty (OffW W m) := ⟨⟨W, gb_but' (grown_below (Below.refl _ _)) _⟩⟩
  have HCE : Hid (∀ v : World, W.grownBy v (some m) → (v.cell? ⟨w.heap.size, 0, none⟩ = some (.string name) ∧ v.cell? ⟨w.heap.size, 1, none⟩ = some (.int .i64 start) ∧ v.cell? ⟨w.heap.size, 2, none⟩ = some (.int .i64 fin) ∧ v.cell? ⟨w.heap.size, 3, none⟩ = some (.int .i64 size) ∧ v.cell? ⟨w.heap.size, 4, none⟩ = some (.string terminal) ∧ v.cell? ⟨c1, 0, none⟩ = some (.func (.func 132) #[] #[.pointer (some ⟨cm, 0, none⟩)]))) := Lib.hid fun v hv => ⟨gb_cell' hv r0 (by omega), gb_cell' hv r1 (by omega), gb_cell' hv r2 (by omega), gb_cell' hv r3 (by omega), gb_cell' hv r4 (by omega), gb_cell' hv g1 n1⟩
  clear r0 r1 r2 r3 r4 g1 g2
  go_enter Tryz.func89, Tryz.ntmps89
  go_wp2_with fail
  rw [HW.out]
  refine writer_tail (fun o => o.dst == some 10) (fun v => ∃ x : OffW W m, v = x.v) (fun v => SeenM v m n S) (fun v => SeenM v m (n + 1) (onceStep S name)) 6 25 (by kernel_rfl) (by kernel_rfl) (by kernel_rfl) (by decide) (fun _ _ h k => by obtain ⟨x, rfl⟩ := h; exact ⟨⟨_, gb_trans' x.g (gb_but' (grown_below k) _)⟩, rfl⟩) (fun _ _ h k => h.below k) (fun _ _ h k => h.below k) ⟨⟨W, gb_but' (grown_below (Below.refl _ _)) _⟩, rfl⟩ hSW ?_
  simp only [List.take_succ_cons, List.take_zero, List.drop_succ_cons, List.drop_zero]
  refine y_run 6 (by kernel_rfl) ?_ (fun w1 hw1 => ?_)
  · simp only [List.take_succ_cons, List.take_zero, List.drop_succ_cons, List.drop_zero]
    iterate 2 (go_big_quiet_step (fail))
    go_big_quiet_step (exact OffW.calls (CName_any _ _))
    iterate 3 (go_big_quiet_step (fail))
    refine wpQuiet_nil ?_
    refine y_at (f := 132) (args := #[.string name, .pointer (some ⟨cm, 0, none⟩)]) rfl rfl (fun w => by simp [go_sem]) (fun v hv hs => by obtain ⟨x, rfl⟩ := hv; exact (hon x.v x.g hs).mono fun e w' h => ⟨h.1, ⟨⟨w', h.2.1⟩, rfl⟩, h.2.2⟩) ?_
    simp only [Act.put, List.setIfInBounds_toArray, List.set_cons_succ, List.set_cons_zero]
    refine y_run 18 (by kernel_rfl) ?_ (fun w1 hw1 => ?_)
    · simp only [List.take_succ_cons, List.take_zero, List.drop_succ_cons, List.drop_zero]
      iterate 2 (go_big_quiet_step (fail))
      go_big_quiet_step (exact OffW.calls_same (checkMoment_any _ _))
      iterate 2 (go_big_quiet_step (fail))
      go_big_quiet_step (exact OffW.calls_same (checkMoment_any _ _))
      iterate 5 (go_big_quiet_step (fail))
      go_big_quiet_step (exact OffW.calls_same (unless_any _ _ _))
      iterate 2 (go_big_quiet_step (fail))
      go_big_quiet_step (exact OffW.calls_same (gSize_any _ _))
      iterate 2 (go_big_quiet_step (fail))
      go_big_quiet_step (exact OffW.calls (gTerm_any _ _))
      refine wpQuiet_nil ?_
      rintro _ ⟨y, rfl⟩ hS2
      have hgV : w.grownBy y.v (some m) := gb_trans' (gb_but' (grown_below hb0) _) y.g
      clear k0 k1 k2 k3 k4 j1 hon HCE
      go_wp2_with fail
      refine (fe_new [_, _, _, _, _, _, _] _ _ _ _ _ rfl rfl (by simp)).mono ?_
      rintro e2 w2 ⟨rfl, hw⟩
      go_wp2_with fail
      go_ret
      subst hw
      exact ⟨by rw [HE.out]; rfl, hS2.below (below_alloc _ _), gb_trans' hgV (gb_but' (grown_below (below_alloc _ _)) _)⟩
    · obtain ⟨s0, s1, s2, s3, s4, -⟩ := HCE.out w1 (by obtain ⟨x, rfl⟩ := hw1; exact x.g)
      have k0 : ∀ x : KeptW w1, x.v.cell? ⟨w.heap.size, 0, none⟩ = _ := fun x => x.cell s0
      have k1 : ∀ x : KeptW w1, x.v.cell? ⟨w.heap.size, 1, none⟩ = _ := fun x => x.cell s1
      have k2 : ∀ x : KeptW w1, x.v.cell? ⟨w.heap.size, 2, none⟩ = _ := fun x => x.cell s2
      have k3 : ∀ x : KeptW w1, x.v.cell? ⟨w.heap.size, 3, none⟩ = _ := fun x => x.cell s3
      have k4 : ∀ x : KeptW w1, x.v.cell? ⟨w.heap.size, 4, none⟩ = _ := fun x => x.cell s4
      have hne1 : Nonempty (KeptW w1) := ⟨⟨w1, Below.refl _ _⟩⟩
      simp only [List.take_succ_cons, List.take_zero]
      iterate 2 (go_big_quiet_step (fail))
      go_big_quiet_step (exact KeptW.calls_same (checkMoment_any _ _))
      iterate 2 (go_big_quiet_step (fail))
      go_big_quiet_step (exact KeptW.calls_same (checkMoment_any _ _))
      iterate 5 (go_big_quiet_step (fail))
      go_big_quiet_step (exact KeptW.calls_same (unless_any _ _ _))
      iterate 2 (go_big_quiet_step (fail))
      go_big_quiet_step (exact KeptW.calls_same (gSize_any _ _))
      iterate 2 (go_big_quiet_step (fail))
      go_big_quiet_step (exact KeptW.calls (gTerm_any _ _))
      exact wpQuiet_nil trivial
  · obtain ⟨s0, s1, s2, s3, s4, t1⟩ := HCE.out w1 (by obtain ⟨x, rfl⟩ := hw1; exact x.g)
    have k0 : ∀ x : KeptW w1, x.v.cell? ⟨w.heap.size, 0, none⟩ = _ := fun x => x.cell s0
    have k1 : ∀ x : KeptW w1, x.v.cell? ⟨w.heap.size, 1, none⟩ = _ := fun x => x.cell s1
    have k2 : ∀ x : KeptW w1, x.v.cell? ⟨w.heap.size, 2, none⟩ = _ := fun x => x.cell s2
    have k3 : ∀ x : KeptW w1, x.v.cell? ⟨w.heap.size, 3, none⟩ = _ := fun x => x.cell s3
    have k4 : ∀ x : KeptW w1, x.v.cell? ⟨w.heap.size, 4, none⟩ = _ := fun x => x.cell s4
    have j1 : ∀ x : KeptW w1, x.v.cell? ⟨c1, 0, none⟩ = _ := fun x => x.cell t1
    have hne1 : Nonempty (KeptW w1) := ⟨⟨w1, Below.refl _ _⟩⟩
    simp only [List.take_succ_cons, List.take_zero]
    iterate 2 (go_big_quiet_step (fail))
    go_big_quiet_step (exact KeptW.calls (CName_any _ _))
    iterate 3 (go_big_quiet_step (fail))
    exact wpQuiet_nil trivial
end Go.Proofs.YtkjhnemfebgcnaaGreatDoor
namespace Go.Proofs.YtkjhnemfebgcnaaGreatDoor
open Go Go.RowKit Go.ChangeMaps Go.MapKept
set_option maxRecDepth 100000 in
set_option maxHeartbeats 2000000 in
theorem turnList_any (c1 cm m : Nat) (l : List TurnV) (b off cap : Nat) (most : Int) (w : World) (f1 : w.cell? ⟨c1, 0, none⟩ = some (.func (.func 132) #[] #[.pointer (some ⟨cm, 0, none⟩)])) (f2 : w.cell? ⟨cm, 0, none⟩ = some (.map (some m))) (hS : SeenM w m 0 (fun _ => false)) (n1 : c1 ≠ m) (n2 : cm ≠ m) (hm : m < w.heap.size) (hl : RowsAt TurnV.cells 5 w b off l) (hbm : b ≠ m) (hn : (l.length : Int) ≤ most) (hmo : most ≤ 900)
    (hs : ∀ k, k < l.length → (l.getD k default).name.size ≤ maxLen) :
    Calls Tryz.prog 88 #[.slice (some ⟨b, off, none⟩) l.length cap, .int .i64 most, .func (.func 89) #[] #[.pointer (some ⟨c1, 0, none⟩)]] w
      fun e w' => e = .returned (.int .i64 (listErr turnE TurnV.name l fun _ => false)) ∧ w.grownBy w' (some m) := by
  have HL := Lib.hid hl
  have HS := Lib.hid hs
  have HSN := Lib.hid hS
  have HF1 := Lib.hid f1
  have HF2 := Lib.hid f2
  have hgt : ¬ (l.length : Int) > most := by omega
  obtain ⟨R, hR⟩ : ∃ R, R = listErr turnE TurnV.name l fun _ => false := ⟨_, rfl⟩
  rw [← hR]
  have HR := Lib.hid hR
  clear hl hs hS f1 f2 hR
  go_enter Tryz.func88, Tryz.ntmps88
  go_wp2_with fail
  go_loopw [8, 9, 16] (fun _ _ v16 wr => ∃ (k : Nat) (S : ByteArray → Bool), k ≤ l.length ∧ v16 = .int .i64 k ∧ Hid (R = listErr turnE TurnV.name (l.drop k) S) ∧ Hid (SeenM wr m k S) ∧ Hid (w.grownBy wr (some m))) (fun _ _ v16 _ => l.length - (intOf v16).toNat)
  case atStart => exact ⟨0, _, Nat.zero_le _, rfl, Lib.hid (by rw [HR.out]; rfl), HSN, Lib.hid (gb_but' (grown_below (Below.refl _ _)) _)⟩
  case round =>
    obtain ⟨k, S, hk, rfl, HD, HSe, HG⟩ := hrel
    by_cases hlt : k < l.length
    · have hrow := (HL.out.grown HG.out hbm).c k hlt
      have hsz := HS.out k hlt
      have hd := HD.out.trans (listErr_drop turnE TurnV.name l k hlt rfl S)
      generalize l.getD k default = x at hrow hsz hd
      have hms := HG.out.size
      have hcall : ∀ W : World, wr.grownBy W none → Calls Tryz.prog 89 #[.agg x.cells, .pointer (some ⟨c1, 0, none⟩)] W
          fun e w' => e = .returned (.int .i64 (turnE S x)) ∧ SeenM w' m (k + 1) (onceStep S x.name) ∧ W.grownBy w' (some m) := fun W hW =>
        turn1_any c1 cm m k S x W (gb_cell' (gb_trans' HG.out (gb_but' hW _)) HF1.out n1) (gb_cell' (gb_trans' HG.out (gb_but' hW _)) HF2.out n2) (HSe.out.grown hW (by simp)) n1 n2 (by have := hW.size; omega) hsz (by omega)
      have HDD := Lib.hid hd
      clear hd
      generalize turnE S x = e at *
      generalize onceStep S x.name = S' at *
      obtain ⟨name, start, fin, size, terminal⟩ := x
      simp only [TurnV.cells] at hrow hcall
      have x0 := hrow 0 _ rfl
      have x1 := hrow 1 _ rfl
      have x2 := hrow 2 _ rfl
      have x3 := hrow 3 _ rfl
      have x4 := hrow 4 _ rfl
      clear hrow
      simp only [Nat.add_zero] at x0
      have hal := grown_below (below_alloc wr (.cells #[.string name, .int .i64 start, .int .i64 fin, .int .i64 size, .string terminal] 56))
      have HBA := Lib.hid hal
      go_wp2_with fail
      refine (hcall _ hal).mono ?_
      rintro e1 w1 ⟨rfl, hS1, hg1⟩
      have HG1 : Hid (w.grownBy w1 (some m)) := Lib.hid (gb_trans' (gb_trans' HG.out (gb_but' HBA.out _)) hg1)
      have HS1 := Lib.hid hS1
      clear hcall hal hg1 hS1 x0 x1 x2 x3 x4
      by_cases he : e = 0
      · subst he
        go_wp2_with fail
        go_roundw
        case rel => exact ⟨k + 1, S', by omega, by go_num, Lib.hid (by rw [HDD.out, if_neg (by simp)]), HS1, HG1⟩
        case measure => simp [intOf]; omega
      · have hb : (e != 0) = true := by simpa using he
        have HE := Lib.hid (show R = e by rw [HDD.out, if_pos he])
        go_wp2_with fail
        go_ret
        exact ⟨by rw [HE.out]; rfl, HG1.out⟩
    · have HE := Lib.hid (show R = 0 by rw [HD.out, List.drop_eq_nil_of_le (by omega)]; rfl)
      go_wp2_with fail
      go_ret
      exact ⟨by rw [HE.out]; rfl, HG.out⟩
set_option maxRecDepth 100000 in
theorem turnList_many (F : Value) (A : Option Addr) (n cap : Nat) (most : Int) (w : World) (h : most < (n : Int)) :
    Calls Tryz.prog 88 #[.slice A n cap, .int .i64 most, F] w fun e w' => e = .returned (.int .i64 5) ∧ w' = w := by
  have hgt : (n : Int) > most := h
  go_enter Tryz.func88, Tryz.ntmps88
  go_wp2_with fail
  go_ret
  exact ⟨rfl, rfl⟩
set_option maxRecDepth 100000 in
theorem turnList_none (F : Value) (A : Option Addr) (cap : Nat) (most : Int) (w : World) (h : 0 ≤ most) :
    Calls Tryz.prog 88 #[.slice A 0 cap, .int .i64 most, F] w fun e w' => e = .returned (.int .i64 0) ∧ w' = w := by
  have hgt : ¬ (0 : Int) > most := by omega
  go_enter Tryz.func88, Tryz.ntmps88
  go_wp2_with fail
  go_loopw [8, 9, 16] (fun _ _ v16 wr => v16 = .int .i64 0 ∧ wr = w) (fun _ _ _ _ => 0)
  case atStart => exact ⟨rfl, rfl⟩
  case round =>
    obtain ⟨rfl, rfl⟩ := hrel
    go_wp2_with fail
    go_ret
    exact ⟨rfl, rfl⟩
def turnsErr (l : List TurnV) : Int := if 256 < l.length then 5 else listErr turnE TurnV.name l fun _ => false
set_option maxRecDepth 100000 in
set_option maxHeartbeats 1000000 in
theorem CheckTurns_any (l : List TurnV) (v : Value) (w0 w : World) (hv : SlArg TurnV.cells 5 w0 v l) (hb : Below w0.heap.size w0 w) (hs : ∀ k, k < l.length → (l.getD k default).name.size ≤ maxLen) :
    Calls Tryz.prog 24 #[v] w fun e w' => e = .returned (.int .i64 (turnsErr l)) ∧ Below w.heap.size w w' := by
  have key : ∀ (c1 cm m : Nat) (W : World), W.cell? ⟨c1, 0, none⟩ = some (.func (.func 132) #[] #[.pointer (some ⟨cm, 0, none⟩)]) → W.cell? ⟨cm, 0, none⟩ = some (.map (some m)) → SeenM W m 0 (fun _ => false) → c1 ≠ m → cm ≠ m → m < W.heap.size → w.heap.size ≤ m → Below w.heap.size w W →
      Calls Tryz.prog 88 #[v, .int .i64 256, .func (.func 89) #[] #[.pointer (some ⟨c1, 0, none⟩)]] W fun e w' => e = .returned (.int .i64 (turnsErr l)) ∧ Below w.heap.size w w' := by
    intro c1 cm m W f1 f2 hS n1 n2 hm hmw hW
    rcases hv with ⟨rfl, A, c, rfl⟩ | ⟨h0, b, off, cap, rfl, hl, hc, hg⟩
    · exact (turnList_none _ A c 256 W (by decide)).mono fun e w' ⟨h1, h2⟩ => ⟨h1, h2 ▸ hW⟩
    · by_cases hlen : 256 < l.length
      · refine (turnList_many _ _ l.length cap 256 W (by omega)).mono fun e w' ⟨h1, h2⟩ => ⟨?_, h2 ▸ hW⟩
        unfold turnsErr
        rw [if_pos hlen]; exact h1
      · refine (turnList_any c1 cm m l b off cap 256 W f1 f2 hS n1 n2 hm ((hl.below hb).below hW) (by have := hb.size; omega) (by omega) (by decide) hs).mono fun e w' ⟨h1, h2⟩ => ⟨?_, hW.grown h2 hW.size (by rintro k ⟨⟩; omega)⟩
        unfold turnsErr
        rw [if_neg hlen]; exact h1
  have HK := Lib.hid key
  clear key
  obtain ⟨A, c, rfl⟩ := hv.len
  clear hv hb hs
  generalize turnsErr l = R at *
  generalize l.length = nn at *
  have hsf := store_func'
  go_enter Tryz.func24, Tryz.ntmps24
  go_wp2_with fail
  refine (Once_new w).mono ?_
  rintro e1 w1 ⟨rfl, hS1, hcm, hb1, hs1⟩
  have HB1 := Lib.hid hb1
  have HS1 := Lib.hid hs1
  have HSS := Lib.hid hS1
  have HCM := Lib.hid hcm
  clear hb1 hs1 hS1 hcm
  go_wp2_with fail
  have hs1 := HS1.out
  have hb3 := below_alloc w1 (.cells #[.func (.func 132) #[] #[.pointer (some ⟨w.heap.size + 1, 0, none⟩)]] 163)
  refine (HK.out w1.heap.size (w.heap.size + 1) w.heap.size _ (cell_fresh w1 [_] _ 0 _ rfl) (b_old hb3 HCM.out) (HSS.out.below hb3) (by omega) (by omega) (by simp; omega) (Nat.le_refl _) (b_then HB1.out hb3)).mono ?_
  rintro e2 w2 ⟨rfl, hb2⟩
  go_wp2_with fail
  go_ret
  exact ⟨rfl, hb2⟩
end Go.Proofs.YtkjhnemfebgcnaaGreatDoor
namespace Go.Proofs.YtkjhnemfebgcnaaGreatDoor
open Go Go.RowKit
structure MovV where
  moment : Int
  kind : ByteArray
  terminal : ByteArray
  seats : Int
  size : Int
  noise : Int
  name : ByteArray
instance : Inhabited MovV := ⟨⟨0, ByteArray.empty, ByteArray.empty, 0, 0, 0, ByteArray.empty⟩⟩
def MovV.cells (x : MovV) : Array Value := #[.int .i64 x.moment, .string x.kind, .string x.terminal, .int .i64 x.seats, .int .i64 x.size, .int .i64 x.noise, .string x.name]
structure MovW (w : World) (b : Nat) (x : MovV) : Prop where
  c0 : w.cell? ⟨b, 0, none⟩ = some (.int .i64 x.moment)
  c1 : w.cell? ⟨b, 1, none⟩ = some (.string x.kind)
  c2 : w.cell? ⟨b, 2, none⟩ = some (.string x.terminal)
  c3 : w.cell? ⟨b, 3, none⟩ = some (.int .i64 x.seats)
  c4 : w.cell? ⟨b, 4, none⟩ = some (.int .i64 x.size)
  c5 : w.cell? ⟨b, 5, none⟩ = some (.int .i64 x.noise)
  c6 : w.cell? ⟨b, 6, none⟩ = some (.string x.name)
theorem Mov_new (w : World) (x : MovV) (T : TypeId) : ∃ W, Hid (w.alloc (.cells x.cells T) = W) ∧ Below w.heap.size w W ∧ MovW W w.heap.size x := by
  refine ⟨_, Lib.hid rfl, below_alloc w _, ?_⟩
  unfold MovV.cells
  constructor <;> simp
def movE (x : MovV) : Int := fst [rng x.moment 0 143999999, kindE x.kind, termE x.terminal, rng x.seats 0 999, rng x.size 1 9, rng x.noise 0 99, nameE x.name]
set_option maxRecDepth 100000 in
set_option maxHeartbeats 1000000 in
theorem mov1_any (x : MovV) (w : World) :
    Calls Tryz.prog 93 #[.agg x.cells] w fun e w' => e = .returned (.int .i64 (movE x)) ∧ Below w.heap.size w w' := by
  have HE : Hid (movE x = fst [rng x.moment 0 143999999, kindE x.kind, termE x.terminal, rng x.seats 0 999, rng x.size 1 9, rng x.noise 0 99, nameE x.name]) := Lib.hid rfl
  obtain ⟨W, HW, hb0, R⟩ := Mov_new w x 50
  obtain ⟨moment, kind, terminal, seats, size, noise, name⟩ := x
  obtain ⟨r0, r1, r2, r3, r4, r5, r6⟩ := R
  simp only [MovV.cells] at *
  have k0 : ∀ x : KeptW W, x.v.cell? ⟨w.heap.size, 0, none⟩ = _ := fun x => x.cell r0
  have k1 : ∀ x : KeptW W, x.v.cell? ⟨w.heap.size, 1, none⟩ = _ := fun x => x.cell r1
  have k2 : ∀ x : KeptW W, x.v.cell? ⟨w.heap.size, 2, none⟩ = _ := fun x => x.cell r2
  have k3 : ∀ x : KeptW W, x.v.cell? ⟨w.heap.size, 3, none⟩ = _ := fun x => x.cell r3
  have k4 : ∀ x : KeptW W, x.v.cell? ⟨w.heap.size, 4, none⟩ = _ := fun x => x.cell r4
  have k5 : ∀ x : KeptW W, x.v.cell? ⟨w.heap.size, 5, none⟩ = _ := fun x => x.cell r5
  have k6 : ∀ x : KeptW W, x.v.cell? ⟨w.heap.size, 6, none⟩ = _ := fun x => x.cell r6
  have hne : Nonempty (KeptW W) := ⟨⟨W, Below.refl _ _⟩⟩
  clear r0 r1 r2 r3 r4 r5 r6
  go_enter Tryz.func93, Tryz.ntmps93
  go_wp2_with fail
  rw [HW.out]
  refine tail_kept 21 (by kernel_rfl) (by kernel_rfl) ?_
  simp only [List.take_succ_cons, List.take_zero, List.drop_succ_cons, List.drop_zero]
  iterate 2 (go_big_quiet_step (fail))
  go_big_quiet_step (exact KeptW.calls_same (checkMoment_any _ _))
  iterate 2 (go_big_quiet_step (fail))
  go_big_quiet_step (exact KeptW.calls_same (CKind_any _ _))
  iterate 2 (go_big_quiet_step (fail))
  go_big_quiet_step (exact KeptW.calls (gTerm_any _ _))
  iterate 2 (go_big_quiet_step (fail))
  go_big_quiet_step (exact KeptW.calls_same (checkRange_any _ _ _ _))
  iterate 2 (go_big_quiet_step (fail))
  go_big_quiet_step (exact KeptW.calls_same (gSize_any _ _))
  iterate 2 (go_big_quiet_step (fail))
  go_big_quiet_step (exact KeptW.calls_same (checkRange_any _ _ _ _))
  iterate 2 (go_big_quiet_step (fail))
  go_big_quiet_step (exact KeptW.calls (CName_any _ _))
  refine wpQuiet_nil ?_
  rintro _ ⟨x, rfl⟩
  have hbx := b_then hb0 x.below
  clear k0 k1 k2 k3 k4 k5 k6 hb0
  go_wp2_with fail
  refine (fe_new [_, _, _, _, _, _, _] _ _ _ _ _ rfl rfl (by simp)).mono ?_
  rintro e2 w2 ⟨rfl, hw⟩
  have hb2 : Below w.heap.size w w2 := by rw [hw]; exact b_then hbx (below_alloc _ _)
  clear hw
  go_wp2_with fail
  go_ret
  exact ⟨by rw [HE.out]; rfl, hb2⟩
end Go.Proofs.YtkjhnemfebgcnaaGreatDoor
