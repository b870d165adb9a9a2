/- Contracts of the small functions of package calendar, over any world. · Plain arithmetic of the Gregorian calendar: no program. · Contracts of the functions of package calendar that count days. · Contracts of package calendar: days of dates, Sundays, checks. · What a walk keeps: old cells, and the laid variables. · The runes of a text, one by one: a byte below 128 is a rune of its own; at any other byte the rune is 128 or more. · Contracts: names (package check, package calendar and the reference). · Contracts of package check: names, optional names, kinds. · Contracts of package calendar: has. · A region that draws its order: its first n operations leave the world in a class C (each yields one value in every world of the class), the others come one after another behind them. One walk in the o · Contracts of package calendar: CheckPeriod, daysIn. · A region that draws its order and whose operations read, or call what makes memory of its own: one walk in the order of the text, in the class of the worlds that keep what the world at its beginning h · Contracts of package message: CheckRequest. · What check.Once gives: a function that remembers the strings that it was called with. · Contracts of check.Named at requests: the error of a request, and that its name is new. · Contracts: the actions of lines, of package message and of the reference. · Contracts of the reference: ranges, days, periods (for seats without the reference's other functions). -/
import Derived.Test.YtlcmcknbbmokjaaGreatProg
import Derived.WalkKit
import Derived.IntWalk
import Derived.Outline
import Derived.Lib.Hide
import Derived.LoopTactic
import Derived.Deep.QuietTactic
import Derived.BigQuiet
import Derived.StillTailTactics
import Derived.KernelRfl
import Derived.Below
import Derived.Deep.DeepFit
import Derived.Laws.RangeString
import Derived.Laws.RangeAny
import Derived.Lib.OthersKept
import Derived.Lib.RabinKarpLaws
import Derived.StillTail
import Derived.Deep.Quiet
import Derived.Maps.Own
import Derived.Maps.Views
import Derived.Maps.OwnSet
import Derived.StringKeys
import Derived.OpenShut
import Derived.OwnWalk
namespace Go.Proofs.YtlcmcknbbmokjaaGreat
open Go.RowKit
theorem ret_int {k : IntKind} {a b : Int} (h : a = b) : Ending.returned (.int k a) = .returned (.int k b) := by rw [h]

/-- A number and an error: the number is 0 beside an error. -/
def num2 (bad v : Int) : Value := .tuple #[.int .i64 (if bad = 0 then v else 0), .int .i64 bad]
theorem num2_ok (v : Int) : num2 0 v = .tuple #[.int .i64 v, .int .i64 0] := rfl
theorem num2_bad {bad : Int} (v : Int) (h : bad ≠ 0) : num2 bad v = .tuple #[.int .i64 0, .int .i64 bad] := by unfold num2; rw [if_neg h]

/-- What unless returns. -/
def unl (b : Bool) (e : Int) : Int := if b = true then 0 else e
theorem unl_t (e : Int) : unl true e = 0 := rfl
theorem unl_f (e : Int) : unl false e = e := rfl
theorem unless_any (b : Bool) (e : Int) (w : World) :
    Calls Tryz.prog 84 #[.bool b, .int .i64 e] w fun r w' => r = .returned (.int .i64 (unl b e)) ∧ w' = w := by
  cases b
  all_goals
    go_enter Tryz.func84, Tryz.ntmps84
    go_wp2
    go_ret
    exact ⟨rfl, rfl⟩

theorem unless_t (e : Int) (w : World) :
    Calls Tryz.prog 84 #[.bool true, .int .i64 e] w fun r w' => r = .returned (.int .i64 0) ∧ w' = w := unless_any true e w
theorem unless_f (e : Int) (w : World) :
    Calls Tryz.prog 84 #[.bool false, .int .i64 e] w fun r w' => r = .returned (.int .i64 e) ∧ w' = w := unless_any false e w
/-- ErrRange if n is not from a to b. -/
def rng (n a b : Int) : Int := if a ≤ n ∧ n ≤ b then 0 else 3
theorem checkRange_any (n a b : Int) (w : World) :
    Calls Tryz.prog 179 #[.int .i64 n, .int .i64 a, .int .i64 b] w fun r w' => r = .returned (.int .i64 (rng n a b)) ∧ w' = w := by
  have R : rng n a b = if (decide (a ≤ n) && decide (n ≤ b)) = true then 0 else 3 := by simp [rng]
  by_cases h1 : a ≤ n
  · by_cases h2 : n ≤ b
    · have H : Hid (rng n a b = 0) := Lib.hid (by simp [rng, h1, h2])
      clear R
      go_enter Tryz.func179, Tryz.ntmps179
      go_wp2_with (go_at_call 84; refine (unless_any _ _ _).mono ?_; rintro e w' ⟨rfl, rfl⟩)
      go_ret
      exact ⟨by rw [H.out]; rfl, rfl⟩
    · have H : Hid (rng n a b = 3) := Lib.hid (by simp [rng, h2])
      clear R
      go_enter Tryz.func179, Tryz.ntmps179
      go_wp2_with (go_at_call 84; refine (unless_any _ _ _).mono ?_; rintro e w' ⟨rfl, rfl⟩)
      go_ret
      exact ⟨by rw [H.out]; rfl, rfl⟩
  · have H : Hid (rng n a b = 3) := Lib.hid (by simp [rng, h1])
    clear R
    go_enter Tryz.func179, Tryz.ntmps179
    go_wp2_with (go_at_call 84; refine (unless_any _ _ _).mono ?_; rintro e w' ⟨rfl, rfl⟩)
    go_ret
    exact ⟨by rw [H.out]; rfl, rfl⟩

/-- The first of some numbers that is not 0. -/
def fst (l : List Int) : Int := match l with
  | [] => 0
  | x :: r => if x = 0 then fst r else x

theorem fst_drop (es : List Int) (k : Nat) (h : k < es.length) : fst (es.drop k) = if es.getD k 0 = 0 then fst (es.drop (k + 1)) else es.getD k 0 := by
  rw [List.drop_eq_getElem_cons h]
  simp [fst, h]
theorem firstError_any (es : List Int) (b c : Nat) (w : World) (hc : ∀ i, i < es.length → w.cell? ⟨b, i, none⟩ = some (.int .i64 (es.getD i 0))) (hl : es.length ≤ 100) :
    Calls Tryz.prog 82 #[.slice (some ⟨b, 0, none⟩) es.length c] w fun r w' => r = .returned (.int .i64 (fst es)) ∧ w' = w := by
  have HC := Lib.hid hc
  clear hc
  go_enter Tryz.func82, Tryz.ntmps82
  go_wp2
  go_loop [7] (fun i => ∃ k : Nat, k ≤ es.length ∧ i = .int .i64 k ∧ Hid (fst es = fst (es.drop k))) (fun i => es.length - (intOf i).toNat)
  case atStart => exact ⟨0, Nat.zero_le _, rfl, Lib.hid (by simp)⟩
  case round =>
    obtain ⟨k, hk, rfl, HF⟩ := hrel
    by_cases hlt : k < es.length
    · have hcell := HC.out k hlt
      have hd := fst_drop es k hlt
      by_cases hz : es.getD k 0 = 0
      · have HD := Lib.hid hd; clear hd
        have HZ := Lib.hid hz; 
        rw [hz] at hcell
        clear hz
        go_wp2
        go_round
        case rel => exact ⟨k + 1, by omega, by go_num, Lib.hid (by rw [HF.out, HD.out, if_pos HZ.out])⟩
        case measure => simp [intOf]; omega
      · have HD := Lib.hid (show fst es = es.getD k 0 by rw [HF.out, hd, if_neg hz]); clear hd
        generalize es.getD k 0 = x at *
        have hb : (x != 0) = true := by simpa using hz
        clear hz
        go_wp2
        go_ret
        exact ⟨by rw [HD.out]; rfl, rfl⟩
    · have HD := Lib.hid (show fst es = 0 by rw [HF.out, List.drop_of_length_le (by omega)]; rfl)
      go_wp2
      go_ret
      exact ⟨by rw [HD.out]; rfl, rfl⟩
end Go.Proofs.YtlcmcknbbmokjaaGreat
namespace Go.Proofs.YtlcmcknbbmokjaaGreat.Cal
def lp (y : Int) : Int := y / 4 - y / 100 + y / 400
def db (y : Int) : Int := 365 * (y - 2000) + lp (y - 1) - 484
def leap (y : Int) : Bool := decide (lp (y - 1) < lp y)
def tab : List Int := [31, 28, 31, 30, 31, 30, 31, 31, 30, 31, 30, 31]
def ml (y : Int) (m : Nat) : Int := if m = 2 ∧ leap y = true then 29 else tab.getD (m - 1) 0
def cum (y : Int) : Nat → Int
  | 0 => 0
  | k + 1 => cum y k + ml y (k + 1)
def dn (y : Int) (m : Nat) (d : Int) : Int := db y + d - 1 + cum y (m - 1)
def wd (d : Int) : Int := (d + 5) % 7
def ls (y : Int) (m : Nat) : Int := dn y m 31 - (wd (dn y m 31) - 6 + 7) % 7
theorem lp_bd (y : Int) (h1 : 1 ≤ y) (h2 : y ≤ 3000) : 0 ≤ lp y ∧ lp y ≤ 800 := by unfold lp; omega
theorem lp_step (y : Int) : lp (y - 1) ≤ lp y ∧ lp y ≤ lp (y - 1) + 1 := by unfold lp; omega
def lv (y : Int) : Int := if leap y = true then 1 else 0
theorem lv_bd (y : Int) : 0 ≤ lv y ∧ lv y ≤ 1 := by unfold lv; split <;> omega
theorem db_succ (y : Int) : db (y + 1) = db y + 365 + lv y := by
  have := lp_step y
  unfold db lv leap
  simp only [Int.add_sub_cancel]
  by_cases h : lp (y - 1) < lp y
  · simp only [h, decide_true, if_true]; omega
  · simp only [h, decide_false, Bool.false_eq_true, if_false]; omega
theorem db_bd (y : Int) (h1 : 2000 ≤ y) (h2 : y ≤ 2400) : 0 ≤ db y ∧ db y ≤ 147000 := by unfold db lp; omega
theorem db_lo (y : Int) (h1 : 2000 ≤ y) (h2 : y ≤ 2400) : 365 * (y - 2000) ≤ db y ∧ db y ≤ 366 * (y - 2000) := by unfold db lp; omega
theorem db_mono (a b : Int) (h : a ≤ b) : db a ≤ db b := by unfold db lp; omega
theorem db_2000 : db 2000 = 0 := by decide
theorem db_2273 : db 2273 = 99712 := by decide
theorem ml_bd (y : Int) (m : Nat) (h1 : 1 ≤ m) (h2 : m ≤ 12) : 28 ≤ ml y m ∧ ml y m ≤ 31 := by
  unfold ml
  split
  · omega
  · match m, h1, h2 with
    | 1, _, _ | 2, _, _ | 3, _, _ | 4, _, _ | 5, _, _ | 6, _, _ | 7, _, _ | 8, _, _ | 9, _, _ | 10, _, _ | 11, _, _ | 12, _, _ => decide
theorem ml_2 (y : Int) : ml y 2 = 28 + lv y := by unfold ml lv; cases leap y <;> decide
theorem ml_ne (y : Int) (m : Nat) (h : m ≠ 2) : ml y m = tab.getD (m - 1) 0 := by unfold ml; rw [if_neg (by simp [h])]
theorem cum_1 (y : Int) : cum y 1 = 31 := by simp only [cum, ml_ne y 1 (by decide)]; decide
theorem cum_2 (y : Int) : cum y 2 = 59 + lv y := by rw [cum, cum_1, ml_2]; omega
theorem cum_3 (y : Int) : cum y 3 = 90 + lv y := by rw [cum, cum_2, ml_ne y 3 (by decide), show tab.getD (3 - 1) 0 = (31 : Int) from rfl]; omega
theorem cum_4 (y : Int) : cum y 4 = 120 + lv y := by rw [cum, cum_3, ml_ne y 4 (by decide), show tab.getD (4 - 1) 0 = (30 : Int) from rfl]; omega
theorem cum_5 (y : Int) : cum y 5 = 151 + lv y := by rw [cum, cum_4, ml_ne y 5 (by decide), show tab.getD (5 - 1) 0 = (31 : Int) from rfl]; omega
theorem cum_6 (y : Int) : cum y 6 = 181 + lv y := by rw [cum, cum_5, ml_ne y 6 (by decide), show tab.getD (6 - 1) 0 = (30 : Int) from rfl]; omega
theorem cum_7 (y : Int) : cum y 7 = 212 + lv y := by rw [cum, cum_6, ml_ne y 7 (by decide), show tab.getD (7 - 1) 0 = (31 : Int) from rfl]; omega
theorem cum_8 (y : Int) : cum y 8 = 243 + lv y := by rw [cum, cum_7, ml_ne y 8 (by decide), show tab.getD (8 - 1) 0 = (31 : Int) from rfl]; omega
theorem cum_9 (y : Int) : cum y 9 = 273 + lv y := by rw [cum, cum_8, ml_ne y 9 (by decide), show tab.getD (9 - 1) 0 = (30 : Int) from rfl]; omega
theorem cum_10 (y : Int) : cum y 10 = 304 + lv y := by rw [cum, cum_9, ml_ne y 10 (by decide), show tab.getD (10 - 1) 0 = (31 : Int) from rfl]; omega
theorem cum_11 (y : Int) : cum y 11 = 334 + lv y := by rw [cum, cum_10, ml_ne y 11 (by decide), show tab.getD (11 - 1) 0 = (30 : Int) from rfl]; omega
theorem cum_12 (y : Int) : cum y 12 = 365 + lv y := by rw [cum, cum_11, ml_ne y 12 (by decide), show tab.getD (12 - 1) 0 = (31 : Int) from rfl]; omega
theorem cum_bd (y : Int) (m : Nat) (h : m ≤ 12) : 28 * m ≤ cum y m ∧ cum y m ≤ 31 * m := by
  induction m with
  | zero => simp [cum]
  | succ k ih =>
    have := ih (by omega)
    have b := ml_bd y (k + 1) (by omega) h
    rw [cum]; omega
theorem dn_bd (y : Int) (m : Nat) (d : Int) (h1 : 2000 ≤ y) (h2 : y ≤ 2300) (h3 : m ≤ 12) (h4 : 1 ≤ d) (h5 : d ≤ 31) : 0 ≤ dn y m d ∧ dn y m d ≤ 150000 := by
  have a := db_bd y h1 (by omega)
  have b := cum_bd y (m - 1) (by omega)
  unfold dn; omega
theorem wd_bd (d : Int) : 0 ≤ wd d ∧ wd d ≤ 6 := by unfold wd; omega
/-- Each day up to the last one has its year. -/
theorem year_ex (d : Int) (h0 : 0 ≤ d) (h1 : d ≤ 99999) : ∃ y : Int, 2000 ≤ y ∧ y ≤ 2273 ∧ db y ≤ d ∧ d < db (y + 1) := by
  have key : ∀ n : Nat, ∀ d : Int, 0 ≤ d → d < db (2000 + n) → ∃ y : Int, 2000 ≤ y ∧ y < 2000 + n ∧ db y ≤ d ∧ d < db (y + 1) := by
    intro n
    induction n with
    | zero => intro d h0 h1; rw [show (2000 : Int) + (0 : Nat) = 2000 from rfl, db_2000] at h1; omega
    | succ k ih =>
      intro d h0 h1
      by_cases h : d < db (2000 + k)
      · obtain ⟨y, a, b, c, e⟩ := ih d h0 h
        exact ⟨y, a, by omega, c, e⟩
      · exact ⟨2000 + k, by omega, by omega, by omega, by rw [show (2000 : Int) + (k : Int) + 1 = 2000 + ((k + 1 : Nat) : Int) from by omega]; exact h1⟩
  obtain ⟨y, a, b, c, e⟩ := key 274 d h0 (by rw [show db (2000 + ((274 : Nat) : Int)) = 100077 from by decide]; omega)
  exact ⟨y, a, by omega, c, e⟩
/-- Each day of a year has its month. -/
theorem month_ex (y r : Int) (h0 : 0 ≤ r) (h1 : r < 365 + lv y) : ∃ m : Nat, 1 ≤ m ∧ m ≤ 12 ∧ cum y (m - 1) ≤ r ∧ r < cum y m := by
  have key : ∀ n : Nat, n ≤ 12 → r < cum y n → ∃ m : Nat, 1 ≤ m ∧ m ≤ n ∧ cum y (m - 1) ≤ r ∧ r < cum y m := by
    intro n
    induction n with
    | zero => intro _ h; simp [cum] at h; omega
    | succ k ih =>
      intro hk h
      by_cases hh : r < cum y k
      · obtain ⟨m, a, b, c, e⟩ := ih (by omega) hh
        exact ⟨m, a, by omega, c, e⟩
      · exact ⟨k + 1, by omega, Nat.le_refl _, by simp; omega, h⟩
  exact key 12 (Nat.le_refl _) (by rw [cum_12]; exact h1)
end Go.Proofs.YtlcmcknbbmokjaaGreat.Cal
namespace Go.Proofs.YtlcmcknbbmokjaaGreat
open Go.RowKit
end Go.Proofs.YtlcmcknbbmokjaaGreat
namespace Go.Proofs.YtlcmcknbbmokjaaGreat
open Go.RowKit
theorem checkDay_any (d : Int) (w : World) : Calls Tryz.prog 157 #[.int .i64 d] w fun r w' => r = .returned (.int .i64 (rng d 0 99999)) ∧ w' = w := by
  go_enter Tryz.func157, Tryz.ntmps157
  go_wp2_with fail
  refine (checkRange_any _ _ _ _).mono ?_
  rintro e w' ⟨rfl, rfl⟩
  go_wp2_with fail
  go_ret
  exact ⟨rfl, rfl⟩
theorem checkMask_any (d : Int) (w : World) : Calls Tryz.prog 190 #[.int .i64 d] w fun r w' => r = .returned (.int .i64 (rng d 1 127)) ∧ w' = w := by
  go_enter Tryz.func190, Tryz.ntmps190
  go_wp2_with fail
  refine (checkRange_any _ _ _ _).mono ?_
  rintro e w' ⟨rfl, rfl⟩
  go_wp2_with fail
  go_ret
  exact ⟨rfl, rfl⟩
theorem rng_ok {n a b : Int} (h1 : a ≤ n) (h2 : n ≤ b) : rng n a b = 0 := by simp [rng, h1, h2]
theorem rng_bad {n a b : Int} (h : ¬ (a ≤ n ∧ n ≤ b)) : rng n a b = 3 := by simp only [rng, if_neg h]
end Go.Proofs.YtlcmcknbbmokjaaGreat
namespace Go.Proofs.YtlcmcknbbmokjaaGreat
open Go.RowKit
theorem cell_in {w : World} {a : Addr} {v : Value} (h : w.cell? a = some v) : a.block < w.heap.size := by
  unfold World.cell? at h
  rcases Nat.lt_or_ge a.block w.heap.size with h' | h'
  · exact h'
  · rw [Array.getElem?_eq_none h'] at h; simp at h
theorem b_old {w w' : World} (hb : Below w.heap.size w w') {a : Addr} {v : Value} (h : w.cell? a = some v) : w'.cell? a = some v := by
  rw [hb.cell (cell_in h)]; exact h
theorem below_alloc (w : World) (o : Obj) : Below w.heap.size w (w.alloc o) := (Below.refl _ w).alloc (Nat.le_refl _) o
theorem b_then {w w1 w2 : World} (h : Below w.heap.size w w1) (k : Below w1.heap.size w1 w2) : Below w.heap.size w w2 := h.trans (k.mono h.size)
theorem cell_fresh (w : World) (l : List Value) (T : TypeId) (i : Nat) (v : Value) (h : l[i]? = some v) : (w.alloc (.cells l.toArray T)).cell? ⟨w.heap.size, i, none⟩ = some v := by
  have e : (w.alloc (.cells l.toArray T)).heap[w.heap.size]? = some (.cells l.toArray T (0, 0)) := by show (w.heap.push _)[_]? = _; simp
  simp only [World.cell?, e]
  simp [h]
/-- firstError of a list that has just been made. -/
theorem fe_new (es : List Int) (b n c T : Nat) (w : World) (hb : b = w.heap.size) (hn : n = es.length) (hl : es.length ≤ 100) :
    Calls Tryz.prog 82 #[.slice (some ⟨b, 0, none⟩) n c] (w.alloc (.cells (es.map (Value.int .i64)).toArray T)) fun r w' => r = .returned (.int .i64 (fst es)) ∧ w' = w.alloc (.cells (es.map (Value.int .i64)).toArray T) := by
  subst hn hb
  exact firstError_any es _ c _ (fun i hi => cell_fresh _ _ _ _ _ (by simp [hi])) hl
theorem still_tail {P : Program} {id : Nat} {Q : Exit → Act → World → Prop} {a : Act} {w : World} {l : List Oper} (n : Nat) (hm : P.follows .mixedOrders = true) (hB : Region.lexTailB .any l.toArray n = true)
    (h : wpStill P l.toArray w.drew (fun a' => wpList P l.toArray Q (l.drop n) a' w.drew) (l.take n) a) : (Code.region id l.toArray true).wp P Q a w :=
  wp_region_still_tail n hm hB h
theorem b_frozen {w w' : World} (hb : Below w.heap.size w w') {a : Addr} {v : Value} (h : w.cell? a = some v) (f : w.frozen? a = false) : w'.frozen? a = false := by
  rw [hb.frozen (cell_in h)]; exact f
theorem below_drew (w : World) : Below w.heap.size w w.drew := (Below.refl _ w).drew
/-- A block N of n cells that the call may write; below N all is as in W. -/
structure Res (n N : Nat) (W w' : World) : Prop where
  cell : ∀ i, i < n → ∃ v, w'.cell? ⟨N, i, none⟩ = some v
  frozen : ∀ i, i < n → w'.frozen? ⟨N, i, none⟩ = false
  below : Below N W w'
theorem Res.drew {n N : Nat} {W w' : World} (h : Res n N W w') : Res n N W w'.drew := ⟨h.cell, h.frozen, h.below.drew⟩
theorem Res.more {n N : Nat} {W w' w2 : World} (h : Res n N W w') (hN : N ≤ w'.heap.size) (hb : Below w'.heap.size w' w2) : Res n N W w2 :=
  ⟨fun i hi => by obtain ⟨v, hv⟩ := h.cell i hi; exact ⟨v, b_old hb hv⟩, fun i hi => by obtain ⟨v, hv⟩ := h.cell i hi; exact b_frozen hb hv (h.frozen i hi), h.below.trans (hb.mono hN)⟩
theorem Res.set {n N : Nat} {W w' : World} (h : Res n N W w') (k : Nat) (v : Value) : Res n N W (w'.setCell ⟨N, k, none⟩ v) :=
  ⟨fun i hi => by
    obtain ⟨u, hu⟩ := h.cell i hi
    obtain ⟨x, hx⟩ := cell?_setCell_some (w := w') (p := ⟨N, k, none⟩) (x := v) (q := ⟨N, i, none⟩) (v := u) hu
    exact ⟨x, hx⟩, fun i hi => by rw [World.frozen?_setCell]; exact h.frozen i hi, h.below.setCell (p := ⟨N, k, none⟩) (Nat.le_refl _) v⟩
theorem Res.old {n N : Nat} {W w' : World} (h : Res n N W w') {b o : Nat} {v : Value} (hb : b < N) (hc : W.cell? ⟨b, o, none⟩ = some v) : w'.cell? ⟨b, o, none⟩ = some v := by
  rw [h.below.cell (p := ⟨b, o, none⟩) hb]; exact hc
theorem Res.pos {n N : Nat} {W w' : World} (h : Res n N W w') (hn : 0 < n) : N ≤ w'.heap.size := by
  obtain ⟨v, hv⟩ := h.cell 0 hn
  exact Nat.le_of_lt (cell_in hv)
theorem Res.up {n N : Nat} {W w' w2 : World} (h : Res n N W w') (hb : Below (N + 1) w' w2) : Res n N W w2 :=
  ⟨fun i hi => by obtain ⟨v, hv⟩ := h.cell i hi; exact ⟨v, by rw [hb.cell (p := ⟨N, i, none⟩) (Nat.lt_succ_self N)]; exact hv⟩, fun i hi => by rw [hb.frozen (p := ⟨N, i, none⟩) (Nat.lt_succ_self N)]; exact h.frozen i hi, h.below.trans (hb.mono (Nat.le_succ N))⟩
theorem below_alloc2 (w : World) (o o' : Obj) : Below w.heap.size w ((w.alloc o).alloc o') := (below_alloc w o).alloc (by simp) o'
theorem b_keep {B : Nat} {w w' : World} (hb : Below B w w') {b o : Nat} {v : Value} (h : b < B) (hc : w.cell? ⟨b, o, none⟩ = some v) : w'.cell? ⟨b, o, none⟩ = some v := by
  rw [hb.cell (p := ⟨b, o, none⟩) h]; exact hc
theorem set_other {w : World} {a b : Addr} {u v : Value} (h : w.cell? b = some v) (hne : a ≠ b) : (w.setCell a u).cell? b = some v := by
  rw [World.cell?_setCell_other _ _ _ _ hne]; exact h
theorem set_same {w : World} {a : Addr} {u v : Value} (h : w.cell? a = some v) : (w.setCell a u).cell? a = some u := World.cell?_setCell_same _ _ _ h
theorem set_size (w : World) (a : Addr) (u : Value) : (w.setCell a u).heap.size = w.heap.size := by simp [World.setCell]
end Go.Proofs.YtlcmcknbbmokjaaGreat
namespace Go.Proofs.YtlcmcknbbmokjaaGreat
open Go Go.RowKit
def byteAt (s : ByteArray) (i : Nat) : Nat := if h : i < s.size then (s[i]'h).toNat else 0
theorem byteAt_eq {s : ByteArray} {i : Nat} (h : i < s.size) : byteAt s i = (s[i]'h).toNat := dif_pos h
theorem byteAt_lt (s : ByteArray) (i : Nat) : byteAt s i < 256 := by
  unfold byteAt
  split
  · exact UInt8.toNat_lt _
  · omega
theorem next_byte {P : Program} (wr : World) (k pos : Nat) (s : ByteArray) (hit : wr.heap[k]? = some (.stringIter s pos)) (h : pos < s.size) :
    ∃ (r p2 : Nat), (∀ ty, (Instr.next (.pointer (some ⟨k, 0, none⟩)) true ty).run P wr = .ok (.tuple #[.bool true, .int .i64 pos, .int .i32 r]) (wr.iterAt k s p2)) ∧ (byteAt s pos < 128 → r = byteAt s pos ∧ p2 = pos + 1) ∧ (128 ≤ byteAt s pos → 128 ≤ r) ∧ r ≤ 2147483647 := by
  rw [byteAt_eq h]
  refine ⟨(Utf8.decode s pos).1, pos + (Utf8.decode s pos).2, fun ty => Lib.run_next_any_at wr k s pos ty hit h, fun ha => ?_, fun ha => (decode_high s pos h ha).1, decode_le s pos⟩
  rw [decode_ascii s pos h ha]
  exact ⟨rfl, rfl⟩
theorem nb_below (V : World) (k : Nat) (s : ByteArray) (pos : Nat) : Below k V (World.iterAt V k s pos) := ⟨rfl, rfl, rfl, by simp [World.iterAt], fun j hj => by
  simp only [World.iterAt]
  rw [Array.getElem?_setIfInBounds, if_neg (by omega)]⟩
end Go.Proofs.YtlcmcknbbmokjaaGreat
namespace Go.Proofs.YtlcmcknbbmokjaaGreat
open Go Go.RowKit
def digN (c : Int) : Bool := decide (48 ≤ c) && decide (c ≤ 57)
def letN (c : Int) : Bool := (decide (65 ≤ c) && decide (c ≤ 90)) || (decide (97 ≤ c) && decide (c ≤ 122))
def nameC (i c : Nat) : Bool := letN c || (decide (i ≠ 0) && (digN c || decide (c = 95)))
def isName (s : ByteArray) : Prop := s.size ≠ 0 ∧ s.size ≤ 24 ∧ ∀ i, i < s.size → nameC i (byteAt s i) = true
instance (s : ByteArray) : Decidable (isName s) := by unfold isName; infer_instance
theorem name_bad {s : ByteArray} {i : Nat} (h : i < s.size) (hn : nameC i (byteAt s i) = false) : decide (isName s) = false :=
  decide_eq_false fun ⟨_, _, h3⟩ => by rw [h3 i h] at hn; cases hn
theorem nameC_true {i c : Nat} (h : nameC i c = true) : letN c = true ∨ (letN c = false ∧ i ≠ 0 ∧ (digN c = true ∨ (digN c = false ∧ c = 95))) := by
  unfold nameC at h
  cases h1 : letN c
  · right
    rw [h1] at h
    simp only [Bool.false_or, Bool.and_eq_true, decide_eq_true_eq, Bool.or_eq_true] at h
    refine ⟨rfl, h.1, ?_⟩
    cases h2 : digN c
    · right; rw [h2] at h; exact ⟨rfl, h.2.resolve_left (by simp)⟩
    · exact .inl rfl
  · exact .inl rfl
theorem nameC_false {i c : Nat} (h : nameC i c = false) : letN c = false ∧ (i = 0 ∨ (i ≠ 0 ∧ digN c = false ∧ c ≠ 95)) := by
  unfold nameC at h
  rw [Bool.or_eq_false_iff] at h
  refine ⟨h.1, ?_⟩
  by_cases hi : i = 0
  · exact .inl hi
  · right
    have h2 := h.2
    rw [decide_eq_true hi, Bool.true_and, Bool.or_eq_false_iff] at h2
    exact ⟨hi, h2.1, of_decide_eq_false h2.2⟩
theorem name_high {c r : Nat} (i : Nat) (hc : 128 ≤ c) (hr : 128 ≤ r) : nameC i c = false ∧ letN r = false ∧ digN r = false ∧ r ≠ 95 := by
  refine ⟨?_, ?_, ?_, by omega⟩
  · unfold nameC letN digN
    rw [decide_eq_false (show ¬ ((c : Int) ≤ 90) by omega), decide_eq_false (show ¬ ((c : Int) ≤ 122) by omega), decide_eq_false (show ¬ ((c : Int) ≤ 57) by omega), decide_eq_false (show ¬ (c = 95) by omega)]
    simp
  · unfold letN
    rw [decide_eq_false (show ¬ ((r : Int) ≤ 90) by omega), decide_eq_false (show ¬ ((r : Int) ≤ 122) by omega)]
    simp
  · unfold digN
    rw [decide_eq_false (show ¬ ((r : Int) ≤ 57) by omega)]
    simp
theorem isLetter_any (r : Int) (w : World) :
    Calls Tryz.prog 215 #[.int .i32 r] w fun e w' => e = .returned (.bool (letN r)) ∧ w' = w := by
  have HL : Hid (letN r = ((decide (65 ≤ r) && decide (r ≤ 90)) || (decide (97 ≤ r) && decide (r ≤ 122)))) := Lib.hid rfl
  cases h1 : decide (65 ≤ r) <;> cases h2 : decide (r ≤ 90) <;> cases h3 : decide (97 ≤ r) <;> cases h4 : decide (r ≤ 122)
  all_goals
    have HB : Hid (letN r = _) := Lib.hid (by rw [HL.out, h1, h2, h3, h4])
    go_enter Tryz.func215, Tryz.ntmps215
    go_wp2
    go_ret
    exact ⟨by rw [HB.out]; rfl, rfl⟩
theorem isDig_any (r : Int) (w : World) :
    Calls Tryz.prog 216 #[.int .i32 r] w fun e w' => e = .returned (.bool (digN r)) ∧ w' = w := by
  have HL : Hid (digN r = (decide (48 ≤ r) && decide (r ≤ 57))) := Lib.hid rfl
  cases h1 : decide (48 ≤ r) <;> cases h2 : decide (r ≤ 57)
  all_goals
    have HB : Hid (digN r = _) := Lib.hid (by rw [HL.out, h1, h2])
    go_enter Tryz.func216, Tryz.ntmps216
    go_wp2
    go_ret
    exact ⟨by rw [HB.out]; rfl, rfl⟩
theorem letter_is {r : Int} {b : Bool} (h : letN r = b) (w : World) : Calls Tryz.prog 215 #[.int .i32 r] w fun e w' => e = .returned (.bool b) ∧ w' = w := h ▸ isLetter_any r w
theorem dig_is {r : Int} {b : Bool} (h : digN r = b) (w : World) : Calls Tryz.prog 216 #[.int .i32 r] w fun e w' => e = .returned (.bool b) ∧ w' = w := h ▸ isDig_any r w
set_option maxRecDepth 100000 in
set_option maxHeartbeats 1000000 in
theorem isName_any (s : ByteArray) (w : World) :
    Calls Tryz.prog 185 #[.string s] w fun e w' => e = .returned (.bool (decide (isName s))) ∧ Below w.heap.size w w' := by
  by_cases h0 : s.size = 0
  · have HN : Hid (decide (isName s) = false) := Lib.hid (decide_eq_false fun h => h.1 h0)
    have hb : ((s.size : Int) == 0) = true := by simp [h0]
    clear h0
    go_enter Tryz.func185, Tryz.ntmps185
    go_wp2_with fail
    go_ret
    exact ⟨by rw [HN.out]; rfl, Below.refl _ _⟩
  · have hb : ((s.size : Int) == 0) = false := by rw [beq_eq_false_iff_ne]; omega
    by_cases h24 : s.size ≤ 24
    · have hb2 : decide ((24 : Int) < s.size) = false := decide_eq_false (by omega)
      have HS : Hid (s.size ≠ 0 ∧ s.size ≤ 24) := Lib.hid ⟨h0, h24⟩
      clear h0 h24
      go_enter Tryz.func185, Tryz.ntmps185
      go_wp2_with fail
      obtain ⟨W, hW, hb0, hit0⟩ : ∃ W, w.iter s 0 = W ∧ Below w.heap.size w W ∧ W.heap[w.heap.size]? = some (.stringIter s 0) := ⟨_, rfl, below_alloc _ _, World.iter_heap w s 0⟩
      rw [hW]
      clear hW
      go_loopw [] (fun wr => ∃ pos : Nat, pos ≤ s.size ∧ Hid (∀ i, i < pos → nameC i (byteAt s i) = true) ∧ Below w.heap.size w wr ∧ wr.heap[w.heap.size]? = some (.stringIter s pos)) (fun wr => s.size - wr.iterPos w.heap.size)
      case atStart => exact ⟨0, Nat.zero_le _, Lib.hid (fun i hi => absurd hi (Nat.not_lt_zero _)), hb0, hit0⟩
      case round =>
        obtain ⟨pos, hps, HP, hbr, hit⟩ := hrel
        by_cases hp : pos < s.size
        · obtain ⟨r, p2, hnx0, hlo, hhi, hr2⟩ := next_byte (P := Tryz.prog) wr w.heap.size pos s hit hp
          obtain ⟨W2, hnx, hb2', hit2⟩ : ∃ W2, (∀ ty, (Instr.next (.pointer (some ⟨w.heap.size, 0, none⟩)) true ty).run Tryz.prog wr = .ok (.tuple #[.bool true, .int .i64 pos, .int .i32 r]) W2) ∧ Below w.heap.size w W2 ∧ W2.heap[w.heap.size]? = some (.stringIter s p2) :=
            ⟨_, hnx0, hbr.trans (nb_below _ _ _ _), Lib.iterAt_heap _ _ _ _ _ hit⟩
          clear hnx0
          have hmu : wr.iterPos w.heap.size = pos := by simp [World.iterPos, hit]
          have hmu2 : W2.iterPos w.heap.size = p2 := by simp [World.iterPos, hit2]
          have HMU := Lib.hid hmu; have HMU2 := Lib.hid hmu2
          clear hmu hmu2 hit
          cases hok : nameC pos (byteAt s pos)
          · have HB : Hid (decide (isName s) = false) := Lib.hid (name_bad hp hok)
            have hbad : letN r = false ∧ (pos = 0 ∨ (pos ≠ 0 ∧ digN r = false ∧ r ≠ 95)) := by
              by_cases hc : byteAt s pos < 128
              · rw [(hlo hc).1]; exact nameC_false hok
              · obtain ⟨-, a, b, c⟩ := name_high pos (show 128 ≤ byteAt s pos by omega) (hhi (by omega))
                refine ⟨a, ?_⟩
                by_cases h : pos = 0
                · exact .inl h
                · exact .inr ⟨h, b, c⟩
            obtain ⟨HL, h | ⟨h, HD, h95⟩⟩ := hbad
            · subst h
              have HL := Lib.hid HL
              clear hlo hhi hok
              go_wp2_with (go_at_call 215; refine (letter_is HL.out _).mono ?_; rintro e w' ⟨rfl, hw⟩; rw [hw]; clear hw)
              go_ret
              exact ⟨by rw [HB.out]; rfl, hb2'⟩
            · have HL := Lib.hid HL
              have HD := Lib.hid HD
              have hz : ((pos : Int) == 0) = false := by rw [beq_eq_false_iff_ne]; omega
              have hq : ((r : Int) == 95) = false := by rw [beq_eq_false_iff_ne]; omega
              clear hlo hhi hok h h95
              go_wp2_with (first | (go_at_call 215; refine (letter_is HL.out _).mono ?_; rintro e w' ⟨rfl, hw⟩; rw [hw]; clear hw) | (go_at_call 216; refine (dig_is HD.out _).mono ?_; rintro e w' ⟨rfl, hw⟩; rw [hw]; clear hw))
              go_ret
              exact ⟨by rw [HB.out]; rfl, hb2'⟩
          · have hc : byteAt s pos < 128 := by
              rcases Nat.lt_or_ge (byteAt s pos) 128 with h | h
              · exact h
              · rw [(name_high pos h (hhi h)).1] at hok; cases hok
            obtain ⟨hr, hp2⟩ := hlo hc
            subst hr hp2
            have HP2 : Hid (∀ i, i < pos + 1 → nameC i (byteAt s i) = true) := Lib.hid (fun i hi => by
              rcases Nat.lt_or_ge i pos with h | h
              · exact HP.out i h
              · obtain rfl : i = pos := by omega
                exact hok)
            have hcs := nameC_true hok
            generalize byteAt s pos = r at *
            clear hlo hhi hok hc
            rcases hcs with HL | ⟨HL, h, HD | ⟨HD, h95⟩⟩
            · have HL := Lib.hid HL
              go_wp2_with (go_at_call 215; refine (letter_is HL.out _).mono ?_; rintro e w' ⟨rfl, hw⟩; rw [hw]; clear hw)
              go_roundw
              case rel => exact ⟨pos + 1, by omega, HP2, hb2', hit2⟩
              case measure => rw [HMU.out, HMU2.out]; omega
            · have HL := Lib.hid HL
              have HD := Lib.hid HD
              have hz : ((pos : Int) == 0) = false := by rw [beq_eq_false_iff_ne]; omega
              clear h
              go_wp2_with (first | (go_at_call 215; refine (letter_is HL.out _).mono ?_; rintro e w' ⟨rfl, hw⟩; rw [hw]; clear hw) | (go_at_call 216; refine (dig_is HD.out _).mono ?_; rintro e w' ⟨rfl, hw⟩; rw [hw]; clear hw))
              go_roundw
              case rel => exact ⟨pos + 1, by omega, HP2, hb2', hit2⟩
              case measure => rw [HMU.out, HMU2.out]; omega
            · have HL := Lib.hid HL
              have HD := Lib.hid HD
              have hz : ((pos : Int) == 0) = false := by rw [beq_eq_false_iff_ne]; omega
              have hq : ((r : Int) == 95) = true := by simp [h95]
              clear h h95
              go_wp2_with (first | (go_at_call 215; refine (letter_is HL.out _).mono ?_; rintro e w' ⟨rfl, hw⟩; rw [hw]; clear hw) | (go_at_call 216; refine (dig_is HD.out _).mono ?_; rintro e w' ⟨rfl, hw⟩; rw [hw]; clear hw))
              go_roundw
              case rel => exact ⟨pos + 1, by omega, HP2, hb2', hit2⟩
              case measure => rw [HMU.out, HMU2.out]; omega
        · obtain rfl : pos = s.size := by omega
          have HB : Hid (decide (isName s) = true) := Lib.hid (decide_eq_true ⟨HS.out.1, HS.out.2, HP.out⟩)
          have hnx : ∀ ty, (Instr.next (.pointer (some ⟨w.heap.size, 0, none⟩)) true ty).run Tryz.prog wr = _ := fun ty => Lib.run_next_end_at wr w.heap.size s s.size ty hit hp
          go_wp2_with fail
          go_ret
          exact ⟨by rw [HB.out]; rfl, hbr⟩
    · have HN : Hid (decide (isName s) = false) := Lib.hid (decide_eq_false fun h => h24 h.2.1)
      have hb2 : decide ((24 : Int) < s.size) = true := decide_eq_true (by omega)
      clear h24 h0
      go_enter Tryz.func185, Tryz.ntmps185
      go_wp2_with fail
      go_ret
      exact ⟨by rw [HN.out]; rfl, Below.refl _ _⟩
theorem cIsName_any (s : ByteArray) (w : World) :
    Calls Tryz.prog 123 #[.string s] w fun e w' => e = .returned (.bool (decide (isName s))) ∧ Below w.heap.size w w' := by
  go_enter Tryz.func123, Tryz.ntmps123
  go_wp2_with fail
  refine (isName_any _ _).mono ?_
  rintro e w1 ⟨rfl, hb⟩
  go_wp2_with fail
  go_ret
  exact ⟨rfl, hb⟩
end Go.Proofs.YtlcmcknbbmokjaaGreat
namespace Go.Proofs.YtlcmcknbbmokjaaGreat
open Go Go.RowKit
def nameE (s : ByteArray) : Int := unl (decide (isName s)) 8
theorem CName_any (s : ByteArray) (w : World) : Calls Tryz.prog 155 #[.string s] w fun r w' => r = .returned (.int .i64 (nameE s)) ∧ Below w.heap.size w w' := by
  go_enter Tryz.func155, Tryz.ntmps155
  go_wp2_with fail
  refine (isName_any _ _).mono ?_
  rintro e w1 ⟨rfl, hb⟩
  go_wp2_with fail
  refine (unless_any _ _ _).mono ?_
  rintro e w2 ⟨rfl, rfl⟩
  go_wp2_with fail
  go_ret
  exact ⟨rfl, hb⟩
def optE (s : ByteArray) : Int := unl (s.toList == [] || decide (isName s)) 8
theorem COpt_any (s : ByteArray) (w : World) : Calls Tryz.prog 194 #[.string s] w fun r w' => r = .returned (.int .i64 (optE s)) ∧ Below w.heap.size w w' := by
  cases h : (s.toList == [])
  · have HO : Hid (optE s = unl (decide (isName s)) 8) := Lib.hid (by unfold optE; rw [h]; rfl)
    go_enter Tryz.func194, Tryz.ntmps194
    go_wp2_with fail
    refine (isName_any _ _).mono ?_
    rintro e w1 ⟨rfl, hb⟩
    go_wp2_with fail
    refine (unless_any _ _ _).mono ?_
    rintro e w2 ⟨rfl, rfl⟩
    go_wp2_with fail
    go_ret
    exact ⟨by rw [HO.out]; rfl, hb⟩
  · have HO : Hid (optE s = 0) := Lib.hid (by unfold optE; rw [h]; rfl)
    go_enter Tryz.func194, Tryz.ntmps194
    go_wp2_with fail
    refine (unless_t _ _).mono ?_
    rintro e w2 ⟨rfl, rfl⟩
    go_wp2_with fail
    go_ret
    exact ⟨by rw [HO.out]; rfl, Below.refl _ _⟩
def isKindB (s : ByteArray) : Bool := s.toList == [65] || s.toList == [68]
theorem CIsKind_any (s : ByteArray) (w : World) : Calls Tryz.prog 126 #[.string s] w fun r w' => r = .returned (.bool (isKindB s)) ∧ w' = w := by
  cases h1 : (s.toList == [65])
  · have HK : Hid (isKindB s = (s.toList == [68])) := Lib.hid (by unfold isKindB; rw [h1]; rfl)
    go_enter Tryz.func126, Tryz.ntmps126
    go_wp2_with fail
    go_ret
    exact ⟨by rw [HK.out]; rfl, rfl⟩
  · have HK : Hid (isKindB s = true) := Lib.hid (by unfold isKindB; rw [h1]; rfl)
    go_enter Tryz.func126, Tryz.ntmps126
    go_wp2_with fail
    go_ret
    exact ⟨by rw [HK.out]; rfl, rfl⟩
def kindE (s : ByteArray) : Int := unl (isKindB s) 13
theorem CKind_any (s : ByteArray) (w : World) : Calls Tryz.prog 195 #[.string s] w fun r w' => r = .returned (.int .i64 (kindE s)) ∧ w' = w := by
  go_enter Tryz.func195, Tryz.ntmps195
  go_wp2_with fail
  refine (CIsKind_any _ _).mono ?_
  rintro e w1 ⟨rfl, rfl⟩
  go_wp2_with fail
  refine (unless_any _ _ _).mono ?_
  rintro e w2 ⟨rfl, rfl⟩
  go_wp2_with fail
  go_ret
  exact ⟨rfl, rfl⟩
theorem CMinute_any (n : Int) (w : World) : Calls Tryz.prog 114 #[.int .i64 n] w fun r w' => r = .returned (.int .i64 (rng n 0 1439)) ∧ w' = w := by
  go_enter Tryz.func114, Tryz.ntmps114
  go_wp2_with fail
  refine (checkRange_any _ _ _ _).mono ?_
  rintro e w' ⟨rfl, rfl⟩
  go_wp2_with fail
  go_ret
  exact ⟨rfl, rfl⟩
end Go.Proofs.YtlcmcknbbmokjaaGreat
namespace Go.Proofs.YtlcmcknbbmokjaaGreat
open Go.RowKit
def inM (m d : Int) : Bool := decide (m / 2 ^ (Cal.wd d).toNat % 2 = 1)
def hasB (a b m d : Int) : Bool := decide (a ≤ d) && decide (d ≤ b) && inM m d
theorem and1 (x : Int) (h0 : 0 ≤ x) (h1 : x ≤ 127) : bits BinOp.and IntKind.i64 x 1 = x % 2 := by
  obtain ⟨n, rfl⟩ := Int.eq_ofNat_of_zero_le h0
  rw [and_one n (by omega)]; rfl
theorem inM_bits (m d : Int) (h0 : 0 ≤ m) (h1 : m ≤ 127) : (bits BinOp.and IntKind.i64 (m / 2 ^ (Cal.wd d).toNat) 1 == 1) = inM m d := by
  have hq : 0 ≤ m / 2 ^ (Cal.wd d).toNat := Int.ediv_nonneg h0 (by exact_mod_cast Nat.zero_le _)
  have hq2 : m / 2 ^ (Cal.wd d).toNat ≤ m := Int.ediv_le_self _ h0
  rw [and1 _ hq (by omega)]
  unfold inM
  rw [Bool.eq_iff_iff]; simp
end Go.Proofs.YtlcmcknbbmokjaaGreat
namespace Go.Proofs.YtlcmcknbbmokjaaGreat
open Go
section
variable {P : Program} {ops : Array Oper} {md : Region.Mode} {C : World → Prop}
/-- Whatever order is drawn among the first n operations, f of them; then L. -/
def HeadQ (P : Program) (md : Region.Mode) (ops : Array Oper) (C : World → Prop) (n : Nat) (L : Array Bool → Act → Prop) (f : Nat) : Array Bool → Act → Prop :=
  f.rec L fun _ next listed a => Region.ready md ops listed ≠ [] ∧ ∀ i ∈ Region.ready md ops listed, i < n ∧ qOp P ops C i (next (listed.setIfInBounds i true)) a
theorem HeadQ.any {n g : Nat} {L : Array Bool → Act → Prop} {Q' : Exit → Act → World → Prop} (hL : ∀ listed a w, C w → L listed a → wpAny P md ops Q' g listed a w) (f : Nat) :
    ∀ (listed : Array Bool) (a : Act) (w : World), C w → HeadQ P md ops C n L f listed a → wpAny P md ops Q' (f + g) listed a w := by
  induction f with
  | zero => intro listed a w hw h; rw [Nat.zero_add]; exact hL _ _ _ hw h
  | succ f ih =>
    intro listed a w hw h
    rw [Nat.succ_add]
    exact ⟨fun h0 => absurd h0 h.1, fun i hi => wpOp_of_qOp hw (fun a' w' hw' h' => ih _ a' w' hw' h') (h.2 i hi).2⟩
/-- An operation of the head that is ready, and apart from all that do not wait for it, may be taken first. -/
theorem HeadQ.first {n i : Nat} {oi : Oper} {v : Value} {L : Array Bool → Act → Prop} (hi : ops[i]? = some oi) (hsel : ∀ (j : Nat) (o : Oper) cs b, ops[j]? = some o → o.op ≠ .select cs b)
    (hs : Region.sinkB md ops n = true) (hc : Region.chainB md ops n = true) (hn : n < ops.size) (hin : i < n) (hdone : ∀ listed a, L listed a → ∀ j ∈ Region.ready md ops listed, n ≤ j) (f : Nat) :
    ∀ (listed : Array Bool) (a : Act), HeadInv md ops n listed →
      (∀ j oj, ops[j]? = some oj → j ≠ i → listed.getD j true = false → (∀ e ∈ oj.after, Region.binds md e = true → e.on ≠ i) → oi.apart ops oj = true) →
      i ∈ Region.ready md ops listed → YieldsIn P ops C oi v a → HeadQ P md ops C n L f (listed.setIfInBounds i true) (a.put oi.dst v) → HeadQ P md ops C n L (f + 1) listed a := by
  induction f with
  | zero =>
    intro listed a inv _ hr hy H
    refine ⟨List.ne_nil_of_mem hr, fun j hj => ?_⟩
    have hjn : j < n := Nat.lt_of_not_le fun h => tail_waits hs hc hn inv _ i rfl hin (mem_ready.1 hr).1 j h hj
    refine ⟨hjn, ?_⟩
    rcases Nat.decEq j i with hji | hji
    · exact absurd (hdone _ _ H j (ready_mono hj hji)) (by omega)
    · subst hji; exact hy.qOp hi H
  | succ f ih =>
    intro listed a inv hfree hr hy H
    refine ⟨List.ne_nil_of_mem hr, fun j hj => ?_⟩
    have hjn : j < n := Nat.lt_of_not_le fun h => tail_waits hs hc hn inv _ i rfl hin (mem_ready.1 hr).1 j h hj
    refine ⟨hjn, ?_⟩
    rcases Nat.decEq j i with hji | hji
    · obtain ⟨hun, oj, hoj, hall⟩ := mem_ready.1 hj
      have hnot : ∀ e ∈ oj.after, Region.binds md e = true → e.on ≠ i := fun e he hb heq => by
        have h1 := hall e he hb
        rw [heq, getD_both (mem_ready.1 hr).1] at h1
        cases h1
      have h2 := qOp_put hoj (hfree j oj hoj hji hun hnot) (fun cs b => hsel i oi cs b hi) (fun cs b => hsel j oj cs b hoj) hy (H.2 j (ready_mono hj hji)).2
      refine qOp_mono (fun a' h3 => ih (listed.setIfInBounds j true) a' (inv.set hj hjn) (fun k ok hk hki hk2 hno => hfree k ok hk hki ?_ hno) (ready_mono hr (Ne.symm hji)) h3.1 ?_) h2
      · rcases Nat.decEq j k with hjk | hjk
        · rwa [getD_set_ne true hjk] at hk2
        · subst hjk; exact hun
      · rw [Array.setIfInBounds_comm _ _ hji]; exact h3.2
    · subst hji; exact hy.qOp hi H
theorem HeadQ.lex {n g : Nat} {Lq : Act → Prop} (hsel : Region.noSelect ops = true) (hs : Region.sinkB md ops n = true) (hc : Region.chainB md ops n = true) (hn : n < ops.size) (l : List Oper) :
    ∀ (k : Nat) (listed : Array Bool) (a : Act), (∀ j, j < l.length → l[j]? = ops[k + j]?) → k + l.length = n → HeadInv md ops n listed → Region.lexHead md ops g l.length k listed = true → wpQuiet P ops C Lq l a →
    HeadQ P md ops C n (fun listed' a' => Region.seqB md ops g n listed' = true ∧ Lq a') l.length listed a := by
  induction l with
  | nil =>
    intro k listed a _ hk _ hB h
    obtain rfl : k = n := by simpa using hk
    exact ⟨by simpa [Region.lexHead] using hB, h⟩
  | cons o l ih =>
    intro k listed a hl hk inv hB h
    have h0 : ops[k]? = some o := by simpa using (hl 0 (by simp)).symm
    simp only [List.length_cons, Region.lexHead, Bool.and_eq_true, List.contains_iff_mem] at hB
    have hkn : k < n := by simp only [List.length_cons] at hk; omega
    obtain ⟨v, hy, hK⟩ := yieldsIn_of_qOp (K := wpQuiet P ops C Lq l) h0 (by unfold qOp; simp only [h0]; exact h)
    exact HeadQ.first h0 (Region.noSelect_spec hsel) hs hc hn hkn (fun _ _ hL => seqB_ready hL.1) l.length listed a inv (Region.free_spec h0 hB.1.2) hB.1.1 hy
      (ih (k + 1) _ _ (fun j hj => by have := hl (j + 1) (by simp; omega); simpa [Nat.add_assoc, Nat.add_comm 1 j] using this) (by simp only [List.length_cons] at hk; omega) (inv.set hB.1.1 hkn) hB.2 hK)
theorem quiet_tail {id : Nat} {Q : Exit → Act → World → Prop} {a : Act} {w : World} {l : List Oper} (n : Nat) (hm : P.follows .mixedOrders = true) (hB : Region.lexTailB .any l.toArray n = true) (hC : C w.drew)
    (h : wpQuiet P l.toArray C (fun a' => ∀ w', C w' → wpList P l.toArray Q (l.drop n) a' w') (l.take n) a) : (Code.region id l.toArray true).wp P Q a w := by
  simp only [Region.lexTailB, Bool.and_eq_true, decide_eq_true_eq] at hB
  obtain ⟨⟨⟨⟨hsel, hn⟩, hs⟩, hc⟩, hlex⟩ := hB
  have hlen : n < l.length := by simpa using hn
  have hln : (l.take n).length = n := by simp; omega
  have hdl : (l.drop n).length = l.toArray.size - n := by simp
  have inv0 : HeadInv .any l.toArray n (Array.replicate l.toArray.size false) :=
    ⟨by simp, fun j oj _ hl => (by rw [getD_replicate_false] at hl; cases hl), fun t _ ht => getD_in (by simpa using ht) (getD_replicate_false _ _)⟩
  have H := HeadQ.lex (md := .any) (g := l.toArray.size - n) hsel hs hc hn (l.take n) 0 _ a (fun j hj => by
    have hj' : j < n := by rw [hln] at hj; exact hj
    simp [hj']) (by simpa using hln) inv0 (by rw [hln]; exact hlex) h
  have T := HeadQ.any (Q' := Q) (g := l.toArray.size - n) (fun listed a' w' hw' hL => by
    have := wpAny_of_seq (md := .any) (Q' := Q) (l.drop n) n listed a' w' (fun j => by simp [List.getElem?_drop]) (by rw [hdl]; exact hL.1) (hL.2 w' hw')
    rwa [hdl] at this) _ _ _ w.drew hC H
  rw [hln, Nat.add_sub_cancel' (Nat.le_of_lt hn)] at T
  exact wp_region_any hm T
/-- The same at the class of the worlds that are w after some draws. -/
theorem quiet_tail_drew {id : Nat} {Q : Exit → Act → World → Prop} {a : Act} {w : World} {l : List Oper} (n : Nat) (hm : P.follows .mixedOrders = true) (hB : Region.lexTailB .any l.toArray n = true)
    (h : wpQuiet P l.toArray (fun w' => ∃ m, w' = w.drewN m) (fun a' => ∀ w', (∃ m, w' = w.drewN m) → wpList P l.toArray Q (l.drop n) a' w') (l.take n) a) : (Code.region id l.toArray true).wp P Q a w :=
  quiet_tail n hm hB ⟨1, rfl⟩ h
end
end Go.Proofs.YtlcmcknbbmokjaaGreat
namespace Go.Proofs.YtlcmcknbbmokjaaGreat
open Go.RowKit
def perErr (a b m : Int) : Int := fst [rng a 0 99999, rng b 0 99999, unl (decide (a ≤ b)) 11, unl (decide (wrap64 (b - a) ≤ 400)) 4, rng m 1 127]
set_option maxRecDepth 100000 in
theorem CheckPeriod_any (a b m : Int) (w : World) :
    Calls Tryz.prog 196 #[.agg #[.int .i64 a, .int .i64 b, .int .i64 m]] w fun r w' => r = .returned (.int .i64 (perErr a b m)) ∧ Below w.heap.size w w' := by
  have HP : Hid (perErr a b m = fst [rng a 0 99999, rng b 0 99999, unl (decide (a ≤ b)) 11, unl (decide (wrap64 (b - a) ≤ 400)) 4, rng m 1 127]) := Lib.hid rfl
  obtain ⟨W, HW, hb0, k0, k1, k2⟩ : ∃ W, Hid (w.alloc (.cells #[.int .i64 a, .int .i64 b, .int .i64 m] 24) = W) ∧ Below w.heap.size w W ∧ W.cell? ⟨w.heap.size, 0, none⟩ = some (.int .i64 a) ∧ W.cell? ⟨w.heap.size, 1, none⟩ = some (.int .i64 b) ∧ W.cell? ⟨w.heap.size, 2, none⟩ = some (.int .i64 m) := ⟨_, Lib.hid rfl, below_alloc w _, by simp, by simp, by simp⟩
  go_enter Tryz.func196, Tryz.ntmps196
  go_wp2_with fail
  rw [HW.out]
  refine quiet_tail_drew 22 (by kernel_rfl) (by kernel_rfl) ?_
  simp only [List.take_succ_cons, List.take_zero, List.drop_succ_cons, List.drop_zero]
  repeat (first
    | go_big_quiet_step ((first
      | (go_at_call 157; exact Calls.quiet_of_same (checkDay_any _ _))
      | (go_at_call 190; exact Calls.quiet_of_same (checkMask_any _ _))
      | (go_at_call 84; exact Calls.quiet_of_same (unless_any _ _ _)))))
  refine wpQuiet_nil ?_
  intro V hV
  have hbV : Below w.heap.size w V := by obtain ⟨nq, rfl⟩ := hV; exact hb0.trans ⟨rfl, rfl, rfl, Nat.le_refl _, fun _ _ => rfl⟩
  clear hV k0 k1 k2 hb0
  go_wp2_with fail
  refine (fe_new [_, _, _, _, _] _ _ _ _ _ rfl rfl (by simp)).mono ?_
  rintro e w2 ⟨rfl, hw⟩
  have hb2 : Below w.heap.size w w2 := by rw [hw]; exact b_then hbV (below_alloc _ _)
  clear hw
  go_wp2_with fail
  go_ret
  exact ⟨ret_int (by rw [HP.out]), hb2⟩
end Go.Proofs.YtlcmcknbbmokjaaGreat
namespace Go.Proofs.YtlcmcknbbmokjaaGreat
open Go.RowKit
/-- A world that keeps all that w holds. -/
structure KeptW (w : World) where
  v : World
  below : Below w.heap.size w v
theorem KeptW.cell {w : World} (x : KeptW w) {a : Addr} {u : Value} (h : w.cell? a = some u) : x.v.cell? a = some u := b_old x.below h
theorem KeptW.calls {P : Program} {w : World} {x : KeptW w} {f : FuncId} {args : Array Value} {u : Value} (h : Calls P f args x.v fun e w' => e = .returned u ∧ Below x.v.heap.size x.v w') :
    Calls P f args x.v fun e w' => e = .returned u ∧ ∃ y : KeptW w, w' = y.v :=
  h.mono fun _ w' ⟨he, hb⟩ => ⟨he, ⟨w', b_then x.below hb⟩, rfl⟩
theorem KeptW.calls_same {P : Program} {w : World} {x : KeptW w} {f : FuncId} {args : Array Value} {u : Value} (h : Calls P f args x.v fun e w' => e = .returned u ∧ w' = x.v) :
    Calls P f args x.v fun e w' => e = .returned u ∧ ∃ y : KeptW w, w' = y.v :=
  h.mono fun _ _ ⟨he, hb⟩ => ⟨he, x, hb⟩
theorem region_kept {P : Program} {id : Nat} {Q : Exit → Act → World → Prop} {a : Act} {w : World} {l : List Oper} (hm : P.follows .mixedOrders = true) (hB : Region.lexB .any l.toArray = true)
    (h : wpQuiet P l.toArray (fun w' => ∃ x : KeptW w, w' = x.v) (fun a' => ∀ w', (∃ x : KeptW w, w' = x.v) → Q .normal a' w') l a) : (Code.region id l.toArray true).wp P Q a w :=
  wp_region_quiet (C := fun w' => ∃ x : KeptW w, w' = x.v) hm hB ⟨⟨_, below_drew w⟩, rfl⟩ (by simpa using h)
theorem tail_kept {P : Program} {id : Nat} {Q : Exit → Act → World → Prop} {a : Act} {w : World} {l : List Oper} (n : Nat) (hm : P.follows .mixedOrders = true) (hB : Region.lexTailB .any l.toArray n = true)
    (h : wpQuiet P l.toArray (fun w' => ∃ x : KeptW w, w' = x.v) (fun a' => ∀ w', (∃ x : KeptW w, w' = x.v) → wpList P l.toArray Q (l.drop n) a' w') (l.take n) a) : (Code.region id l.toArray true).wp P Q a w :=
  quiet_tail n hm hB ⟨⟨_, below_drew w⟩, rfl⟩ h
end Go.Proofs.YtlcmcknbbmokjaaGreat
namespace Go.Proofs.YtlcmcknbbmokjaaGreat
open Go Go.RowKit
/-- The cells of a request. -/
structure ReqV where
  name : ByteArray
  carrier : ByteArray
  kind : ByteArray
  terminal : ByteArray
  partner : ByteArray
  link : ByteArray
  from_ : Int
  to : Int
  days : Int
  minute : Int
  seats : Int
  size : Int
  noise : Int
def ReqV.cells (q : ReqV) : Array Value := #[.string q.name, .string q.carrier, .string q.kind, .string q.terminal, .string q.partner, .string q.link, .int .i64 q.from_, .int .i64 q.to, .int .i64 q.days, .int .i64 q.minute, .int .i64 q.seats, .int .i64 q.size, .int .i64 q.noise]
def reqErr (q : ReqV) : Int := fst [nameE q.name, nameE q.carrier, nameE q.partner, optE q.terminal, optE q.link, kindE q.kind, unl (q.link.toList != q.name.toList) 32, perErr q.from_ q.to q.days, rng q.minute 0 1439, rng q.seats 0 999, rng q.size 1 9, rng q.noise 0 99]
structure ReqW (w : World) (b : Nat) (q : ReqV) : Prop where
  c0 : w.cell? ⟨b, 0, none⟩ = some (.string q.name)
  c1 : w.cell? ⟨b, 1, none⟩ = some (.string q.carrier)
  c2 : w.cell? ⟨b, 2, none⟩ = some (.string q.kind)
  c3 : w.cell? ⟨b, 3, none⟩ = some (.string q.terminal)
  c4 : w.cell? ⟨b, 4, none⟩ = some (.string q.partner)
  c5 : w.cell? ⟨b, 5, none⟩ = some (.string q.link)
  c6 : w.cell? ⟨b, 6, none⟩ = some (.int .i64 q.from_)
  c7 : w.cell? ⟨b, 7, none⟩ = some (.int .i64 q.to)
  c8 : w.cell? ⟨b, 8, none⟩ = some (.int .i64 q.days)
  c9 : w.cell? ⟨b, 9, none⟩ = some (.int .i64 q.minute)
  c10 : w.cell? ⟨b, 10, none⟩ = some (.int .i64 q.seats)
  c11 : w.cell? ⟨b, 11, none⟩ = some (.int .i64 q.size)
  c12 : w.cell? ⟨b, 12, none⟩ = some (.int .i64 q.noise)
theorem req_new (w : World) (q : ReqV) (T : TypeId) : ∃ W, Hid (w.alloc (.cells q.cells T) = W) ∧ Below w.heap.size w W ∧ ReqW W w.heap.size q := by
  refine ⟨_, Lib.hid rfl, below_alloc w _, ?_⟩
  unfold ReqV.cells
  constructor <;> simp
set_option maxRecDepth 100000 in
set_option maxHeartbeats 1000000 in
theorem CheckRequest_any (q : ReqV) (w : World) :
    Calls Tryz.prog 144 #[.agg q.cells] w fun r w' => r = .returned (.int .i64 (reqErr q)) ∧ Below w.heap.size w w' := by
  have HE : Hid (reqErr q = fst [nameE q.name, nameE q.carrier, nameE q.partner, optE q.terminal, optE q.link, kindE q.kind, unl (q.link.toList != q.name.toList) 32, perErr q.from_ q.to q.days, rng q.minute 0 1439, rng q.seats 0 999, rng q.size 1 9, rng q.noise 0 99]) := Lib.hid rfl
  obtain ⟨W, HW, hb0, R⟩ := req_new w q 26
  obtain ⟨name, carrier, kind, terminal, partner, link, a, b, d, m, s, z, n⟩ := q
  obtain ⟨c0, c1, c2, c3, c4, c5, c6, c7, c8, c9, c10, c11, c12⟩ := R
  simp only [ReqV.cells] at *
  have k0 : ∀ x : KeptW W, x.v.cell? ⟨w.heap.size, 0, none⟩ = _ := fun x => x.cell c0
  have k1 : ∀ x : KeptW W, x.v.cell? ⟨w.heap.size, 1, none⟩ = _ := fun x => x.cell c1
  have k2 : ∀ x : KeptW W, x.v.cell? ⟨w.heap.size, 2, none⟩ = _ := fun x => x.cell c2
  have k3 : ∀ x : KeptW W, x.v.cell? ⟨w.heap.size, 3, none⟩ = _ := fun x => x.cell c3
  have k4 : ∀ x : KeptW W, x.v.cell? ⟨w.heap.size, 4, none⟩ = _ := fun x => x.cell c4
  have k5 : ∀ x : KeptW W, x.v.cell? ⟨w.heap.size, 5, none⟩ = _ := fun x => x.cell c5
  have k6 : ∀ x : KeptW W, x.v.cell? ⟨w.heap.size, 6, none⟩ = _ := fun x => x.cell c6
  have k7 : ∀ x : KeptW W, x.v.cell? ⟨w.heap.size, 7, none⟩ = _ := fun x => x.cell c7
  have k8 : ∀ x : KeptW W, x.v.cell? ⟨w.heap.size, 8, none⟩ = _ := fun x => x.cell c8
  have k9 : ∀ x : KeptW W, x.v.cell? ⟨w.heap.size, 9, none⟩ = _ := fun x => x.cell c9
  have k10 : ∀ x : KeptW W, x.v.cell? ⟨w.heap.size, 10, none⟩ = _ := fun x => x.cell c10
  have k11 : ∀ x : KeptW W, x.v.cell? ⟨w.heap.size, 11, none⟩ = _ := fun x => x.cell c11
  have k12 : ∀ x : KeptW W, x.v.cell? ⟨w.heap.size, 12, none⟩ = _ := fun x => x.cell c12
  have hne : Nonempty (KeptW W) := ⟨⟨W, Below.refl _ _⟩⟩
  clear c0 c1 c2 c3 c4 c5 c6 c7 c8 c9 c10 c11 c12
  go_enter Tryz.func144, Tryz.ntmps144
  go_wp2_with fail
  rw [HW.out]
  refine tail_kept 39 (by kernel_rfl) (by kernel_rfl) ?_
  simp only [List.take_succ_cons, List.take_zero, List.drop_succ_cons, List.drop_zero]
  iterate 3
    iterate 2 (go_big_quiet_step (fail))
    go_big_quiet_step (exact KeptW.calls (CName_any _ _))
  iterate 2
    iterate 2 (go_big_quiet_step (fail))
    go_big_quiet_step (exact KeptW.calls (COpt_any _ _))
  iterate 2 (go_big_quiet_step (fail))
  go_big_quiet_step (exact KeptW.calls_same (CKind_any _ _))
  iterate 5 (go_big_quiet_step (fail))
  go_big_quiet_step (exact KeptW.calls_same (unless_any _ _ _))
  iterate 2 (go_big_quiet_step (fail))
  go_big_quiet_step (exact KeptW.calls (CheckPeriod_any _ _ _ _))
  iterate 2 (go_big_quiet_step (fail))
  go_big_quiet_step (exact KeptW.calls_same (CMinute_any _ _))
  iterate 3
    iterate 2 (go_big_quiet_step (fail))
    go_big_quiet_step (exact KeptW.calls_same (checkRange_any _ _ _ _))
  refine wpQuiet_nil ?_
  rintro _ ⟨x, rfl⟩
  have hbx := b_then hb0 x.below
  clear k0 k1 k2 k3 k4 k5 k6 k7 k8 k9 k10 k11 k12 hb0
  go_wp2_with fail
  refine (fe_new [_, _, _, _, _, _, _, _, _, _, _, _] _ _ _ _ _ rfl rfl (by simp)).mono ?_
  rintro e2 w2 ⟨rfl, hw⟩
  have hb2 : Below w.heap.size w w2 := by rw [hw]; exact b_then hbx (below_alloc _ _)
  clear hw
  go_wp2_with fail
  go_ret
  exact ⟨by rw [HE.out]; rfl, hb2⟩
end Go.Proofs.YtlcmcknbbmokjaaGreat
namespace Go.Proofs.YtlcmcknbbmokjaaGreat
open Go Go.RowKit Go.ChangeMaps Go.MapKept
open Go.Maps (Keyed)
theorem keyStr : Keyed Tryz.prog 9 := Go.Maps.string_keyed Tryz.underlying9
theorem zero4 (w : World) : (zeroValue 4).run Tryz.prog w = .ok (.bool false) w := by kernel_rfl
/-- Block b is a map of at most n entries that has true at the strings of S, and false at all others. -/
def SeenM (w : World) (b n : Nat) (S : ByteArray → Bool) : Prop :=
  ∃ D : DataW Unit, w.ownsMap Tryz.prog 9 (plainElem Tryz.prog 4) b n D ∧ ∀ s : ByteArray, D.atKey (.string s.data.toList) (.lit (.bool false)) = .lit (.bool (S s))
theorem SeenM.made (w : World) : SeenM (w.alloc (.map #[] 0)) w.heap.size 0 (fun _ => false) :=
  ⟨.map [], World.ownsMap_made w _ _ _, fun _ => rfl⟩
theorem SeenM.grown {w w' : World} {b n : Nat} {S : ByteArray → Bool} {r : Option Nat} (h : SeenM w b n S) (hg : w.grownBy w' r) (hne : some b ≠ r) : SeenM w' b n S := by
  obtain ⟨D, hown, hat⟩ := h
  exact ⟨D, hown.kept hg hne, hat⟩
theorem grown_below {w w' : World} (hb : Below w.heap.size w w') : w.grownBy w' none := ⟨hb.os, hb.tape, hb.output, hb.size, fun i hi _ => hb.block i hi⟩
theorem SeenM.below {w w' : World} {b n : Nat} {S : ByteArray → Bool} (h : SeenM w b n S) (hb : Below w.heap.size w w') : SeenM w' b n S := h.grown (grown_below hb) (by simp)
theorem str_inj {s z : ByteArray} (h : s.data.toList = z.data.toList) : s = z := ByteArray.ext (Array.toList_inj.1 h)
theorem SeenM.look {w : World} {b n : Nat} {S : ByteArray → Bool} (h : SeenM w b n S) {s : ByteArray} (hs : s.size ≤ maxLen) :
    (Instr.lookup 255 (.map (some b)) (.string s) false).run Tryz.prog w = .ok (.bool (S s)) w := by
  obtain ⟨D, hown, hat⟩ := h
  obtain ⟨v, ps, hrun, hv⟩ := hown.lookup keyStr Tryz.underlying255 (zero4 _) (plainElem_bool Tryz.underlying4 false) (key := .string s) (Go.WideMaps.keyOf_string_mk Tryz.underlying9 hs)
  rw [hat s] at hv
  have hvb : v = .bool (S s) := by
    unfold plainElem at hv
    split at hv
    · simp only [Option.some.injEq, Prod.mk.injEq, DataW.lit.injEq, Lit.bool.injEq] at hv; rw [hv.1]
    all_goals first
      | (rename_i hu; rw [Tryz.underlying4] at hu; cases hu; done)
      | (cases hv; done)
  rw [← hvb]
  exact hrun
theorem SeenM.put {w' : World} {b n : Nat} {S : ByteArray → Bool} {D : DataW Unit} {s : ByteArray} (hat : ∀ s : ByteArray, D.atKey (.string s.data.toList) (.lit (.bool false)) = .lit (.bool (S s))) (hm : Go.Maps.IsMap D)
    (h : w'.ownsMap Tryz.prog 9 (plainElem Tryz.prog 4) b n (D.put (.string s.data.toList) (.lit (.bool true)))) : SeenM w' b n (fun z => if z = s then true else S z) := by
  refine ⟨_, h, fun z => ?_⟩
  by_cases e : z = s
  · subst e
    show _ = DataW.lit (.bool (if z = z then true else S z))
    rw [if_pos rfl]
    exact Go.Maps.atKey_put_same hm (by simp [WideAt.IsKeyLit]) _ _
  · show _ = DataW.lit (.bool (if z = s then true else S z))
    rw [if_neg e, Go.Maps.atKey_put_other (fun h => e (by injection h with h; exact str_inj h))]
    exact hat z
set_option maxRecDepth 100000 in
theorem once_any (c m n : Nat) (S : ByteArray → Bool) (s : ByteArray) (w : World) (hc : w.cell? ⟨c, 0, none⟩ = some (.map (some m))) (hS : SeenM w m n S) (hs : s.size ≤ maxLen) (hn : n < 1000) :
    Calls Tryz.prog 222 #[.string s, .pointer (some ⟨c, 0, none⟩)] w fun e w' => e = .returned (.int .i64 (unl (!(S s)) 9)) ∧ SeenM w' m (n + 1) (fun z => if z = s then true else S z) ∧ w.grownBy w' (some m) := by
  have hl := hS.look hs
  go_enter Tryz.func222, Tryz.ntmps222
  go_wp2_with fail
  refine (unless_any _ _ _).mono ?_
  rintro e w1 ⟨rfl, rfl⟩
  obtain ⟨D, hown, hat⟩ := hS
  have hmap := hown.isMap
  clear hl
  go_wp2_with (first
    | (at_mapUpdate; refine wpList_mapUpdate_own _ rfl _ _ _ 255 rfl 9 4 keyStr Tryz.underlying255 _ m n _ rfl hown (by unfold maxLen; omega) _ _ _ rfl rfl (Go.WideMaps.keyOf_string_mk Tryz.underlying9 hs) _ [] (plainElem_bool Tryz.underlying4 true) ?_)
    | fail)
  intro w2 hown2 hgrow2
  go_wp2_with fail
  go_ret
  exact ⟨rfl, SeenM.put hat hmap hown2, hgrow2⟩
/-- check.Once: a variable that holds a new map. -/
theorem Once_new (w : World) : Calls Tryz.prog 209 #[] w fun e w' => e = .returned (.func (.func 222) #[] #[.pointer (some ⟨w.heap.size + 1, 0, none⟩)]) ∧ SeenM w' w.heap.size 0 (fun _ => false) ∧ w'.cell? ⟨w.heap.size + 1, 0, none⟩ = some (.map (some w.heap.size)) ∧ Below w.heap.size w w' ∧ w'.heap.size = w.heap.size + 2 := by
  have hmm := @run_makeMap Tryz.prog
  go_enter Tryz.func209, Tryz.ntmps209
  go_wp2
  have e1 : (w.alloc (.map #[] 0)).heap.size = w.heap.size + 1 := by simp
  have hb2 := below_alloc2 w (.map #[] 0) (.cells #[.map (some w.heap.size)] 255)
  have hc := cell_fresh (w.alloc (.map #[] 0)) [.map (some w.heap.size)] 255 0 (.map (some w.heap.size)) rfl
  rw [e1] at hc
  go_ret
  exact ⟨rfl, (SeenM.made w).below (below_alloc _ _), hc, hb2, by simp⟩
/-- A string that is looked at: the error of a second one, and the strings so far. -/
def onceStep (S : ByteArray → Bool) (s : ByteArray) : ByteArray → Bool := fun z => if z = s then true else S z
/-- The first error of strings that are looked at, one after another. -/
def onceErr : List ByteArray → (ByteArray → Bool) → Int
  | [], _ => 0
  | s :: ss, S => if unl (!(S s)) 9 = 0 then onceErr ss (onceStep S s) else unl (!(S s)) 9
end Go.Proofs.YtlcmcknbbmokjaaGreat
namespace Go.Proofs.YtlcmcknbbmokjaaGreat
open Go Go.RowKit Go.ChangeMaps Go.MapKept
theorem reqName_any (q : ReqV) (w : World) : Calls Tryz.prog 171 #[.agg q.cells] w fun r w' => r = .returned (.string q.name) ∧ Below w.heap.size w w' := by
  obtain ⟨W, HW, hb0, R⟩ := req_new w q 26
  obtain ⟨name, carrier, kind, terminal, partner, link, a, b, d, m, s, z, n⟩ := q
  obtain ⟨c0, c1, c2, c3, c4, c5, c6, c7, c8, c9, c10, c11, c12⟩ := R
  simp only [ReqV.cells] at *
  clear c1 c2 c3 c4 c5 c6 c7 c8 c9 c10 c11 c12
  go_enter Tryz.func171, Tryz.ntmps171
  go_wp2_with fail
  rw [HW.out]
  go_wp2_with fail
  go_ret
  exact ⟨rfl, hb0⟩
theorem gb_but {a c : World} (h : a.grownBy c none) (row : Option Nat) : a.grownBy c row := ⟨h.os, h.tape, h.output, h.size, fun i hi _ => h.block i hi (by simp)⟩
theorem gb_trans {a b c : World} {row : Option Nat} (h : a.grownBy b row) (k : b.grownBy c row) : a.grownBy c row :=
  ⟨k.os.trans h.os, k.tape.trans h.tape, k.output.trans h.output, Nat.le_trans h.size k.size, fun i hi hne => (k.block i (Nat.lt_of_lt_of_le hi h.size) hne).trans (h.block i hi hne)⟩
theorem gb_cell {w w' : World} {r : Nat} (h : w.grownBy w' (some r)) {b o : Nat} {v : Value} (hc : w.cell? ⟨b, o, none⟩ = some v) (hne : b ≠ r) : w'.cell? ⟨b, o, none⟩ = some v := by
  rw [World.cell?_of_block (h.block b (cell_in hc) (by simpa using hne))]; exact hc
/-- The four cells of the closure of check.Named, and the strings that were seen. -/
structure NamedW (w : World) (c1 c2 c3 cm m n : Nat) (S : ByteArray → Bool) : Prop where
  f1 : w.cell? ⟨c1, 0, none⟩ = some (.func (.func 144) #[] #[])
  f2 : w.cell? ⟨c2, 0, none⟩ = some (.func (.func 222) #[] #[.pointer (some ⟨cm, 0, none⟩)])
  f3 : w.cell? ⟨c3, 0, none⟩ = some (.func (.func 171) #[] #[])
  f4 : w.cell? ⟨cm, 0, none⟩ = some (.map (some m))
  seen : SeenM w m n S
  n1 : c1 ≠ m
  n2 : c2 ≠ m
  n3 : c3 ≠ m
  n4 : cm ≠ m
set_option maxRecDepth 100000 in
theorem named1_any (c1 c2 c3 cm m n : Nat) (S : ByteArray → Bool) (q : ReqV) (w : World) (h : NamedW w c1 c2 c3 cm m n S) (hq : q.name.size ≤ maxLen) (hn : n < 1000) :
    Calls Tryz.prog 211 #[.agg q.cells, .pointer (some ⟨c1, 0, none⟩), .pointer (some ⟨c2, 0, none⟩), .pointer (some ⟨c3, 0, none⟩)] w
      fun e w' => e = .returned (.int .i64 (fst [reqErr q, unl (!(S q.name)) 9])) ∧ SeenM w' m (n + 1) (onceStep S q.name) ∧ w.grownBy w' (some m) := by
  obtain ⟨W, HW, hb0, R⟩ := req_new w q 26
  obtain ⟨f1, f2, f3, f4, hS, n1, n2, n3, n4⟩ := h
  have g1 := b_old hb0 f1
  have g2 := b_old hb0 f2
  have g3 := b_old hb0 f3
  have g4 := b_old hb0 f4
  have HSW := Lib.hid (hS.below hb0)
  clear f1 f2 f3 f4 hS
  have HQ : Hid (q = q) := Lib.hid rfl
  generalize hr : reqErr q = re
  have hcall : ∀ w : World, Calls Tryz.prog 144 #[.agg q.cells] w fun r w' => r = .returned (.int .i64 re) ∧ Below w.heap.size w w' := fun w => hr ▸ CheckRequest_any q w
  have hname := reqName_any q
  obtain ⟨name, carrier, kind, terminal, partner, link, a, b, d, m', s, z, n'⟩ := q
  obtain ⟨r0, r1, r2, r3, r4, r5, r6, r7, r8, r9, r10, r11, r12⟩ := R
  simp only [ReqV.cells] at *
  have k0 : ∀ x : KeptW W, x.v.cell? ⟨w.heap.size, 0, none⟩ = _ := fun x => x.cell r0
  have k1 : ∀ x : KeptW W, x.v.cell? ⟨w.heap.size, 1, none⟩ = _ := fun x => x.cell r1
  have k2 : ∀ x : KeptW W, x.v.cell? ⟨w.heap.size, 2, none⟩ = _ := fun x => x.cell r2
  have k3 : ∀ x : KeptW W, x.v.cell? ⟨w.heap.size, 3, none⟩ = _ := fun x => x.cell r3
  have k4 : ∀ x : KeptW W, x.v.cell? ⟨w.heap.size, 4, none⟩ = _ := fun x => x.cell r4
  have k5 : ∀ x : KeptW W, x.v.cell? ⟨w.heap.size, 5, none⟩ = _ := fun x => x.cell r5
  have k6 : ∀ x : KeptW W, x.v.cell? ⟨w.heap.size, 6, none⟩ = _ := fun x => x.cell r6
  have k7 : ∀ x : KeptW W, x.v.cell? ⟨w.heap.size, 7, none⟩ = _ := fun x => x.cell r7
  have k8 : ∀ x : KeptW W, x.v.cell? ⟨w.heap.size, 8, none⟩ = _ := fun x => x.cell r8
  have k9 : ∀ x : KeptW W, x.v.cell? ⟨w.heap.size, 9, none⟩ = _ := fun x => x.cell r9
  have k10 : ∀ x : KeptW W, x.v.cell? ⟨w.heap.size, 10, none⟩ = _ := fun x => x.cell r10
  have k11 : ∀ x : KeptW W, x.v.cell? ⟨w.heap.size, 11, none⟩ = _ := fun x => x.cell r11
  have k12 : ∀ x : KeptW W, x.v.cell? ⟨w.heap.size, 12, none⟩ = _ := fun x => x.cell r12
  have j1 : ∀ x : KeptW W, x.v.cell? ⟨c1, 0, none⟩ = _ := fun x => x.cell g1
  have j2 : ∀ x : KeptW W, x.v.cell? ⟨c2, 0, none⟩ = _ := fun x => x.cell g2
  have j3 : ∀ x : KeptW W, x.v.cell? ⟨c3, 0, none⟩ = _ := fun x => x.cell g3
  have hne : Nonempty (KeptW W) := ⟨⟨W, Below.refl _ _⟩⟩
  clear r0 r1 r2 r3 r4 r5 r6 r7 r8 r9 r10 r11 r12 g1 g2 g3
  go_enter Tryz.func211, Tryz.ntmps211
  go_wp2_with fail
  rw [HW.out]
  refine tail_kept 7 (by kernel_rfl) (by kernel_rfl) ?_
  simp only [List.take_succ_cons, List.take_zero, List.drop_succ_cons, List.drop_zero]
  iterate 2 (go_big_quiet_step (fail))
  go_big_quiet_step (exact KeptW.calls (hcall _))
  iterate 3 (go_big_quiet_step (fail))
  go_big_quiet_step (exact KeptW.calls (hname _))
  refine wpQuiet_nil ?_
  rintro _ ⟨x, rfl⟩
  have hbx := b_then hb0 x.below
  have hSx : SeenM x.v m n S := HSW.out.below x.below
  have g4x := x.cell g4
  clear k0 k1 k2 k3 k4 k5 k6 k7 k8 k9 k10 k11 k12 j1 j2 j3 hcall hname HSW g4
  go_wp2_with fail
  refine (once_any cm m n S name x.v g4x hSx hq hn).mono ?_
  rintro e1 w1 ⟨rfl, hS1, hg1⟩
  have hgw : w.grownBy w1 (some m) := gb_trans (gb_but (grown_below hbx) _) hg1
  clear hSx g4x hg1
  go_wp2_with fail
  refine (fe_new [_, _] _ _ _ _ _ rfl rfl (by simp)).mono ?_
  rintro e2 w2 ⟨rfl, hw⟩
  go_wp2_with fail
  go_ret
  subst hw
  exact ⟨rfl, hS1.below (below_alloc _ _), gb_trans hgw (gb_but (grown_below (below_alloc _ _)) _)⟩
end Go.Proofs.YtlcmcknbbmokjaaGreat
namespace Go.Proofs.YtlcmcknbbmokjaaGreat
open Go Go.RowKit Go.ChangeMaps Go.MapKept
open Go.Maps (Keyed)
theorem wpList_insert_own {H : Type} {P : Program} (w : World) {ops : Array Oper} {rest : List Oper} {o : Oper} {a : Act} {Q : Exit → Act → World → Prop}
    (hg : o.guard = none) (m x v : Operand) (t : TypeId) (hop : o.op = Op.insert t m x v)
    (k e : TypeId) (K : Keyed P k) (ht : P.underlying t = some (.map k e)) (R : Value → Option (DataW H × List MemPlace)) (b n : Nat) (D : DataW H)
    (hm : a.eval m = .map (some b)) (hown : w.ownsMap P k R b n D) (hn : n < maxLen) (key val : Value) (kl : Lit) (hx : a.eval x = key) (hv : a.eval v = val) (hkey : keyOf P k key = some kl)
    (d : DataW H) (ps : List MemPlace) (hval : R val = some (d, ps))
    (hK : ∀ w', w'.ownsMap P k R b (n + 1) (D.put kl d) → w.grownBy w' (some b) → wpList P ops Q rest (a.put o.dst undef) w') :
    wpList P ops Q (o :: rest) a w := by
  refine wpList_plain hg fun K' hK' => ?_
  obtain ⟨w', hrun, r1, r2⟩ := hown.update K ht hn hkey hval
  unfold Oper.wp
  simp [execOp, hop, hm, hx, hv, hrun, Result.andThen]
  exact hK' _ _ (hK w' r1 r2)
/-- The kind of messages that may have an action, or no bytes. -/
def actK (s : List UInt8) : List UInt8 :=
  if s = [88] then [65, 78, 83] else if s = [85] then [65, 78, 83] else if s = [79] then [65, 78, 83] else if s = [75] then [65, 78, 83]
  else if s = [68] then [82, 69, 81] else if s = [82] then [82, 69, 81] else if s = [67] then [82, 69, 81] else if s = [72] then [82, 69, 81] else if s = [78] then [82, 69, 81] else []
def asksB (s : List UInt8) : Bool := [78] == s || ([72] == s || ([67] == s || ([82] == s || ([68] == s))))
def repliesB (s : List UInt8) : Bool := [75] == s || ([79] == s || ([85] == s || ([88] == s)))
def actB (s : List UInt8) : Bool := asksB s || repliesB s
theorem put_at {D : DataW Unit} (hm : Go.Maps.IsMap D) (k s : List UInt8) (d z : DataW Unit) : (D.put (.string k) d).atKey (.string s) z = if s = k then d else D.atKey (.string s) z := by
  by_cases e : s = k
  · subst e; rw [if_pos rfl]; exact Go.Maps.atKey_put_same hm (by simp [WideAt.IsKeyLit]) _ _
  · rw [if_neg e, Go.Maps.atKey_put_other (fun h => e (by injection h))]
theorem put_has {D : DataW Unit} (hm : Go.Maps.IsMap D) (k s : List UInt8) (d : DataW Unit) : Go.Maps.has (D.put (.string k) d) (.string s) = if s = k then true else Go.Maps.has D (.string s) := by
  by_cases e : s = k
  · subst e; rw [if_pos rfl]; exact Go.Maps.has_put_same hm (by simp [WideAt.IsKeyLit]) _
  · rw [if_neg e, Go.Maps.has_put_other (fun h => e (by injection h))]
/-- Block b is a map that has the kinds of all actions. -/
structure KindsM (w : World) (b : Nat) : Prop where
  ex : ∃ D : DataW Unit, w.ownsMap Tryz.prog 9 (plainElem Tryz.prog 9) b 9 D ∧ ∀ s : List UInt8, D.atKey (.string s) (.lit (.string [])) = .lit (.string (actK s)) ∧ Go.Maps.has D (.string s) = actB s
theorem zeroS (w : World) : (zeroValue 9).run Tryz.prog w = .ok (.string ⟨#[]⟩) w := by kernel_rfl
theorem elemS {s : ByteArray} (h : s.size ≤ maxLen) : plainElem (H := Unit) Tryz.prog 9 (.string s) = some (.lit (.string s.data.toList), []) := plainElem_string Tryz.underlying9 h
theorem elemS_inv {v : Value} {z : List UInt8} {ps : List MemPlace} (h : plainElem (H := Unit) Tryz.prog 9 v = some (.lit (.string z), ps)) : v = .string ⟨z.toArray⟩ := by
  unfold plainElem at h
  split at h
  · rename_i hu; rw [Tryz.underlying9] at hu; cases hu
  · rename_i hu; rw [Tryz.underlying9] at hu; cases hu
  · split at h
    · simp only [Option.some.injEq, Prod.mk.injEq, DataW.lit.injEq, Lit.string.injEq] at h
      rw [← h.1]
    · cases h
  · cases h
theorem KindsM.below {w w' : World} {b : Nat} (h : KindsM w b) (hb : Below w.heap.size w w') : KindsM w' b := by
  obtain ⟨D, hown, hat⟩ := h.ex
  exact ⟨⟨D, hown.kept (grown_below hb) (by simp), hat⟩⟩
theorem KindsM.look {w : World} {b : Nat} (h : KindsM w b) {s : ByteArray} (hs : s.size ≤ maxLen) :
    (Instr.lookup 216 (.map (some b)) (.string s) false).run Tryz.prog w = .ok (.string ⟨(actK s.data.toList).toArray⟩) w := by
  obtain ⟨D, hown, hat⟩ := h.ex
  obtain ⟨v, ps, hrun, hv⟩ := hown.lookup keyStr Tryz.underlying216 (zeroS _) (elemS (by decide)) (key := .string s) (Go.WideMaps.keyOf_string_mk Tryz.underlying9 hs)
  rw [(hat s.data.toList).1] at hv
  rw [← elemS_inv hv]
  exact hrun
theorem KindsM.lookOk {w : World} {b : Nat} (h : KindsM w b) {s : ByteArray} (hs : s.size ≤ maxLen) :
    (Instr.lookup 216 (.map (some b)) (.string s) true).run Tryz.prog w = .ok (.tuple #[.string ⟨(actK s.data.toList).toArray⟩, .bool (actB s.data.toList)]) w := by
  obtain ⟨D, hown, hat⟩ := h.ex
  obtain ⟨v, ps, hrun, hv⟩ := hown.look_ok keyStr Tryz.underlying216 (zeroS _) (elemS (by decide)) (key := .string s) (Go.WideMaps.keyOf_string_mk Tryz.underlying9 hs)
  rw [(hat s.data.toList).1] at hv
  rw [← elemS_inv hv, ← (hat s.data.toList).2]
  exact hrun
theorem kinds_put {w : World} {b : Nat} {D : DataW Unit} (h : w.ownsMap Tryz.prog 9 (plainElem Tryz.prog 9) b 9 D)
    (e : D = (((((((((DataW.map []).put (.string [78]) (.lit (.string [82, 69, 81]))).put (.string [72]) (.lit (.string [82, 69, 81]))).put (.string [67]) (.lit (.string [82, 69, 81]))).put (.string [82]) (.lit (.string [82, 69, 81]))).put (.string [68]) (.lit (.string [82, 69, 81]))).put (.string [75]) (.lit (.string [65, 78, 83]))).put (.string [79]) (.lit (.string [65, 78, 83]))).put (.string [85]) (.lit (.string [65, 78, 83]))).put (.string [88]) (.lit (.string [65, 78, 83]))) : KindsM w b := by
  refine ⟨⟨D, h, fun s => ?_⟩⟩
  subst e
  have m0 : Go.Maps.IsMap (DataW.map [] : DataW Unit) := Go.Maps.isMap_empty
  have m1 := m0.put (.string [78]) (.lit (.string [82, 69, 81]))
  have m2 := m1.put (.string [72]) (.lit (.string [82, 69, 81]))
  have m3 := m2.put (.string [67]) (.lit (.string [82, 69, 81]))
  have m4 := m3.put (.string [82]) (.lit (.string [82, 69, 81]))
  have m5 := m4.put (.string [68]) (.lit (.string [82, 69, 81]))
  have m6 := m5.put (.string [75]) (.lit (.string [65, 78, 83]))
  have m7 := m6.put (.string [79]) (.lit (.string [65, 78, 83]))
  have m8 := m7.put (.string [85]) (.lit (.string [65, 78, 83]))
  rw [put_at m8, put_at m7, put_at m6, put_at m5, put_at m4, put_at m3, put_at m2, put_at m1, put_at m0, put_has m8, put_has m7, put_has m6, put_has m5, put_has m4, put_has m3, put_has m2, put_has m1, put_has m0]
  by_cases h1 : s = [88]
  · subst h1; exact ⟨rfl, rfl⟩
  by_cases h2 : s = [85]
  · subst h2; exact ⟨rfl, rfl⟩
  by_cases h3 : s = [79]
  · subst h3; exact ⟨rfl, rfl⟩
  by_cases h4 : s = [75]
  · subst h4; exact ⟨rfl, rfl⟩
  by_cases h5 : s = [68]
  · subst h5; exact ⟨rfl, rfl⟩
  by_cases h6 : s = [82]
  · subst h6; exact ⟨rfl, rfl⟩
  by_cases h7 : s = [67]
  · subst h7; exact ⟨rfl, rfl⟩
  by_cases h8 : s = [72]
  · subst h8; exact ⟨rfl, rfl⟩
  by_cases h9 : s = [78]
  · subst h9; exact ⟨rfl, rfl⟩
  have n : ∀ c : UInt8, s ≠ [c] → (([c] : List UInt8) == s) = false := fun c h => beq_eq_false_iff_ne.2 (fun e => h e.symm)
  simp only [actK, actB, asksB, repliesB, if_neg h1, if_neg h2, if_neg h3, if_neg h4, if_neg h5, if_neg h6, if_neg h7, if_neg h8, if_neg h9, n _ h1, n _ h2, n _ h3, n _ h4, n _ h5, n _ h6, n _ h7, n _ h8, n _ h9]
  exact ⟨rfl, rfl⟩
set_option maxRecDepth 100000 in
set_option maxHeartbeats 1000000 in
theorem kinds_new (w : World) : Calls Tryz.prog 158 #[] w fun e w' => e = .returned (.map (some w.heap.size)) ∧ KindsM w' w.heap.size ∧ Below w.heap.size w w' := by
  have hmm := @run_makeMap Tryz.prog
  have hown0 : (w.alloc (.map #[] 0)).ownsMap (H := Unit) Tryz.prog 9 (plainElem Tryz.prog 9) w.heap.size 0 (.map []) := World.ownsMap_made w _ _ _
  have hg0 := below_alloc w (.map #[] 0)
  have hlast : ∀ w' : World, (w.alloc (.map #[] 0)).grownBy w' (some w.heap.size) → Below w.heap.size w w' := fun w' hg => hg0.grown hg (by simp) (by rintro k ⟨⟩; exact Nat.le_refl _)
  go_enter Tryz.func158, Tryz.ntmps158
  go_wp2_with (refine wpList_insert_own _ rfl _ _ _ 216 rfl 9 9 keyStr Tryz.underlying216 _ w.heap.size 0 _ rfl hown0 (by unfold maxLen; omega) _ _ _ rfl rfl (Go.WideMaps.keyOf_string_mk Tryz.underlying9 (by decide)) _ [] (elemS (by decide)) ?_)
  intro w1 hown1 hg1
  clear hown0
  go_wp2_with (refine wpList_insert_own _ rfl _ _ _ 216 rfl 9 9 keyStr Tryz.underlying216 _ w.heap.size 1 _ rfl hown1 (by unfold maxLen; omega) _ _ _ rfl rfl (Go.WideMaps.keyOf_string_mk Tryz.underlying9 (by decide)) _ [] (elemS (by decide)) ?_)
  intro w2 hown2 hg2
  have hg2 := gb_trans hg1 hg2
  clear hown1 hg1
  go_wp2_with (refine wpList_insert_own _ rfl _ _ _ 216 rfl 9 9 keyStr Tryz.underlying216 _ w.heap.size 2 _ rfl hown2 (by unfold maxLen; omega) _ _ _ rfl rfl (Go.WideMaps.keyOf_string_mk Tryz.underlying9 (by decide)) _ [] (elemS (by decide)) ?_)
  intro w3 hown3 hg3
  have hg3 := gb_trans hg2 hg3
  clear hown2 hg2
  go_wp2_with (refine wpList_insert_own _ rfl _ _ _ 216 rfl 9 9 keyStr Tryz.underlying216 _ w.heap.size 3 _ rfl hown3 (by unfold maxLen; omega) _ _ _ rfl rfl (Go.WideMaps.keyOf_string_mk Tryz.underlying9 (by decide)) _ [] (elemS (by decide)) ?_)
  intro w4 hown4 hg4
  have hg4 := gb_trans hg3 hg4
  clear hown3 hg3
  go_wp2_with (refine wpList_insert_own _ rfl _ _ _ 216 rfl 9 9 keyStr Tryz.underlying216 _ w.heap.size 4 _ rfl hown4 (by unfold maxLen; omega) _ _ _ rfl rfl (Go.WideMaps.keyOf_string_mk Tryz.underlying9 (by decide)) _ [] (elemS (by decide)) ?_)
  intro w5 hown5 hg5
  have hg5 := gb_trans hg4 hg5
  clear hown4 hg4
  go_wp2_with (refine wpList_insert_own _ rfl _ _ _ 216 rfl 9 9 keyStr Tryz.underlying216 _ w.heap.size 5 _ rfl hown5 (by unfold maxLen; omega) _ _ _ rfl rfl (Go.WideMaps.keyOf_string_mk Tryz.underlying9 (by decide)) _ [] (elemS (by decide)) ?_)
  intro w6 hown6 hg6
  have hg6 := gb_trans hg5 hg6
  clear hown5 hg5
  go_wp2_with (refine wpList_insert_own _ rfl _ _ _ 216 rfl 9 9 keyStr Tryz.underlying216 _ w.heap.size 6 _ rfl hown6 (by unfold maxLen; omega) _ _ _ rfl rfl (Go.WideMaps.keyOf_string_mk Tryz.underlying9 (by decide)) _ [] (elemS (by decide)) ?_)
  intro w7 hown7 hg7
  have hg7 := gb_trans hg6 hg7
  clear hown6 hg6
  go_wp2_with (refine wpList_insert_own _ rfl _ _ _ 216 rfl 9 9 keyStr Tryz.underlying216 _ w.heap.size 7 _ rfl hown7 (by unfold maxLen; omega) _ _ _ rfl rfl (Go.WideMaps.keyOf_string_mk Tryz.underlying9 (by decide)) _ [] (elemS (by decide)) ?_)
  intro w8 hown8 hg8
  have hg8 := gb_trans hg7 hg8
  clear hown7 hg7
  go_wp2_with (refine wpList_insert_own _ rfl _ _ _ 216 rfl 9 9 keyStr Tryz.underlying216 _ w.heap.size 8 _ rfl hown8 (by unfold maxLen; omega) _ _ _ rfl rfl (Go.WideMaps.keyOf_string_mk Tryz.underlying9 (by decide)) _ [] (elemS (by decide)) ?_)
  intro w9 hown9 hg9
  have hg9 := gb_trans hg8 hg9
  clear hown8 hg8
  have hk := kinds_put hown9 rfl
  have hb := hlast _ hg9
  clear hown9 hg9 hlast hg0
  go_wp2_with fail
  go_ret
  exact ⟨rfl, hk, hb⟩
/-- A word is one of a list. -/
def wordIn : List ByteArray → ByteArray → Bool
  | [], _ => false
  | x :: r, s => x.toList == s.toList || wordIn r s
theorem wordIn_drop (l : List ByteArray) (s : ByteArray) (k : Nat) (h : k < l.length) (q : ByteArray) (hq : l[k]? = some q) : wordIn (l.drop k) s = (q.toList == s.toList || wordIn (l.drop (k + 1)) s) := by
  rw [List.drop_eq_getElem_cons h]
  rw [List.getElem?_eq_getElem h] at hq
  cases hq
  rfl
set_option maxRecDepth 100000 in
theorem hasWord_any (l : List ByteArray) (s : ByteArray) (b c : Nat) (w : World) (hc : ∀ (k : Nat) s', l[k]? = some s' → w.cell? ⟨b, k, none⟩ = some (.string s')) (hn : l.length ≤ 100) :
    Calls Tryz.prog 197 #[.slice (some ⟨b, 0, none⟩) l.length c, .string s] w fun e w' => e = .returned (.bool (wordIn l s)) ∧ w' = w := by
  have HC := Lib.hid hc
  clear hc
  go_enter Tryz.func197, Tryz.ntmps197
  go_wp2_with fail
  go_loopw [5] (fun i wr => ∃ (k : Nat), k ≤ l.length ∧ i = .int .i64 k ∧ Hid (wordIn l s = wordIn (l.drop k) s) ∧ wr = w) (fun i _ => l.length - (intOf i).toNat)
  case atStart => exact ⟨0, Nat.zero_le _, rfl, Lib.hid (by simp), rfl⟩
  case round =>
    obtain ⟨k, hk, rfl, HF, rfl⟩ := hrel
    by_cases hlt : k < l.length
    · obtain ⟨q, hq⟩ : ∃ q, l[k]? = some q := ⟨_, List.getElem?_eq_getElem hlt⟩
      have hd := wordIn_drop l s k hlt q hq
      have x0 := HC.out k q hq
      have HD := Lib.hid hd
      clear hd hq
      cases hp : (q.toList == s.toList)
      · rw [hp] at HD
        go_wp2_with fail
        go_round
        case rel => exact ⟨k + 1, by omega, by go_num, Lib.hid (by rw [HF.out, HD.out]; rfl), trivial⟩
        case measure => simp [intOf]; omega
      · rw [hp] at HD
        have HE := Lib.hid (show wordIn l s = true by rw [HF.out, HD.out]; rfl)
        go_wp2_with fail
        go_ret
        exact ⟨by rw [HE.out]; rfl, rfl⟩
    · have HE := Lib.hid (show wordIn l s = false by rw [HF.out, List.drop_of_length_le (by omega)]; rfl)
      go_wp2_with fail
      go_ret
      exact ⟨by rw [HE.out]; rfl, rfl⟩
theorem isAction_any (s : ByteArray) (hs : s.size ≤ maxLen) (w : World) : Calls Tryz.prog 121 #[.string s] w fun e w' => e = .returned (.bool (actB s.data.toList)) ∧ Below w.heap.size w w' := by
  have hk := kinds_new w
  go_enter Tryz.func121, Tryz.ntmps121
  go_wp2_with fail
  refine hk.mono ?_
  rintro e w1 ⟨rfl, hm, hb⟩
  have hl := hm.lookOk hs
  clear hk
  go_wp2_with fail
  go_ret
  exact ⟨rfl, hb⟩
set_option maxRecDepth 100000 in
set_option maxHeartbeats 1000000 in
theorem asks_any (s : ByteArray) (w : World) : Calls Tryz.prog 145 #[.string s] w fun e w' => e = .returned (.bool (asksB s.data.toList)) ∧ Below w.heap.size w w' := by
  have hh := fun (w : World) hc => hasWord_any [⟨#[78]⟩, ⟨#[72]⟩, ⟨#[67]⟩, ⟨#[82]⟩, ⟨#[68]⟩] s w.heap.size 5 (w.alloc (.cells #[.string ⟨#[78]⟩, .string ⟨#[72]⟩, .string ⟨#[67]⟩, .string ⟨#[82]⟩, .string ⟨#[68]⟩] 9)) hc (by decide)
  go_enter Tryz.func145, Tryz.ntmps145
  go_wp2_with fail
  refine (hh _ (fun k s' hk => cell_fresh _ _ _ _ _ (by match k, hk with | 0, hk | 1, hk | 2, hk | 3, hk | 4, hk => cases hk; rfl))).mono ?_
  rintro e w1 ⟨rfl, hw⟩
  have hb := below_alloc w (.cells #[.string ⟨#[78]⟩, .string ⟨#[72]⟩, .string ⟨#[67]⟩, .string ⟨#[82]⟩, .string ⟨#[68]⟩] 9)
  rw [hw]
  clear hw hh
  go_wp2_with fail
  go_ret
  exact ⟨by simp [asksB, wordIn, ByteArray.toList_eq], hb⟩
set_option maxRecDepth 100000 in
set_option maxHeartbeats 1000000 in
theorem replies_any (s : ByteArray) (w : World) : Calls Tryz.prog 146 #[.string s] w fun e w' => e = .returned (.bool (repliesB s.data.toList)) ∧ Below w.heap.size w w' := by
  have hh := fun (w : World) hc => hasWord_any [⟨#[75]⟩, ⟨#[79]⟩, ⟨#[85]⟩, ⟨#[88]⟩] s w.heap.size 4 (w.alloc (.cells #[.string ⟨#[75]⟩, .string ⟨#[79]⟩, .string ⟨#[85]⟩, .string ⟨#[88]⟩] 9)) hc (by decide)
  go_enter Tryz.func146, Tryz.ntmps146
  go_wp2_with fail
  refine (hh _ (fun k s' hk => cell_fresh _ _ _ _ _ (by match k, hk with | 0, hk | 1, hk | 2, hk | 3, hk => cases hk; rfl))).mono ?_
  rintro e w1 ⟨rfl, hw⟩
  have hb := below_alloc w (.cells #[.string ⟨#[75]⟩, .string ⟨#[79]⟩, .string ⟨#[85]⟩, .string ⟨#[88]⟩] 9)
  rw [hw]
  clear hw hh
  go_wp2_with fail
  go_ret
  exact ⟨by simp [repliesB, wordIn, ByteArray.toList_eq], hb⟩
end Go.Proofs.YtlcmcknbbmokjaaGreat
namespace Go.Proofs.YtlcmcknbbmokjaaGreat
open Go Go.RowKit
theorem hRange_any (n a b : Int) (w : World) :
    Calls Tryz.prog 175 #[.int .i64 n, .int .i64 a, .int .i64 b] w fun r w' => r = .returned (.int .i64 (rng n a b)) ∧ w' = w := by
  by_cases h1 : n < a
  · have H : Hid (rng n a b = 3) := Lib.hid (by unfold rng; rw [if_neg (by omega)])
    go_enter Tryz.func175, Tryz.ntmps175
    go_wp2_with fail
    go_ret
    exact ⟨by rw [H.out]; rfl, rfl⟩
  · by_cases h2 : b < n
    · have H : Hid (rng n a b = 3) := Lib.hid (by unfold rng; rw [if_neg (by omega)])
      go_enter Tryz.func175, Tryz.ntmps175
      go_wp2_with fail
      go_ret
      exact ⟨by rw [H.out]; rfl, rfl⟩
    · have H : Hid (rng n a b = 0) := Lib.hid (by unfold rng; rw [if_pos (by omega)])
      go_enter Tryz.func175, Tryz.ntmps175
      go_wp2_with fail
      go_ret
      exact ⟨by rw [H.out]; rfl, rfl⟩
theorem hDay_any (d : Int) (w : World) :
    Calls Tryz.prog 108 #[.int .i64 d] w fun r w' => r = .returned (.int .i64 (rng d 0 99999)) ∧ w' = w := by
  go_enter Tryz.func108, Tryz.ntmps108
  go_wp2_with (go_at_call 175; refine (hRange_any _ _ _ _).mono ?_; rintro e w' ⟨rfl, rfl⟩)
  go_ret
  exact ⟨rfl, rfl⟩
theorem hPer_eq (a b m : Int) :
    perErr a b m = if ¬ (0 ≤ a ∧ a ≤ 99999) then 3 else if ¬ (0 ≤ b ∧ b ≤ 99999) then 3 else if b < a then 11 else if 400 < b - a then 4 else rng m 1 127 := by
  unfold perErr
  by_cases h1 : 0 ≤ a ∧ a ≤ 99999
  · rw [if_neg (by simpa using h1)]
    by_cases h2 : 0 ≤ b ∧ b ≤ 99999
    · rw [if_neg (by simpa using h2), rng_ok h1.1 h1.2, rng_ok h2.1 h2.2]
      have hw : wrap64 (b - a) = b - a := by unfold wrap64; omega
      rw [hw]
      by_cases h3 : b < a
      · rw [if_pos h3, decide_eq_false (by omega)]
        simp [fst, unl]
      · rw [if_neg h3, decide_eq_true (by omega)]
        by_cases h4 : 400 < b - a
        · rw [if_pos h4, decide_eq_false (by omega)]
          simp [fst, unl]
        · rw [if_neg h4, decide_eq_true (by omega)]
          simp only [fst, unl, if_true]
          by_cases h5 : rng m 1 127 = 0
          · simp [h5]
          · simp [h5]
    · rw [if_pos (by simpa using h2), rng_ok h1.1 h1.2, rng_bad h2]
      simp [fst]
  · rw [if_pos (by simpa using h1), rng_bad h1]
    simp [fst]
set_option maxRecDepth 100000 in
theorem hPeriod_any (a b m : Int) (w : World) :
    Calls Tryz.prog 174 #[.agg #[.int .i64 a, .int .i64 b, .int .i64 m]] w fun r w' => r = .returned (.int .i64 (perErr a b m)) ∧ Below w.heap.size w w' := by
  obtain ⟨W, HW, hb0, hc0, hc1, hc2⟩ : ∃ W, Hid (w.alloc (.cells #[.int .i64 a, .int .i64 b, .int .i64 m] 24) = W) ∧ Below w.heap.size w W ∧ W.cell? ⟨w.heap.size, 0, none⟩ = some (.int .i64 a) ∧ W.cell? ⟨w.heap.size, 1, none⟩ = some (.int .i64 b) ∧ W.cell? ⟨w.heap.size, 2, none⟩ = some (.int .i64 m) := ⟨_, Lib.hid rfl, below_alloc w _, by simp, by simp, by simp⟩
  have HP := Lib.hid (hPer_eq a b m)
  by_cases h1 : 0 ≤ a ∧ a ≤ 99999
  · have RA : Hid (rng a 0 99999 = 0) := Lib.hid (rng_ok h1.1 h1.2)
    by_cases h2 : 0 ≤ b ∧ b ≤ 99999
    · have RB : Hid (rng b 0 99999 = 0) := Lib.hid (rng_ok h2.1 h2.2)
      by_cases h3 : b < a
      · have HQ : Hid (perErr a b m = 11) := Lib.hid (by rw [HP.out, if_neg (by simpa using h1), if_neg (by simpa using h2), if_pos h3])
        go_enter Tryz.func174, Tryz.ntmps174
        go_wp2_with fail
        rw [HW.out]
        refine (hDay_any _ _).mono ?_
        rintro e w2 ⟨rfl, hw⟩
        rw [hw, RA.out]
        clear hw
        go_wp2_with fail
        refine (hDay_any _ _).mono ?_
        rintro e w2 ⟨rfl, hw⟩
        rw [hw, RB.out]
        clear hw
        go_wp2_with fail
        go_ret
        exact ⟨by rw [HQ.out]; rfl, hb0⟩
      · by_cases h4 : 400 < b - a
        · have HQ : Hid (perErr a b m = 4) := Lib.hid (by rw [HP.out, if_neg (by simpa using h1), if_neg (by simpa using h2), if_neg h3, if_pos h4])
          go_enter Tryz.func174, Tryz.ntmps174
          go_wp2_with fail
          rw [HW.out]
          refine (hDay_any _ _).mono ?_
          rintro e w2 ⟨rfl, hw⟩
          rw [hw, RA.out]
          clear hw
          go_wp2_with fail
          refine (hDay_any _ _).mono ?_
          rintro e w2 ⟨rfl, hw⟩
          rw [hw, RB.out]
          clear hw
          go_wp2_with fail
          go_ret
          exact ⟨by rw [HQ.out]; rfl, hb0⟩
        · have HQ : Hid (perErr a b m = rng m 1 127) := Lib.hid (by rw [HP.out, if_neg (by simpa using h1), if_neg (by simpa using h2), if_neg h3, if_neg h4])
          go_enter Tryz.func174, Tryz.ntmps174
          go_wp2_with fail
          rw [HW.out]
          refine (hDay_any _ _).mono ?_
          rintro e w2 ⟨rfl, hw⟩
          rw [hw, RA.out]
          clear hw
          go_wp2_with fail
          refine (hDay_any _ _).mono ?_
          rintro e w2 ⟨rfl, hw⟩
          rw [hw, RB.out]
          clear hw
          go_wp2_with fail
          refine (hRange_any _ _ _ _).mono ?_
          rintro e w2 ⟨rfl, hw⟩
          rw [hw]
          clear hw
          go_wp2_with fail
          go_ret
          exact ⟨by rw [HQ.out]; rfl, hb0⟩
    · have RB : Hid (rng b 0 99999 = 3) := Lib.hid (rng_bad h2)
      have HQ : Hid (perErr a b m = 3) := Lib.hid (by rw [HP.out, if_neg (by simpa using h1), if_pos h2])
      go_enter Tryz.func174, Tryz.ntmps174
      go_wp2_with fail
      rw [HW.out]
      refine (hDay_any _ _).mono ?_
      rintro e w2 ⟨rfl, hw⟩
      rw [hw, RA.out]
      clear hw
      go_wp2_with fail
      refine (hDay_any _ _).mono ?_
      rintro e w2 ⟨rfl, hw⟩
      rw [hw, RB.out]
      clear hw
      go_wp2_with fail
      go_ret
      exact ⟨by rw [HQ.out]; rfl, hb0⟩
  · have RA : Hid (rng a 0 99999 = 3) := Lib.hid (rng_bad h1)
    have HQ : Hid (perErr a b m = 3) := Lib.hid (by rw [HP.out, if_pos h1])
    go_enter Tryz.func174, Tryz.ntmps174
    go_wp2_with fail
    rw [HW.out]
    refine (hDay_any _ _).mono ?_
    rintro e w2 ⟨rfl, hw⟩
    rw [hw, RA.out]
    clear hw
    go_wp2_with fail
    go_ret
    exact ⟨by rw [HQ.out]; rfl, hb0⟩
end Go.Proofs.YtlcmcknbbmokjaaGreat
