
/- Contracts of the small functions of package calendar, over any world. -/
import Derived.Test.YtnakmgeompjhpaaGreatProg
import Derived.WalkKit
import Derived.IntWalk
import Derived.Outline
import Derived.Lib.Hide
import Derived.LoopTactic
import Derived.Deep.QuietTactic
import Derived.BigQuiet
import Derived.StillTailTactics
namespace Go.Proofs.YtnakmgeompjhpaaGreat
open Go.RowKit
theorem ret_int {k : IntKind} {a b : Int} (h : a = b) : Ending.returned (.int k a) = .returned (.int k b) := by rw [h]

/-- A number and an error: the number is 0 beside an error. -/
def num2 (bad v : Int) : Value := .tuple #[.int .i64 (if bad = 0 then v else 0), .int .i64 bad]
theorem num2_ok (v : Int) : num2 0 v = .tuple #[.int .i64 v, .int .i64 0] := rfl
theorem num2_bad {bad : Int} (v : Int) (h : bad ≠ 0) : num2 bad v = .tuple #[.int .i64 0, .int .i64 bad] := by unfold num2; rw [if_neg h]

/-- What unless returns. -/
def unl (b : Bool) (e : Int) : Int := if b = true then 0 else e
theorem unl_t (e : Int) : unl true e = 0 := rfl
theorem unl_f (e : Int) : unl false e = e := rfl
theorem unless_any (b : Bool) (e : Int) (w : World) :
    Calls Tryz.prog 34 #[.bool b, .int .i64 e] w fun r w' => r = .returned (.int .i64 (unl b e)) ∧ w' = w := by
  cases b
  all_goals
    go_enter Tryz.func34, Tryz.ntmps34
    go_wp2
    go_ret
    exact ⟨rfl, rfl⟩

theorem unless_t (e : Int) (w : World) :
    Calls Tryz.prog 34 #[.bool true, .int .i64 e] w fun r w' => r = .returned (.int .i64 0) ∧ w' = w := unless_any true e w
theorem unless_f (e : Int) (w : World) :
    Calls Tryz.prog 34 #[.bool false, .int .i64 e] w fun r w' => r = .returned (.int .i64 e) ∧ w' = w := unless_any false e w
/-- ErrRange if n is not from a to b. -/
def rng (n a b : Int) : Int := if a ≤ n ∧ n ≤ b then 0 else 3
theorem checkRange_any (n a b : Int) (w : World) :
    Calls Tryz.prog 37 #[.int .i64 n, .int .i64 a, .int .i64 b] w fun r w' => r = .returned (.int .i64 (rng n a b)) ∧ w' = w := by
  have R : rng n a b = if (decide (a ≤ n) && decide (n ≤ b)) = true then 0 else 3 := by simp [rng]
  by_cases h1 : a ≤ n
  · by_cases h2 : n ≤ b
    · have H : Hid (rng n a b = 0) := Lib.hid (by simp [rng, h1, h2])
      clear R
      go_enter Tryz.func37, Tryz.ntmps37
      go_wp2_with (go_at_call 34; refine (unless_any _ _ _).mono ?_; rintro e w' ⟨rfl, rfl⟩)
      go_ret
      exact ⟨by rw [H.out]; rfl, rfl⟩
    · have H : Hid (rng n a b = 3) := Lib.hid (by simp [rng, h2])
      clear R
      go_enter Tryz.func37, Tryz.ntmps37
      go_wp2_with (go_at_call 34; refine (unless_any _ _ _).mono ?_; rintro e w' ⟨rfl, rfl⟩)
      go_ret
      exact ⟨by rw [H.out]; rfl, rfl⟩
  · have H : Hid (rng n a b = 3) := Lib.hid (by simp [rng, h1])
    clear R
    go_enter Tryz.func37, Tryz.ntmps37
    go_wp2_with (go_at_call 34; refine (unless_any _ _ _).mono ?_; rintro e w' ⟨rfl, rfl⟩)
    go_ret
    exact ⟨by rw [H.out]; rfl, rfl⟩

/-- The first of some numbers that is not 0. -/
def fst (l : List Int) : Int := match l with
  | [] => 0
  | x :: r => if x = 0 then fst r else x

theorem fst_drop (es : List Int) (k : Nat) (h : k < es.length) : fst (es.drop k) = if es.getD k 0 = 0 then fst (es.drop (k + 1)) else es.getD k 0 := by
  rw [List.drop_eq_getElem_cons h]
  simp [fst, h]
theorem firstError_any (es : List Int) (b c : Nat) (w : World) (hc : ∀ i, i < es.length → w.cell? ⟨b, i, none⟩ = some (.int .i64 (es.getD i 0))) (hl : es.length ≤ 100) :
    Calls Tryz.prog 30 #[.slice (some ⟨b, 0, none⟩) es.length c] w fun r w' => r = .returned (.int .i64 (fst es)) ∧ w' = w := by
  have HC := Lib.hid hc
  clear hc
  go_enter Tryz.func30, Tryz.ntmps30
  go_wp2
  go_loop [7] (fun i => ∃ k : Nat, k ≤ es.length ∧ i = .int .i64 k ∧ Hid (fst es = fst (es.drop k))) (fun i => es.length - (intOf i).toNat)
  case atStart => exact ⟨0, Nat.zero_le _, rfl, Lib.hid (by simp)⟩
  case round =>
    obtain ⟨k, hk, rfl, HF⟩ := hrel
    by_cases hlt : k < es.length
    · have hcell := HC.out k hlt
      have hd := fst_drop es k hlt
      by_cases hz : es.getD k 0 = 0
      · have HD := Lib.hid hd; clear hd
        have HZ := Lib.hid hz; 
        rw [hz] at hcell
        clear hz
        go_wp2
        go_round
        case rel => exact ⟨k + 1, by omega, by go_num, Lib.hid (by rw [HF.out, HD.out, if_pos HZ.out])⟩
        case measure => simp [intOf]; omega
      · have HD := Lib.hid (show fst es = es.getD k 0 by rw [HF.out, hd, if_neg hz]); clear hd
        generalize es.getD k 0 = x at *
        have hb : (x != 0) = true := by simpa using hz
        clear hz
        go_wp2
        go_ret
        exact ⟨by rw [HD.out]; rfl, rfl⟩
    · have HD := Lib.hid (show fst es = 0 by rw [HF.out, List.drop_of_length_le (by omega)]; rfl)
      go_wp2
      go_ret
      exact ⟨by rw [HD.out]; rfl, rfl⟩
end Go.Proofs.YtnakmgeompjhpaaGreat
