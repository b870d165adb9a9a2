/- Two rows of the same periods. -/
import Derived.Test.YtoaimgfekbnijaaDoorArr3
import Derived.Test.YtoaimgfekbnijaaDoorStr
import Derived.Test.YtoaimgfekbnijaaDoorIntsC
import Derived.Laws.OwnMore
namespace Go.Proofs.YtoaimgfekbnijaaDoor
open Go Go.RowKit
theorem run_eqIn_per (a b c a' b' c' : Int) (w : World) :
    (Op.equalIn 10000 23 (.agg #[.int .i64 a, .int .i64 b, .int .i64 c]) (.agg #[.int .i64 a', .int .i64 b', .int .i64 c'])).run Tryd.prog w = .ok (a == a' && (b == b' && c == c')) w := by
  rw [show (10000 : Nat) = 9998 + 1 + 1 from rfl, run_equalIn_struct w (9998 + 1) 23 _ _ (by kernel_rfl) (by kernel_rfl)]
  have hi : ∀ x y : Int, (Op.equalIn (9998 + 1) 3 (.int .i64 x) (.int .i64 y)).run Tryd.prog w = .ok (x == y) w := fun x y => run_equalIn_int w 9998 3 .i64 .i64 x y Tryd.underlying3
  cases h1 : (a == a') <;> cases h2 : (b == b') <;> cases h3 : (c == c') <;> simp [Program.fieldsOf, Tryd.underlying23, Op.eqFields, part, hi, h1, h2, h3]
attribute [local go_sem] run_eqIn_per
theorem flat3_at (l : List (Int × Int × Int)) : ∀ (i : Nat), i < l.length → (flat3 l)[i * 3]? = some (.int .i64 (l.getD i (0, 0, 0)).1) ∧ (flat3 l)[i * 3 + 1]? = some (.int .i64 (l.getD i (0, 0, 0)).2.1) ∧ (flat3 l)[i * 3 + 2]? = some (.int .i64 (l.getD i (0, 0, 0)).2.2) := by
  induction l with
  | nil => intro i h; simp at h
  | cons x r ih =>
    intro i h
    cases i with
    | zero => simp [flat3]
    | succ j =>
      have e : flat3 (x :: r) = [.int .i64 x.1, .int .i64 x.2.1, .int .i64 x.2.2] ++ flat3 r := by simp [flat3]
      obtain ⟨a, b, c⟩ := ih j (by simpa using h)
      rw [e, show (j + 1) * 3 = 3 + j * 3 from by omega]
      refine ⟨?_, ?_, ?_⟩
      · rw [List.getElem?_append_right (by simp)]; simpa using a
      · rw [List.getElem?_append_right (by simp; omega)]; simpa [show 3 + j * 3 + 1 - 3 = j * 3 + 1 from by omega] using b
      · rw [List.getElem?_append_right (by simp; omega)]; simpa [show 3 + j * 3 + 2 - 3 = j * 3 + 2 from by omega] using c
theorem row_zero {w : World} {base : Nat} {e : TypeId} {size : Nat} {v : Value} {xs : List Value} (h : w.ownsRow base e size v 0 xs) : ∃ A c, v = .slice A 0 c := by
  rcases h.2 with ⟨rfl, _⟩ | ⟨g, cap, cur, rfl, _⟩
  · exact ⟨none, 0, rfl⟩
  · exact ⟨_, _, rfl⟩
set_option maxRecDepth 100000 in
theorem SamePeriods_zero (A B : Option Addr) (c d : Nat) (w : World) :
    Calls Tryd.prog 22 #[.slice A 0 c, .slice B 0 d] w fun r w' => r = .returned (.bool true) ∧ ∃ n, w' = w.drewN n := by
  go_enter Tryd.func22, Tryd.ntmps22
  go_wp2_with fail
  go_loopw [5] (fun i wr => i = .int .i64 0 ∧ wr = w) (fun _ _ => 0)
  case atStart => exact ⟨rfl, rfl⟩
  case round =>
    obtain ⟨rfl, rfl⟩ := hrel
    go_wp2_with fail
    go_ret
    exact ⟨rfl, 0, rfl⟩
set_option maxRecDepth 100000 in
set_option maxHeartbeats 1000000 in
theorem SamePeriods_some (l : List (Int × Int × Int)) (b1 b2 n g1 g2 p1 p2 : Nat) (w : World) (h1 : w.ownsRow b1 23 3 (.slice (some ⟨g1, 0, none⟩) n p1) n (flat3 l)) (h2 : w.ownsRow b2 23 3 (.slice (some ⟨g2, 0, none⟩) n p2) n (flat3 l)) (hl : l.length = n) (hn : n ≤ 1000) :
    Calls Tryd.prog 22 #[.slice (some ⟨g1, 0, none⟩) n p1, .slice (some ⟨g2, 0, none⟩) n p2] w fun r w' => r = .returned (.bool true) ∧ ∃ q, w' = w.drewN q := by
  have HX : Hid (∀ i t, i < n → t < 3 → w.cell? ⟨g1, i * 3 + t, none⟩ = (flat3 l)[i * 3 + t]?) := Lib.hid fun i t hi ht => h1.cellAt _ (by omega)
  have HY : Hid (∀ i t, i < n → t < 3 → w.cell? ⟨g2, i * 3 + t, none⟩ = (flat3 l)[i * 3 + t]?) := Lib.hid fun i t hi ht => h2.cellAt _ (by omega)
  clear h1 h2
  go_enter Tryd.func22, Tryd.ntmps22
  go_wp2_with fail
  go_loopw [5] (fun i wr => ∃ k : Nat, k ≤ n ∧ i = .int .i64 k ∧ ∃ q, wr = w.drewN q) (fun i _ => n - (intOf i).toNat)
  case atStart => exact ⟨0, Nat.zero_le _, rfl, 0, rfl⟩
  case round =>
    obtain ⟨k, hk, rfl, q, rfl⟩ := hrel
    by_cases hlt : k < n
    · obtain ⟨f0, f1, f2⟩ := flat3_at l k (by omega)
      have x0 := (HX.out k 0 hlt (by omega)).trans f0
      have x1 := (HX.out k 1 hlt (by omega)).trans f1
      have x2 := (HX.out k 2 hlt (by omega)).trans f2
      have y0 := (HY.out k 0 hlt (by omega)).trans f0
      have y1 := (HY.out k 1 hlt (by omega)).trans f1
      have y2 := (HY.out k 2 hlt (by omega)).trans f2
      simp only [Nat.add_zero] at x0 y0
      clear f0 f1 f2
      generalize (l.getD k (0, 0, 0)).1 = u0 at *
      generalize (l.getD k (0, 0, 0)).2.1 = u1 at *
      generalize (l.getD k (0, 0, 0)).2.2 = u2 at *
      go_wp2_with fail
      go_quiet (fail)
      go_wp2_with fail
      go_roundw
      case rel => exact ⟨k + 1, by omega, by go_num, q + nq, by first | rfl | rw [World.drewN_drewN]⟩
      case measure => simp [intOf]; omega
    · go_wp2_with fail
      go_ret
      exact ⟨rfl, q, rfl⟩
theorem SamePeriods_same (l : List (Int × Int × Int)) (b1 b2 : Nat) (v1 v2 : Value) (w : World) (h1 : w.ownsRow b1 23 3 v1 l.length (flat3 l)) (h2 : w.ownsRow b2 23 3 v2 l.length (flat3 l)) (hl : l.length ≤ 1000) :
    Calls Tryd.prog 22 #[v1, v2] w fun r w' => r = .returned (.bool true) ∧ ∃ n, w' = w.drewN n := by
  cases l with
  | nil =>
    obtain ⟨A, c, rfl⟩ := row_zero h1
    obtain ⟨B, d, rfl⟩ := row_zero h2
    exact SamePeriods_zero A B c d w
  | cons x r =>
    obtain ⟨g1, c1, rfl⟩ := ownsRow_succ h1
    obtain ⟨g2, c2, rfl⟩ := ownsRow_succ h2
    exact SamePeriods_some (x :: r) b1 b2 _ g1 g2 c1 c2 w h1 h2 rfl hl
end Go.Proofs.YtoaimgfekbnijaaDoor
