/- Contracts: two rows of integers are the same. -/
import Derived.Test.YtijnabgehlkghaaGreatDoorRefDraw
import Derived.Test.YtijnabgehlkghaaGreatDoorSame
namespace Go.Proofs.YtijnabgehlkghaaGreatDoor
open Go Go.RowKit
theorem intAt_row {w0 W : World} {b n : Nat} {g : Nat → Int} (h : Row w0 b n g W) : IntAt W b 0 ((List.range n).map g) := fun i hi => by
  have hi' : i < n := by simpa using hi
  rw [Nat.zero_add, h.c i hi']
  simp [List.getD, hi']
theorem SameInts_rows {n : Nat} {g : Nat → Int} (b1 b2 c1 c2 : Nat) {w0 w0' w : World} (h1 : Row w0 b1 n g w) (h2 : Row w0' b2 n g w) (hn : n ≤ 1000) :
    Calls Tryz.prog 71 #[.slice (some ⟨b1, 0, none⟩) n c1, .slice (some ⟨b2, 0, none⟩) n c2] w fun r w' => r = .returned (.bool true) ∧ ∃ n, w' = w.drewN n := by
  have e : ((List.range n).map g).length = n := by simp
  have H := SameInts_some ((List.range n).map g) ((List.range n).map g) b1 0 c1 b2 0 c2 w (intAt_row h1) (intAt_row h2) (by rw [e]; omega) (by rw [e]; omega)
  rw [e, decide_eq_true rfl] at H
  exact H
theorem SameInts_none (b1 c1 : Nat) (w : World) : Calls Tryz.prog 71 #[.slice (some ⟨b1, 0, none⟩) 0 c1, .slice none 0 0] w fun r w' => r = .returned (.bool true) ∧ ∃ n, w' = w.drewN n := by
  go_enter Tryz.func71, Tryz.ntmps71
  go_wp2
  go_loopw [5] (fun i wr => i = .int .i64 0 ∧ wr = w) (fun _ _ => 0)
  case atStart => exact ⟨rfl, rfl⟩
  case round =>
    obtain ⟨rfl, rfl⟩ := hrel
    go_wp2
    go_ret
    exact ⟨rfl, 0, rfl⟩
theorem list_rows {n : Nat} {g : Nat → Int} (b1 b2 c1 c2 : Nat) {w0 w0' w : World} (h1 : Row w0 b1 n g w) (h2 : Row w0' b2 n g w) (hn : n ≤ 1000) :
    Calls Tryz.prog 37 #[.slice (some ⟨b1, 0, none⟩) n c1, .int .i64 0, .int .i64 0, .slice (some ⟨b2, 0, none⟩) n c2] w fun r w' => r = .returned (.bool true) ∧ ∃ n, w' = w.drewN n := by
  go_enter Tryz.func37, Tryz.ntmps37
  go_wp2_with fail
  refine (SameInts_rows b1 b2 c1 c2 h1 h2 hn).mono ?_
  rintro e w1 ⟨rfl, n, rfl⟩
  go_wp2_with fail
  go_ret
  exact ⟨rfl, n, rfl⟩
theorem list_none (b1 c1 : Nat) (w : World) :
    Calls Tryz.prog 37 #[.slice (some ⟨b1, 0, none⟩) 0 c1, .int .i64 0, .int .i64 0, .slice none 0 0] w fun r w' => r = .returned (.bool true) ∧ ∃ n, w' = w.drewN n := by
  go_enter Tryz.func37, Tryz.ntmps37
  go_wp2_with fail
  refine (SameInts_none b1 c1 _).mono ?_
  rintro e w1 ⟨rfl, n, rfl⟩
  go_wp2_with fail
  go_ret
  exact ⟨rfl, n, rfl⟩
theorem list_bad2 (bad : Int) (w : World) (h : bad ≠ 0) :
    Calls Tryz.prog 37 #[.slice none 0 0, .int .i64 bad, .int .i64 bad, .slice none 0 0] w fun r w' => r = .returned (.bool true) ∧ w' = w := by
  have hb : (bad != 0) = true := by simpa using h
  clear h
  go_enter Tryz.func37, Tryz.ntmps37
  go_wp2_with fail
  go_ret
  exact ⟨rfl, rfl⟩
end Go.Proofs.YtijnabgehlkghaaGreatDoor
