/- Rows of three integers are compared. -/
import Derived.Test.YtoaimgfekbnijaaDoorHeap
import Derived.Laws.StructEq
namespace Go.Proofs.YtoaimgfekbnijaaDoor
open Go Go.RowKit
theorem eqIn_int (d : Nat) (a b : Int) (w : World) : (Op.equalIn (d + 1) 3 (.int .i64 a) (.int .i64 b)).run Tryd.prog w = .ok (a == b) w := run_equalIn_int w d 3 .i64 .i64 a b Tryd.underlying3
theorem eqIn_arr3 (a b c a' b' c' : Int) (w : World) :
    (Op.equalIn (9999 + 1) 45 (.agg #[.int .i64 a, .int .i64 b, .int .i64 c]) (.agg #[.int .i64 a', .int .i64 b', .int .i64 c'])).run Tryd.prog w = .ok (a == a' && (b == b' && c == c')) w := by
  have hs : (sizeOf 3).run Tryd.prog w = .ok 1 w := Tryd.sizeOf3 w
  unfold Op.equalIn
  simp only [Sem.run_bind, run_underlying Tryd.underlying45, Result.andThen_ok, hs]
  cases h1 : (a == a') <;> cases h2 : (b == b') <;> cases h3 : (c == c') <;> simp [Std.Legacy.Range.forIn_eq_forIn_range', List.range', part, eqIn_int, h1, h2, h3]
theorem run_eqIn_arr3 (a b c a' b' c' : Int) (w : World) :
    (Op.equalIn 10000 45 (.agg #[.int .i64 a, .int .i64 b, .int .i64 c]) (.agg #[.int .i64 a', .int .i64 b', .int .i64 c'])).run Tryd.prog w = .ok (a == a' && (b == b' && c == c')) w := eqIn_arr3 a b c a' b' c' w
theorem b_drewN {B : Nat} {a w : World} (h : Below B a w) (n : Nat) : Below B a (w.drewN n) := h.trans ⟨rfl, rfl, rfl, Nat.le_refl _, fun _ _ => rfl⟩
theorem run_eql_arr3 (a b c a' b' c' : Int) (w : World) :
    (binOp .eql 45 (.agg #[.int .i64 a, .int .i64 b, .int .i64 c]) (.agg #[.int .i64 a', .int .i64 b', .int .i64 c'])).run Tryd.prog w = .ok (.bool (a == a' && (b == b' && c == c'))) w := by
  rw [run_eql_struct]
  rw [show (10000 : Nat) = 9999 + 1 from rfl, eqIn_arr3]
  rfl
end Go.Proofs.YtoaimgfekbnijaaDoor
