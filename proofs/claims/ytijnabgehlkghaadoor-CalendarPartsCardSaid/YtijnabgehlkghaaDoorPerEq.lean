/- Periods, and rows of two periods, are compared. -/
import Derived.Test.YtijnabgehlkghaaDoorArr3
namespace Go.Proofs.YtijnabgehlkghaaDoor
open Go Go.RowKit
theorem eqIn_per (d : Nat) (a b c a' b' c' : Int) (w : World) :
    (Op.equalIn (d + 1 + 1) 23 (.agg #[.int .i64 a, .int .i64 b, .int .i64 c]) (.agg #[.int .i64 a', .int .i64 b', .int .i64 c'])).run Tryd.prog w = .ok (a == a' && (b == b' && c == c')) w := by
  rw [run_equalIn_struct w (d + 1) 23 _ _ (by kernel_rfl) (by kernel_rfl)]
  have hi : ∀ x y : Int, (Op.equalIn (d + 1) 3 (.int .i64 x) (.int .i64 y)).run Tryd.prog w = .ok (x == y) w := fun x y => run_equalIn_int w d 3 .i64 .i64 x y Tryd.underlying3
  cases h1 : (a == a') <;> cases h2 : (b == b') <;> cases h3 : (c == c') <;> simp [Program.fieldsOf, Tryd.underlying23, Op.eqFields, part, hi, h1, h2, h3]
theorem run_eqIn_per2 (a b c d e f a' b' c' d' e' f' : Int) (w : World) :
    (Op.equalIn 10000 25 (.agg #[.int .i64 a, .int .i64 b, .int .i64 c, .int .i64 d, .int .i64 e, .int .i64 f]) (.agg #[.int .i64 a', .int .i64 b', .int .i64 c', .int .i64 d', .int .i64 e', .int .i64 f'])).run Tryd.prog w =
      .ok ((a == a' && (b == b' && c == c')) && (d == d' && (e == e' && f == f'))) w := by
  have hs : (sizeOf 23).run Tryd.prog w = .ok 3 w := Tryd.sizeOf23 w
  rw [show (10000 : Nat) = 9997 + 1 + 1 + 1 from rfl]
  unfold Op.equalIn
  simp only [Sem.run_bind, run_underlying Tryd.underlying25, Result.andThen_ok, hs]
  cases h1 : (a == a' && (b == b' && c == c')) <;> cases h2 : (d == d' && (e == e' && f == f')) <;> simp [Std.Legacy.Range.forIn_eq_forIn_range', List.range', part, eqIn_per, h1, h2]
end Go.Proofs.YtijnabgehlkghaaDoor
