
/- Contracts of package calendar: Span. -/
import Derived.Test.YtnakmgeompjhpaaGreatSeason
import Derived.Deep.RegionHeld3
namespace Go.Proofs.YtnakmgeompjhpaaGreat
open Go.RowKit
def periodVal (a b d : Int) : Value := .agg #[.int .i64 a, .int .i64 b, .int .i64 d]
end Go.Proofs.YtnakmgeompjhpaaGreat
