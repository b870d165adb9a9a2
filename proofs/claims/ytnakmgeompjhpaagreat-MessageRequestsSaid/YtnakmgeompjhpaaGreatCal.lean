
/- Contracts of the functions of package calendar that count days. -/
import Derived.Test.YtnakmgeompjhpaaGreatBase
import Derived.Test.YtnakmgeompjhpaaGreatMath
import Derived.Below
namespace Go.Proofs.YtnakmgeompjhpaaGreat
open Go.RowKit
end Go.Proofs.YtnakmgeompjhpaaGreat
