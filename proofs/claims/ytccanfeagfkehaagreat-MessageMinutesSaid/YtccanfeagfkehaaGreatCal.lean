
/- Contracts of the functions of package calendar that count days. -/
import Derived.Test.YtccanfeagfkehaaGreatBase
import Derived.Test.YtccanfeagfkehaaGreatMath
import Derived.Below
namespace Go.Proofs.YtccanfeagfkehaaGreat
open Go.RowKit
end Go.Proofs.YtccanfeagfkehaaGreat
