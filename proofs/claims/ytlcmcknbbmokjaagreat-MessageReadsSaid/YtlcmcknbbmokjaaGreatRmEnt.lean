/- Requests that stand: the cells of an entry. -/
import Derived.Test.YtlcmcknbbmokjaaGreatRmRowsG
namespace Go.Proofs.YtlcmcknbbmokjaaGreat
open Go Go.RowKit
structure EntV where
  q : ReqV
  historic : Bool
  day : Int
def EntV.cells (x : EntV) : Array Value := #[.string x.q.name, .string x.q.carrier, .string x.q.kind, .string x.q.terminal, .string x.q.partner, .string x.q.link, .int .i64 x.q.from_, .int .i64 x.q.to, .int .i64 x.q.days, .int .i64 x.q.minute, .int .i64 x.q.seats, .int .i64 x.q.size, .int .i64 x.q.noise, .bool x.historic, .int .i64 x.day]
instance : Inhabited EntV := ⟨⟨default, false, 0⟩⟩
end Go.Proofs.YtlcmcknbbmokjaaGreat
