
/- Contracts of package calendar: SeasonOf. -/
import Derived.Test.YtnakmgeompjhpaaGreatSpan
namespace Go.Proofs.YtnakmgeompjhpaaGreat
open Go.RowKit
theorem first_day : fDay 2000 ⟨#[83]⟩ = 85 := by unfold fDay; rw [if_pos isS_S]; decide
theorem last_day : lDay 2272 ⟨#[87]⟩ = 99799 := by
  unfold lDay follY follK
  rw [if_neg (by simp [isS_W]), if_neg (by simp [isS_W])]
  unfold fDay; rw [if_pos isS_S]; decide
def seaY (d y : Int) : Int := if d < Cal.ls y 3 then y - 1 else y
def seaK (d y : Int) : ByteArray := if d < Cal.ls y 3 then ⟨#[87]⟩ else if d < Cal.ls y 10 then ⟨#[83]⟩ else ⟨#[87]⟩
end Go.Proofs.YtnakmgeompjhpaaGreat
