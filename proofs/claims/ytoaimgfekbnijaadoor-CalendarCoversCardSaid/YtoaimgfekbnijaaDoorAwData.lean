/- The examples of chapter 1, run by the evaluator of closed calls: what the statements' first test comes to. -/
import Derived.Test.YtoaimgfekbnijaaDoorEvD
import Derived.Test.YtoaimgfekbnijaaDoorProg
namespace Go.Proofs.YtoaimgfekbnijaaDoor
open Go Go.RowKit Ev
def nI (a : Int) : Value := .int .i64 a
def nP (a b c : Int) : Value := .agg #[nI a, nI b, nI c]
def n2 (a b : Int) : Value := .tuple #[nI a, nI b]
def bySS : Value := .string ⟨#[83]⟩
/-- The listed variables, as they are laid. -/
def lst : Lst := [
  (0, 61, #[nI 2000, .string ⟨#[83]⟩]),
  (1, 61, #[nI 2272, .string ⟨#[87]⟩]),
  (2, 130, #[nI 31, nI 28, nI 31, nI 30, nI 31, nI 30, nI 31, nI 31, nI 30, nI 31, nI 30, nI 31]),
  (3, 164, #[.int .u64 1, .int .u64 10, .int .u64 100, .int .u64 1000, .int .u64 10000, .int .u64 100000, .int .u64 1000000, .int .u64 10000000, .int .u64 100000000, .int .u64 1000000000, .int .u64 10000000000, .int .u64 100000000000, .int .u64 1000000000000, .int .u64 10000000000000, .int .u64 100000000000000, .int .u64 1000000000000000, .int .u64 10000000000000000, .int .u64 100000000000000000, .int .u64 1000000000000000000, .int .u64 10000000000000000000])]
def gN : Nat := 16
def noOrc : Orc := fun _ _ _ => none
def tblHas : Tbl := [
  (80, #[nI 2026, nI 3], nI 9584), (80, #[nI 2026, nI 10], nI 9794),
  (89, #[nP 0 9 96, nI 0], .bool true), (89, #[nP 0 9 96, nI 1], .bool true), (89, #[nP 0 9 96, nI 2], .bool false), (89, #[nP 0 9 96, nI 3], .bool false), (89, #[nP 0 9 96, nI 4], .bool false),
  (89, #[nP 0 9 96, nI 5], .bool false), (89, #[nP 0 9 96, nI 6], .bool false), (89, #[nP 0 9 96, nI 7], .bool true), (89, #[nP 0 9 96, nI 8], .bool true), (89, #[nP 0 9 96, nI 9], .bool false),
  (89, #[nP 1 8 64, nI 0], .bool false), (89, #[nP 1 8 64, nI 1], .bool true), (89, #[nP 1 8 64, nI 2], .bool false), (89, #[nP 1 8 64, nI 3], .bool false), (89, #[nP 1 8 64, nI 4], .bool false),
  (89, #[nP 1 8 64, nI 5], .bool false), (89, #[nP 1 8 64, nI 6], .bool false), (89, #[nP 1 8 64, nI 7], .bool false), (89, #[nP 1 8 64, nI 8], .bool true), (89, #[nP 1 8 64, nI 9], .bool false)]
def tblOne : Tbl := [(26, #[nI 2026, nI 3, nI 29], n2 9584 0), (26, #[nI 2026, nI 2, nI 30], n2 0 7), (29, #[nI 9584], n2 6 0)]
def tblTwo : Tbl := [(15, #[nP 0 9 96, nI 2], .tuple #[nP 2 11 3, nI 0]), (52, #[nI 96], .tuple #[.string ⟨#[48, 48, 48, 48, 48, 54, 55]⟩, nI 0])]
def tblThree : Tbl := [(33, #[.agg #[nI 2026, bySS]], .tuple #[nP 9584 9793 127, nI 0])]
def tblFour : Tbl := [(37, #[nI 9594, .agg #[nI 2025, bySS]], n2 9230 0)]
def tblPrint : Tbl := [(27, #[nI 59], .tuple #[.string ⟨#[50, 48, 48, 48, 45, 48, 50, 45, 50, 57]⟩, nI 0])]
def tblAll : Tbl := tblPrint ++ tblOne ++ tblTwo ++ tblThree ++ tblFour ++ tblHas
theorem good_lst : goodL gN lst = true := by kernel_rfl
theorem run_has : (tblHas.all fun x => runs Tryd.prog gN noOrc 300 lst x) = true := by kernel_rfl
theorem run_one : (tblOne.all fun x => runs Tryd.prog gN noOrc 300 lst x) = true := by kernel_rfl
theorem run_two : (tblTwo.all fun x => runs Tryd.prog gN noOrc 300 lst x) = true := by kernel_rfl
theorem run_three : (tblThree.all fun x => runs Tryd.prog gN noOrc 300 lst x) = true := by kernel_rfl
theorem run_four : (tblFour.all fun x => runs Tryd.prog gN noOrc 300 lst x) = true := by kernel_rfl
end Go.Proofs.YtoaimgfekbnijaaDoor
