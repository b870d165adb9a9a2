/- The first test of chapter 4 by the evaluator: tables of calls. -/
import Derived.Test.YtkjhnemfebgcnaaGreatDoorGc7
import Derived.Test.YtkjhnemfebgcnaaGreatDoorProg
namespace Go.Proofs.YtkjhnemfebgcnaaGreatDoor
open Go Go.RowKit Ev
def nI (a : Int) : Value := .int .i64 a
def nS (b : UInt8) : Value := .string ⟨#[b]⟩
def nE : Value := .string ⟨#[]⟩
def lst4 : Lst := [(0, 296, #[nI 31, nI 28, nI 31, nI 30, nI 31, nI 30, nI 31, nI 31, nI 30, nI 31, nI 30, nI 31])]
def gN4 : Nat := 16
def noOrc : Orc := fun _ _ _ => none
def sl (k n c : Nat) : Value := .slice (some ⟨gN4 + k, 0, none⟩) n c
def aM (m seats noise : Int) (k n : UInt8) : Array Value := #[nI m, nS k, nE, nI seats, nI 1, nI noise, nS n]
def rS : TypeId × Array Value := (54, #[nS 115, nI 2, nE, nS 98, nI 5, nE])
def rT : TypeId × Array Value := (56, #[nS 120, nI 0, nI 60, nI 1, nE, nS 121, nI 30, nI 90, nI 2, nE, nS 122, nI 60, nI 100, nI 4, nE])
def rM : TypeId × Array Value := (50, aM 10 100 0 65 97 ++ aM 40 200 0 65 98 ++ aM 70 150 0 65 99)
def rN : TypeId × Array Value := (50, aM 13802405 0 4 68 110)
def rL (most : Int) : TypeId × Array Value := (104, #[nE, nS 65, nI 60, nI 30, nI most])
def rI : TypeId × Array Value := (3, #[nI 0, nI 1])
def quo : Value := .agg #[nI 1380, nI 360, nI 2026, nS 83, nI 0, nI 0]
def tblA : TblS := [(83, #[nE], [], nI 0),
  (82, #[nI 1], [], nI 0), (82, #[nI 2], [], nI 0), (82, #[nI 4], [], nI 0), (82, #[nI 5], [], nI 0),
  (81, #[nS 115], [], nI 0), (81, #[nS 98], [], nI 0), (81, #[nS 120], [], nI 0), (81, #[nS 121], [], nI 0), (81, #[nS 122], [], nI 0),
  (90, #[nI 0], [], nI 0), (90, #[nI 30], [], nI 0), (90, #[nI 60], [], nI 0), (90, #[nI 90], [], nI 0), (90, #[nI 100], [], nI 0)]
def tblA2 : TblS := [(93, #[.agg (aM 10 100 0 65 97)], [], nI 0), (93, #[.agg (aM 40 200 0 65 98)], [], nI 0), (93, #[.agg (aM 70 150 0 65 99)], [], nI 0), (93, #[.agg (aM 20 0 0 65 100)], [], nI 0), (93, #[.agg (aM 13802405 0 4 68 110)], [], nI 0)]
def tblA3 : TblS := [(71, #[.agg #[nI 1380, nI 360], nI 1799], [], .tuple #[nI 0, nI 0]), (71, #[.agg #[nI 1380, nI 360], nI 100], [], .tuple #[nI 0, nI 7]),
  (155, #[quo], [], nI 0), (156, #[.agg #[nI 2026, nS 83]], [], .tuple #[.agg #[nI 9584, nI 9793, nI 127], nI 0])]
def tblB : TblS := [(22, #[sl 0 2 2], [rS], nI 0), (24, #[sl 0 2 3], [rT], nI 0), (24, #[sl 0 3 3], [rT], nI 0)]
def tblB2 : TblS := [(26, #[sl 0 3 3], [rM], nI 0), (26, #[sl 0 1 1], [rN], nI 0), (28, #[sl 0 1 1], [rL 320], nI 0), (28, #[sl 0 1 1], [rL 400], nI 0),
  (36, #[.agg #[nS 120, nI 0, nI 60, nI 1, nE], .agg #[nS 122, nI 60, nI 100, nI 4, nE], nI 1], [], .tuple #[.bool true, nI 0])]
def tblC : TblS := [(105, #[sl 0 2 2, sl 1 2 3, nI 0], [rS, rT], nI 0), (105, #[sl 0 2 2, sl 1 3 3, nI 0], [rS, rT], nI 0), (105, #[sl 0 2 2, sl 1 3 3, nI 1], [rS, rT], nI 0)]
def tblAB : TblS := tblB ++ tblA
def tblABC : TblS := tblC ++ tblB ++ tblA
def tblD : TblS := [(47, #[sl 0 2 2, sl 1 3 3, nI 1], [rS, rT], .tuple #[.agg #[nI 60, nI 1], nI 0]), (47, #[sl 0 2 2, sl 1 3 3, nI 0], [rS, rT], .tuple #[.agg #[nI 0, nI 0], nI 7]),
  (49, #[sl 0 3 3, nI 0], [rT], .tuple #[.agg #[nI 2, nI 2, nI 1, nI 1, nI 0, nI 0, nI 0, nI 0, nI 0], nI 0]), (41, #[sl 0 2 2, sl 1 2 3, nI 0, sl 2 2 2], [rS, rT, rI], nI 0)]
def tblE : TblS := [(57, #[.agg #[nE, nS 65, nI 60, nI 30, nI 320], sl 0 3 3, nI 0], [rM], .tuple #[nI 300, nI 0]),
  (59, #[sl 0 1 1, sl 1 3 3], [rL 320, rM], .tuple #[.agg #[nI 0, nI 30, nI 350], nI 0]),
  (61, #[sl 0 1 1, sl 1 3 3, .agg (aM 20 0 0 65 100)], [rL 400, rM], .tuple #[nI 100, nI 0]),
  (63, #[quo, sl 0 1 1], [rN], .tuple #[.agg #[nI 1, nI 4], nI 0])]
def tblF : TblS := [(40, #[sl 0 2 2, sl 1 3 3, nI 1], [rS, rT], .tuple #[.slice none 0 0, nI 23])]
def tblR : TblR := [⟨40, #[sl 0 2 2, sl 1 2 3, nI 0], [rS, rT], (3, #[nI 0, nI 1]), 2, 2, nI 0⟩, ⟨40, #[sl 0 2 2, sl 1 3 3, nI 0], [rS, rT], (3, #[nI 1, nI 0, nI 1]), 3, 3, nI 0⟩]
def tblR2 : TblR := [⟨50, #[sl 0 2 2, sl 1 2 3, nI 0, sl 2 2 2], [rS, rT, rI], (3, #[nI 60, nI 60]), 2, 2, nI 0⟩]
def tblA23 : TblS := tblA3 ++ tblA2
def tblE0 : TblS := tblB2 ++ tblA3 ++ tblA2 ++ tblA
def tblG : TblS := tblD ++ tblF ++ tblE ++ tblB2 ++ tblA3
def orcA : Orc := memoS gN4 lst4 tblA noOrc
def orcAB : Orc := memoS gN4 lst4 tblAB noOrc
def orcABC : Orc := memoS gN4 lst4 tblABC noOrc
def orcA23 : Orc := memoS gN4 lst4 (tblA2 ++ tblA) noOrc
def orcE : Orc := memoS gN4 lst4 tblE0 noOrc
def orcD : Orc := memoS gN4 lst4 tblD noOrc
def orcG : Orc := memoR gN4 lst4 (tblR ++ tblR2) (memoS gN4 lst4 tblG noOrc)
theorem good_lst4 : goodL gN4 lst4 = true := by kernel_rfl
end Go.Proofs.YtkjhnemfebgcnaaGreatDoor
