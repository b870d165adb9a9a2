/- The first test of chapter 2 by the evaluator: tables. -/
import Derived.Test.YtlcmcknbbmokjaaGreatPm8
import Derived.Test.YtlcmcknbbmokjaaGreatProg
import Derived.Lib.Join
import Derived.Lib.Bytealg
namespace Go.Proofs.YtlcmcknbbmokjaaGreat
open Go Go.RowKit Ev
def nI (a : Int) : Value := .int .i64 a
def rX : Array Value := #[.string ⟨#[113, 49]⟩, .string ⟨#[97, 98]⟩, .string ⟨#[65]⟩, .string ⟨#[116, 49]⟩, .string ⟨#[102, 97, 114]⟩, .string ⟨#[]⟩, nI 8900, nI 8920, nI 5, nI 605, nI 180, nI 4, nI 12]
def rL : Array Value := #[.string ⟨#[113, 49]⟩, .string ⟨#[97, 98]⟩, .string ⟨#[65]⟩, .string ⟨#[116, 49]⟩, .string ⟨#[102, 97, 114]⟩, .string ⟨#[]⟩, nI 8900, nI 8920, nI 5, nI 615, nI 180, nI 4, nI 12]
def rO : Array Value := #[.string ⟨#[113, 50]⟩, .string ⟨#[97, 98]⟩, .string ⟨#[65]⟩, .string ⟨#[116, 49]⟩, .string ⟨#[102, 97, 114]⟩, .string ⟨#[]⟩, nI 8900, nI 8920, nI 5, nI 605, nI 180, nI 4, nI 12]
def txt : Value := .string ⟨#[78, 32, 97, 98, 32, 113, 49, 32, 65, 32, 102, 97, 114, 32, 48, 56, 57, 48, 48, 32, 48, 56, 57, 50, 48, 32, 49, 48, 51, 48, 48, 48, 48, 32, 49, 48, 48, 53, 32, 49, 56, 48, 32, 52, 32, 49, 50, 32, 116, 49, 32, 45]⟩
def lst2 : Lst := []
def gN2 : Nat := 16
def noOrc : Orc := fun _ _ _ => none
def tblA : TblS := [(155, #[.string ⟨#[113, 49]⟩], [], nI 0),
  (155, #[.string ⟨#[97, 98]⟩], [], nI 0),
  (155, #[.string ⟨#[102, 97, 114]⟩], [], nI 0),
  (155, #[.string ⟨#[113, 50]⟩], [], nI 0),
  (155, #[.string ⟨#[104, 101, 114, 101]⟩], [], nI 0),
  (194, #[.string ⟨#[116, 49]⟩], [], nI 0),
  (194, #[.string ⟨#[]⟩], [], nI 0),
  (185, #[.string ⟨#[113, 49]⟩], [], .bool true),
  (185, #[.string ⟨#[97, 98]⟩], [], .bool true),
  (185, #[.string ⟨#[102, 97, 114]⟩], [], .bool true),
  (185, #[.string ⟨#[116, 49]⟩], [], .bool true),
  (185, #[.string ⟨#[113, 50]⟩], [], .bool true),
  (185, #[.string ⟨#[104, 101, 114, 101]⟩], [], .bool true),
  (195, #[.string ⟨#[65]⟩], [], nI 0),
  (114, #[nI 605], [], nI 0),
  (114, #[nI 615], [], nI 0),
  (196, #[.agg #[nI 8900, nI 8920, nI 5]], [], nI 0),
  (121, #[.string ⟨#[78]⟩], [], .bool true),
  (121, #[.string ⟨#[67]⟩], [], .bool true),
  (121, #[.string ⟨#[82]⟩], [], .bool true),
  (121, #[.string ⟨#[68]⟩], [], .bool true),
  (121, #[.string ⟨#[79]⟩], [], .bool true)]
def tblD : TblS := [(115, #[nI 8900, nI 5], [], .string ⟨#[48, 56, 57, 48, 48]⟩),
  (115, #[nI 8920, nI 5], [], .string ⟨#[48, 56, 57, 50, 48]⟩),
  (115, #[nI 10, nI 2], [], .string ⟨#[49, 48]⟩),
  (115, #[nI 5, nI 2], [], .string ⟨#[48, 53]⟩),
  (115, #[nI 180, nI 3], [], .string ⟨#[49, 56, 48]⟩),
  (115, #[nI 4, nI 1], [], .string ⟨#[52]⟩),
  (115, #[nI 12, nI 2], [], .string ⟨#[49, 50]⟩),
  (115, #[nI 8800, nI 5], [], .string ⟨#[48, 56, 56, 48, 48]⟩),
  (115, #[nI 1, nI 2], [], .string ⟨#[48, 49]⟩)]
def tblN : TblS := [(113, #[.string ⟨#[48, 56, 57, 48, 48]⟩, nI 5], [], .tuple #[nI 8900, .bool true]),
  (113, #[.string ⟨#[48, 56, 57, 50, 48]⟩, nI 5], [], .tuple #[nI 8920, .bool true]),
  (113, #[.string ⟨#[49, 48, 48, 53]⟩, nI 4], [], .tuple #[nI 1005, .bool true]),
  (113, #[.string ⟨#[49, 56, 48]⟩, nI 3], [], .tuple #[nI 180, .bool true]),
  (113, #[.string ⟨#[52]⟩, nI 1], [], .tuple #[nI 4, .bool true]),
  (113, #[.string ⟨#[49, 50]⟩, nI 2], [], .tuple #[nI 12, .bool true]),
  (113, #[.string ⟨#[48, 56, 56, 48, 48]⟩, nI 5], [], .tuple #[nI 8800, .bool true]),
  (113, #[.string ⟨#[48, 49]⟩, nI 2], [], .tuple #[nI 1, .bool true]),
  (113, #[.string ⟨#[48, 50]⟩, nI 2], [], .tuple #[nI 2, .bool true]),
  (113, #[.string ⟨#[50, 48, 50, 52]⟩, nI 4], [], .tuple #[nI 2024, .bool true]),
  (113, #[.string ⟨#[48, 48, 48, 53]⟩, nI 4], [], .tuple #[nI 5, .bool true]),
  (113, #[.string ⟨#[50, 52, 48, 48]⟩, nI 4], [], .tuple #[nI 2400, .bool true])]
def tblB : TblS := [(144, #[.agg rX], [], nI 0),
  (144, #[.agg rL], [], nI 0),
  (144, #[.agg rO], [], nI 0)]
def tblC : TblS := [(62, #[.agg (#[.string ⟨#[78]⟩] ++ rX)], [], nI 0),
  (62, #[.agg (#[.string ⟨#[67]⟩] ++ rX)], [], nI 0),
  (62, #[.agg (#[.string ⟨#[82]⟩] ++ rL)], [], nI 0),
  (62, #[.agg (#[.string ⟨#[68]⟩] ++ rX)], [], nI 0),
  (62, #[.agg (#[.string ⟨#[79]⟩] ++ rL)], [], nI 0)]
def tblM : TblS := [(55, #[nI 605], [], .tuple #[.string ⟨#[49, 48, 48, 53]⟩, nI 0]),
  (54, #[.string ⟨#[48, 48, 48, 53]⟩], [], .tuple #[nI 5, nI 0]),
  (54, #[.string ⟨#[50, 52, 48, 48]⟩], [], .tuple #[nI 0, nI 25]),
  (54, #[.string ⟨#[49, 48, 48, 53]⟩], [], .tuple #[nI 605, nI 0]),
  (133, #[nI 5], [], .tuple #[.string ⟨#[49, 48, 51, 48, 48, 48, 48]⟩, nI 0]),
  (134, #[.string ⟨#[49, 48, 51, 48, 48, 48, 48]⟩], [], .tuple #[nI 5, nI 0])]
def tblP : TblS := [(73, #[.agg (#[.string ⟨#[78]⟩] ++ rX)], [], txt)]
def tblR : TblS := [(16, #[txt], [], .tuple #[.agg (#[.string ⟨#[78]⟩] ++ rX), nI 0, nI 0])]
def tblH : TblS := [(162, #[.string ⟨#[83, 76, 79, 84, 83, 32, 82, 69, 81, 32, 104, 101, 114, 101, 32, 83, 50, 48, 50, 52, 32, 48, 56, 56, 48, 48]⟩], [], .tuple #[.agg #[.string ⟨#[82, 69, 81]⟩, .string ⟨#[104, 101, 114, 101]⟩, .string ⟨#[83, 50, 48, 50, 52]⟩, nI 8800, .slice none 0 0], nI 0]),
  (163, #[txt], [], .bool false),
  (163, #[.string ⟨#[69, 78, 68, 32, 48, 49]⟩], [], .bool true),
  (163, #[.string ⟨#[69, 78, 68, 32, 48, 50]⟩], [], .bool true),
  (164, #[.string ⟨#[69, 78, 68, 32, 48, 49]⟩, nI 1], [], nI 0),
  (164, #[.string ⟨#[69, 78, 68, 32, 48, 50]⟩, nI 1], [], nI 27)]
def sl (k n c : Nat) : Value := .slice (some ⟨gN2 + k, 0, none⟩) n c
def rOne : TypeId × Array Value := (28, #[.string ⟨#[78]⟩] ++ rX)
def rTwo : TypeId × Array Value := (28, #[.string ⟨#[67]⟩] ++ rX ++ #[.string ⟨#[82]⟩] ++ rL)
def rThree : TypeId × Array Value := (28, #[.string ⟨#[68]⟩] ++ rX)
def msg (l : Value) : Value := .agg #[.string ⟨#[82, 69, 81]⟩, .string ⟨#[104, 101, 114, 101]⟩, .string ⟨#[83, 50, 48, 50, 52]⟩, nI 8800, l]
def tblQ : TblS := [(19, #[msg (sl 0 1 1)], [rOne], .tuple #[.string ⟨#[83, 76, 79, 84, 83, 32, 82, 69, 81, 32, 104, 101, 114, 101, 32, 83, 50, 48, 50, 52, 32, 48, 56, 56, 48, 48, 10, 78, 32, 97, 98, 32, 113, 49, 32, 65, 32, 102, 97, 114, 32, 48, 56, 57, 48, 48, 32, 48, 56, 57, 50, 48, 32, 49, 48, 51, 48, 48, 48, 48, 32, 49, 48, 48, 53, 32, 49, 56, 48, 32, 52, 32, 49, 50, 32, 116, 49, 32, 45, 10, 69, 78, 68, 32, 48, 49, 10]⟩, nI 0]),
  (90, #[msg (sl 0 1 1), msg (sl 0 1 1), msg (sl 0 1 1)], [rOne], nI 0),
  (90, #[msg (sl 0 1 1), msg (sl 0 1 1), msg (sl 1 2 2)], [rOne, rTwo], nI 0)]
def tblQ3 : TblS := [(90, #[msg (sl 0 1 1), msg (sl 1 2 2), msg (sl 2 1 1)], [rOne, rTwo, rThree], nI 0),
  (24, #[.string ⟨#[83, 76, 79, 84, 83, 32, 82, 69, 81, 32, 104, 101, 114, 101, 32, 83, 50, 48, 50, 52, 32, 48, 56, 56, 48, 48, 10, 78, 32, 97, 98, 32, 113, 49, 32, 65, 32, 102, 97, 114, 32, 48, 56, 57, 48, 48, 32, 48, 56, 57, 50, 48, 32, 49, 48, 51, 48, 48, 48, 48, 32, 49, 48, 48, 53, 32, 49, 56, 48, 32, 52, 32, 49, 50, 32, 116, 49, 32, 45, 10, 69, 78, 68, 32, 48, 50, 10]⟩], [], .tuple #[.agg #[.string ⟨#[]⟩, .string ⟨#[]⟩, .string ⟨#[]⟩, nI 0, .slice none 0 0], nI 2, nI 27]),
  (24, #[.string ⟨#[83, 76, 79, 84, 83, 32, 82, 69, 81, 32, 104, 101, 114, 101, 32, 83, 50, 48, 50, 52, 32, 48, 56, 56, 48, 48, 10, 78, 32, 97, 98, 32, 113, 49, 32, 65, 32, 102, 97, 114, 32, 48, 56, 57, 48, 48, 32, 48, 56, 57, 50, 48, 32, 49, 48, 51, 48, 48, 48, 48, 32, 49, 48, 48, 53, 32, 49, 56, 48, 32, 52, 32, 49, 50, 32, 116, 49, 32, 45, 10]⟩], [], .tuple #[.agg #[.string ⟨#[]⟩, .string ⟨#[]⟩, .string ⟨#[]⟩, nI 0, .slice none 0 0], nI 2, nI 28])]
def rX1 : TypeId × Array Value := (26, rX)
def rLO : TypeId × Array Value := (26, rL ++ rO)
def rRes : TypeId × Array Value := (120, #[.string ⟨#[113, 49]⟩, .bool true, nI 615])
def tblT : TblS := [(83, #[.agg #[.string ⟨#[65, 78, 83]⟩, .string ⟨#[104, 101, 114, 101]⟩, .string ⟨#[83, 50, 48, 50, 52]⟩, nI 8801, .slice none 0 0]], [], nI 0),
  (83, #[.agg #[.string ⟨#[82, 69, 81]⟩, .string ⟨#[104, 101, 114, 101]⟩, .string ⟨#[83, 50, 48, 50, 52]⟩, nI 8800, .slice none 0 0]], [], nI 0),
  (94, #[sl 0 1 1], [rX1], nI 0),
  (94, #[sl 0 2 2], [rLO], nI 0),
  (112, #[sl 0 1 1], [rRes], nI 0),
  (102, #[sl 0 1 1, sl 1 1 1], [rX1, rRes], nI 0)]
def takeS : List Value → Option (List ByteArray)
  | [] => some []
  | .string s :: l => (takeS l).map (s :: ·)
  | _ => none
def orcStr : Orc := fun h f args => bif Nat.beq f 75 then (match args with
    | ⟨[.slice (some ⟨k, o, none⟩) n c, .string sep]⟩ => (match h.get k with
      | some (.cells cs _ _) => (match takeS ((cs.toList.drop o).take n) with
        | some xs => bif Nat.blt 0 n && (Nat.beq xs.length n && (Nat.ble n c && (Nat.ble n 140737488355328 && Nat.ble (Lib.join (xs.map (·.data.toList)) sep.data.toList).length 140737488355328))) then some (.string ⟨(Lib.join (xs.map (·.data.toList)) sep.data.toList).toArray⟩, h) else none
        | none => none)
      | _ => none)
    | _ => none)
  else bif Nat.beq f 205 then (match args with
    | ⟨[.string s, .int .u8 c]⟩ => some (.int .i64 (Lib.indexByte s.data.toList c.toNat.toUInt8), h)
    | _ => none)
  else bif Nat.beq f 214 then (match args with
    | ⟨[.string s, .string ⟨⟨[c]⟩⟩]⟩ => some (.int .i64 (Lib.indexByte s.data.toList c), h)
    | _ => none)
  else bif Nat.beq f 118 then (match args with
    | ⟨[.string s, .string ⟨⟨[c]⟩⟩]⟩ => some (.int .i64 (Lib.countByte s.data.toList c), h)
    | _ => none)
  else none
def orcA : Orc := memoS gN2 lst2 (tblA ++ tblD ++ tblN) orcStr
def orcB : Orc := memoS gN2 lst2 (tblB ++ tblA) noOrc
def orcP : Orc := memoS gN2 lst2 (tblC ++ tblM ++ tblA ++ tblD ++ tblN) orcStr
def tblL : TblS := tblP ++ tblR ++ tblH ++ tblC ++ tblM ++ tblB ++ tblA ++ tblD ++ tblN
def orcL : Orc := memoS gN2 lst2 tblL orcStr
def tblG : TblS := tblT ++ tblQ ++ tblQ3 ++ tblP ++ tblR ++ tblH ++ tblC ++ tblM ++ tblB
def orcG : Orc := memoS gN2 lst2 (tblG ++ tblA) orcStr
theorem good_lst2 : goodL gN2 lst2 = true := by kernel_rfl
end Go.Proofs.YtlcmcknbbmokjaaGreat
