/- The first test of chapter 2 by the evaluator: tables. -/
import Derived.Test.YtfplkoifadbpbaaGreatLn8
import Derived.Test.YtfplkoifadbpbaaGreatProg
import Derived.Lib.Join
import Derived.Lib.Bytealg
namespace Go.Proofs.YtfplkoifadbpbaaGreat
open Go Go.RowKit Ev
def nI (a : Int) : Value := .int .i64 a
def rX : Array Value := #[.string ⟨#[113, 49]⟩, .string ⟨#[97, 98]⟩, .string ⟨#[65]⟩, .string ⟨#[116, 49]⟩, .string ⟨#[102, 97, 114]⟩, .string ⟨#[]⟩, nI 8900, nI 8920, nI 5, nI 605, nI 180, nI 4, nI 12]
def rL : Array Value := #[.string ⟨#[113, 49]⟩, .string ⟨#[97, 98]⟩, .string ⟨#[65]⟩, .string ⟨#[116, 49]⟩, .string ⟨#[102, 97, 114]⟩, .string ⟨#[]⟩, nI 8900, nI 8920, nI 5, nI 615, nI 180, nI 4, nI 12]
def rO : Array Value := #[.string ⟨#[113, 50]⟩, .string ⟨#[97, 98]⟩, .string ⟨#[65]⟩, .string ⟨#[116, 49]⟩, .string ⟨#[102, 97, 114]⟩, .string ⟨#[]⟩, nI 8900, nI 8920, nI 5, nI 605, nI 180, nI 4, nI 12]
def txt : Value := .string ⟨#[78, 32, 97, 98, 32, 113, 49, 32, 65, 32, 102, 97, 114, 32, 48, 56, 57, 48, 48, 32, 48, 56, 57, 50, 48, 32, 49, 48, 51, 48, 48, 48, 48, 32, 49, 48, 48, 53, 32, 49, 56, 48, 32, 52, 32, 49, 50, 32, 116, 49, 32, 45]⟩
def lst2 : Lst := []
def gN2 : Nat := 16
def noOrc : Orc := fun _ _ _ => none
def tblA : TblS := [(134, #[.string ⟨#[113, 49]⟩], [], nI 0),
  (134, #[.string ⟨#[97, 98]⟩], [], nI 0),
  (134, #[.string ⟨#[102, 97, 114]⟩], [], nI 0),
  (134, #[.string ⟨#[113, 50]⟩], [], nI 0),
  (134, #[.string ⟨#[104, 101, 114, 101]⟩], [], nI 0),
  (135, #[.string ⟨#[116, 49]⟩], [], nI 0),
  (135, #[.string ⟨#[]⟩], [], nI 0),
  (189, #[.string ⟨#[113, 49]⟩], [], .bool true),
  (189, #[.string ⟨#[97, 98]⟩], [], .bool true),
  (189, #[.string ⟨#[102, 97, 114]⟩], [], .bool true),
  (189, #[.string ⟨#[116, 49]⟩], [], .bool true),
  (189, #[.string ⟨#[113, 50]⟩], [], .bool true),
  (189, #[.string ⟨#[104, 101, 114, 101]⟩], [], .bool true),
  (136, #[.string ⟨#[65]⟩], [], nI 0),
  (120, #[nI 605], [], nI 0),
  (120, #[nI 615], [], nI 0),
  (137, #[.agg #[nI 8900, nI 8920, nI 5]], [], nI 0),
  (72, #[.string ⟨#[78]⟩], [], .bool true),
  (72, #[.string ⟨#[67]⟩], [], .bool true),
  (72, #[.string ⟨#[82]⟩], [], .bool true),
  (72, #[.string ⟨#[68]⟩], [], .bool true),
  (72, #[.string ⟨#[79]⟩], [], .bool true)]
def tblD : TblS := [(121, #[nI 8900, nI 5], [], .string ⟨#[48, 56, 57, 48, 48]⟩),
  (121, #[nI 8920, nI 5], [], .string ⟨#[48, 56, 57, 50, 48]⟩),
  (121, #[nI 10, nI 2], [], .string ⟨#[49, 48]⟩),
  (121, #[nI 5, nI 2], [], .string ⟨#[48, 53]⟩),
  (121, #[nI 180, nI 3], [], .string ⟨#[49, 56, 48]⟩),
  (121, #[nI 4, nI 1], [], .string ⟨#[52]⟩),
  (121, #[nI 12, nI 2], [], .string ⟨#[49, 50]⟩),
  (121, #[nI 8800, nI 5], [], .string ⟨#[48, 56, 56, 48, 48]⟩),
  (121, #[nI 1, nI 2], [], .string ⟨#[48, 49]⟩)]
def tblN : TblS := [(119, #[.string ⟨#[48, 56, 57, 48, 48]⟩, nI 5], [], .tuple #[nI 8900, .bool true]),
  (119, #[.string ⟨#[48, 56, 57, 50, 48]⟩, nI 5], [], .tuple #[nI 8920, .bool true]),
  (119, #[.string ⟨#[49, 48, 48, 53]⟩, nI 4], [], .tuple #[nI 1005, .bool true]),
  (119, #[.string ⟨#[49, 56, 48]⟩, nI 3], [], .tuple #[nI 180, .bool true]),
  (119, #[.string ⟨#[52]⟩, nI 1], [], .tuple #[nI 4, .bool true]),
  (119, #[.string ⟨#[49, 50]⟩, nI 2], [], .tuple #[nI 12, .bool true]),
  (119, #[.string ⟨#[48, 56, 56, 48, 48]⟩, nI 5], [], .tuple #[nI 8800, .bool true]),
  (119, #[.string ⟨#[48, 49]⟩, nI 2], [], .tuple #[nI 1, .bool true]),
  (119, #[.string ⟨#[48, 50]⟩, nI 2], [], .tuple #[nI 2, .bool true]),
  (119, #[.string ⟨#[50, 48, 50, 52]⟩, nI 4], [], .tuple #[nI 2024, .bool true]),
  (119, #[.string ⟨#[48, 48, 48, 53]⟩, nI 4], [], .tuple #[nI 5, .bool true]),
  (119, #[.string ⟨#[50, 52, 48, 48]⟩, nI 4], [], .tuple #[nI 2400, .bool true])]
def tblB : TblS := [(73, #[.agg rX], [], nI 0),
  (73, #[.agg rL], [], nI 0),
  (73, #[.agg rO], [], nI 0)]
def tblC : TblS := [(21, #[.agg (#[.string ⟨#[78]⟩] ++ rX)], [], nI 0),
  (21, #[.agg (#[.string ⟨#[67]⟩] ++ rX)], [], nI 0),
  (21, #[.agg (#[.string ⟨#[82]⟩] ++ rL)], [], nI 0),
  (21, #[.agg (#[.string ⟨#[68]⟩] ++ rX)], [], nI 0),
  (21, #[.agg (#[.string ⟨#[79]⟩] ++ rL)], [], nI 0)]
def tblM : TblS := [(60, #[nI 605], [], .tuple #[.string ⟨#[49, 48, 48, 53]⟩, nI 0]),
  (59, #[.string ⟨#[48, 48, 48, 53]⟩], [], .tuple #[nI 5, nI 0]),
  (59, #[.string ⟨#[50, 52, 48, 48]⟩], [], .tuple #[nI 0, nI 25]),
  (59, #[.string ⟨#[49, 48, 48, 53]⟩], [], .tuple #[nI 605, nI 0]),
  (153, #[nI 5], [], .tuple #[.string ⟨#[49, 48, 51, 48, 48, 48, 48]⟩, nI 0]),
  (154, #[.string ⟨#[49, 48, 51, 48, 48, 48, 48]⟩], [], .tuple #[nI 5, nI 0])]
def tblP : TblS := [(64, #[.agg (#[.string ⟨#[78]⟩] ++ rX)], [], txt)]
def tblR : TblS := [(22, #[txt], [], .tuple #[.agg (#[.string ⟨#[78]⟩] ++ rX), nI 0, nI 0])]
def tblH : TblS := [(173, #[.string ⟨#[83, 76, 79, 84, 83, 32, 82, 69, 81, 32, 104, 101, 114, 101, 32, 83, 50, 48, 50, 52, 32, 48, 56, 56, 48, 48]⟩], [], .tuple #[.agg #[.string ⟨#[82, 69, 81]⟩, .string ⟨#[104, 101, 114, 101]⟩, .string ⟨#[83, 50, 48, 50, 52]⟩, nI 8800, .slice none 0 0], nI 0]),
  (174, #[txt], [], .bool false),
  (174, #[.string ⟨#[69, 78, 68, 32, 48, 49]⟩], [], .bool true),
  (174, #[.string ⟨#[69, 78, 68, 32, 48, 50]⟩], [], .bool true),
  (175, #[.string ⟨#[69, 78, 68, 32, 48, 49]⟩, nI 1], [], nI 0),
  (175, #[.string ⟨#[69, 78, 68, 32, 48, 50]⟩, nI 1], [], nI 27)]
def sl (k n c : Nat) : Value := .slice (some ⟨gN2 + k, 0, none⟩) n c
def rOne : TypeId × Array Value := (33, #[.string ⟨#[78]⟩] ++ rX)
def rTwo : TypeId × Array Value := (33, #[.string ⟨#[67]⟩] ++ rX ++ #[.string ⟨#[82]⟩] ++ rL)
def rThree : TypeId × Array Value := (33, #[.string ⟨#[68]⟩] ++ rX)
def msg (l : Value) : Value := .agg #[.string ⟨#[82, 69, 81]⟩, .string ⟨#[104, 101, 114, 101]⟩, .string ⟨#[83, 50, 48, 50, 52]⟩, nI 8800, l]
def tblQ : TblS := [(25, #[msg (sl 0 1 1)], [rOne], .tuple #[.string ⟨#[83, 76, 79, 84, 83, 32, 82, 69, 81, 32, 104, 101, 114, 101, 32, 83, 50, 48, 50, 52, 32, 48, 56, 56, 48, 48, 10, 78, 32, 97, 98, 32, 113, 49, 32, 65, 32, 102, 97, 114, 32, 48, 56, 57, 48, 48, 32, 48, 56, 57, 50, 48, 32, 49, 48, 51, 48, 48, 48, 48, 32, 49, 48, 48, 53, 32, 49, 56, 48, 32, 52, 32, 49, 50, 32, 116, 49, 32, 45, 10, 69, 78, 68, 32, 48, 49, 10]⟩, nI 0]),
  (98, #[msg (sl 0 1 1), msg (sl 0 1 1), msg (sl 0 1 1)], [rOne], nI 0),
  (98, #[msg (sl 0 1 1), msg (sl 0 1 1), msg (sl 1 2 2)], [rOne, rTwo], nI 0)]
def tblQ3 : TblS := [(98, #[msg (sl 0 1 1), msg (sl 1 2 2), msg (sl 2 1 1)], [rOne, rTwo, rThree], nI 0),
  (30, #[.string ⟨#[83, 76, 79, 84, 83, 32, 82, 69, 81, 32, 104, 101, 114, 101, 32, 83, 50, 48, 50, 52, 32, 48, 56, 56, 48, 48, 10, 78, 32, 97, 98, 32, 113, 49, 32, 65, 32, 102, 97, 114, 32, 48, 56, 57, 48, 48, 32, 48, 56, 57, 50, 48, 32, 49, 48, 51, 48, 48, 48, 48, 32, 49, 48, 48, 53, 32, 49, 56, 48, 32, 52, 32, 49, 50, 32, 116, 49, 32, 45, 10, 69, 78, 68, 32, 48, 50, 10]⟩], [], .tuple #[.agg #[.string ⟨#[]⟩, .string ⟨#[]⟩, .string ⟨#[]⟩, nI 0, .slice none 0 0], nI 2, nI 27]),
  (30, #[.string ⟨#[83, 76, 79, 84, 83, 32, 82, 69, 81, 32, 104, 101, 114, 101, 32, 83, 50, 48, 50, 52, 32, 48, 56, 56, 48, 48, 10, 78, 32, 97, 98, 32, 113, 49, 32, 65, 32, 102, 97, 114, 32, 48, 56, 57, 48, 48, 32, 48, 56, 57, 50, 48, 32, 49, 48, 51, 48, 48, 48, 48, 32, 49, 48, 48, 53, 32, 49, 56, 48, 32, 52, 32, 49, 50, 32, 116, 49, 32, 45, 10]⟩], [], .tuple #[.agg #[.string ⟨#[]⟩, .string ⟨#[]⟩, .string ⟨#[]⟩, nI 0, .slice none 0 0], nI 2, nI 28])]
def rX1 : TypeId × Array Value := (25, rX)
def rLO : TypeId × Array Value := (25, rL ++ rO)
def rRes : TypeId × Array Value := (125, #[.string ⟨#[113, 49]⟩, .bool true, nI 615])
def tblT : TblS := [(92, #[.agg #[.string ⟨#[65, 78, 83]⟩, .string ⟨#[104, 101, 114, 101]⟩, .string ⟨#[83, 50, 48, 50, 52]⟩, nI 8801, .slice none 0 0]], [], nI 0),
  (92, #[.agg #[.string ⟨#[82, 69, 81]⟩, .string ⟨#[104, 101, 114, 101]⟩, .string ⟨#[83, 50, 48, 50, 52]⟩, nI 8800, .slice none 0 0]], [], nI 0),
  (101, #[sl 0 1 1], [rX1], nI 0),
  (101, #[sl 0 2 2], [rLO], nI 0),
  (118, #[sl 0 1 1], [rRes], nI 0),
  (108, #[sl 0 1 1, sl 1 1 1], [rX1, rRes], nI 0)]
def takeS : List Value → Option (List ByteArray)
  | [] => some []
  | .string s :: l => (takeS l).map (s :: ·)
  | _ => none
def orcStr : Orc := fun h f args => bif Nat.beq f 87 then (match args with
    | ⟨[.slice (some ⟨k, o, none⟩) n c, .string sep]⟩ => (match h.get k with
      | some (.cells cs _ _) => (match takeS ((cs.toList.drop o).take n) with
        | some xs => bif Nat.blt 0 n && (Nat.beq xs.length n && (Nat.ble n c && (Nat.ble n 140737488355328 && Nat.ble (Lib.join (xs.map (·.data.toList)) sep.data.toList).length 140737488355328))) then some (.string ⟨(Lib.join (xs.map (·.data.toList)) sep.data.toList).toArray⟩, h) else none
        | none => none)
      | _ => none)
    | _ => none)
  else bif Nat.beq f 206 then (match args with
    | ⟨[.string s, .int .u8 c]⟩ => some (.int .i64 (Lib.indexByte s.data.toList c.toNat.toUInt8), h)
    | _ => none)
  else bif Nat.beq f 217 then (match args with
    | ⟨[.string s, .string ⟨⟨[c]⟩⟩]⟩ => some (.int .i64 (Lib.indexByte s.data.toList c), h)
    | _ => none)
  else bif Nat.beq f 139 then (match args with
    | ⟨[.string s, .string ⟨⟨[c]⟩⟩]⟩ => some (.int .i64 (Lib.countByte s.data.toList c), h)
    | _ => none)
  else none
def orcA : Orc := memoS gN2 lst2 (tblA ++ tblD ++ tblN) orcStr
def orcB : Orc := memoS gN2 lst2 (tblB ++ tblA) noOrc
def orcP : Orc := memoS gN2 lst2 (tblC ++ tblM ++ tblA ++ tblD ++ tblN) orcStr
def tblL : TblS := tblP ++ tblR ++ tblH ++ tblC ++ tblM ++ tblB ++ tblA ++ tblD ++ tblN
def orcL : Orc := memoS gN2 lst2 tblL orcStr
def tblG : TblS := tblT ++ tblQ ++ tblQ3 ++ tblP ++ tblR ++ tblH ++ tblC ++ tblM ++ tblB
def orcG : Orc := memoS gN2 lst2 (tblG ++ tblA) orcStr
theorem good_lst2 : goodL gN2 lst2 = true := by kernel_rfl
end Go.Proofs.YtfplkoifadbpbaaGreat
