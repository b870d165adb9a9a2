/- The first test of chapter 2 by the evaluator: messages. · The first test of chapter 2 by the evaluator: messages. · The first test of chapter 2 by the evaluator: lists. · DERIVED: THE SHELF's CONTRACTS AT THIS DUMP, IN PLAIN WORDS (tools/lay-plain.mjs out of 'TryzShelfY.lean', which tools/lay-shelf.mjs wrote): THE SAME DECLARATIONS UNDER THE SAME NAMES: 'import', 'name · The statements' first test: the program returns the results of the examples of chapter 2. · Contracts: ParseMinute, of package message and of the reference; the walk of MessageMinutes. · Contracts of package message and of the reference: a number of a width is read. · A region that draws its order: its first n operations leave the world in a class C (each yields one value in every world of the class), the others come one after another behind them. One walk in the o · A region that draws its order and whose operations read, or call what makes memory of its own: one walk in the order of the text, in the class of the worlds that keep what the world at its beginning h · Words of a text: a text is cut at its first blank, and again, as often as it has blanks. · What check.Once gives: a function that remembers the strings that it was called with. · The iterator over the words of a text: its contract for every loop body. · Contracts: names (package check, package calendar and the reference). · Contracts of package check: names, optional names, kinds. · Contracts of package calendar: has. -/
import Derived.Test.YtphoclgibnhjfaaGreatPm6
import Derived.Shelf.Strings.Builder1
import Derived.Shelf.Strings.OnBuilder
import Derived.Shelf.Small.Strs
import Derived.Shelf.Small.Wraps
import Derived.Shelf.Strings.Search1
import Derived.Shelf.Strings.Search2
import Derived.Shelf.Strings.Search3
import Derived.Shelf.Strings.Cut
import Derived.Shelf.Strings.Count
import Derived.Shelf.LaysM
import Derived.Shelf.Strings.Prefix
import Derived.Test.YtphoclgibnhjfaaGreatProg
import Derived.Test.YtphoclgibnhjfaaGreatPm7
import Derived.StillTail
import Derived.Deep.Quiet
import Derived.BigQuiet
import Derived.Test.YtphoclgibnhjfaaGreatPm1
import Derived.WalkKit
import Derived.Lib.IndexLaws
import Derived.Maps.Own
import Derived.Maps.Views
import Derived.Maps.OwnSet
import Derived.StringKeys
import Derived.OpenShut
import Derived.OwnWalk
import Derived.RangeFuncNested
import Derived.RangeFuncBound
import Derived.RangeFuncCalls
import Derived.RangeFuncLeaves
import Derived.Shelf.Abstract
import Derived.Shelf.RegionOpen
import Derived.OwnWalkIn
import Derived.TacticsInMore
import Derived.LoopNIn
import Derived.LoopIn
import Derived.Lib.RabinKarpLaws
namespace Go.Proofs.YtphoclgibnhjfaaGreat
open Go Go.RowKit Ev
theorem run_Q : (tblQ.all fun x => runsS Tryz.prog gN2 orcL 300 lst2 x) = true := by kernel_rfl
end Go.Proofs.YtphoclgibnhjfaaGreat
namespace Go.Proofs.YtphoclgibnhjfaaGreat
open Go Go.RowKit Ev
theorem run_Q3 : (tblQ3.all fun x => runsS Tryz.prog gN2 orcL 300 lst2 x) = true := by kernel_rfl
end Go.Proofs.YtphoclgibnhjfaaGreat
namespace Go.Proofs.YtphoclgibnhjfaaGreat
open Go Go.RowKit Ev
theorem run_T : (tblT.all fun x => runsS Tryz.prog gN2 orcL 300 lst2 x) = true := by kernel_rfl
end Go.Proofs.YtphoclgibnhjfaaGreat
namespace Go.Proofs
open Go.Shelf
def Tryz.lays156_ren : Go.Shelf.Ren := ⟨fun | 156 => 90 | 165 => 135 | 166 => 136 | 169 => 137 | 240 => 183 | 241 => 184 | 276 => 209 | 277 => 210 | n => n, fun | 31 => 115 | 9 => 9 | 3 => 3 | 4 => 4 | 0 => 0 | 20 => 20 | 72 => 211 | 76 => 215 | 70 => 208 | 37 => 209 | 75 => 214 | 127 => 239 | 164 => 247 | 5 => 5 | 80 => 217 | n => n, fun | n => n⟩
theorem Tryz.lays156 : Go.Proofs.Lays.n156 Tryz.prog Tryz.lays156_ren := {
  mixed := by kernel_rfl
  f156 := Tryz.func90.trans (congrArg some (by kernel_rfl))
  f165 := Tryz.func135.trans (congrArg some (by kernel_rfl))
  f166 := Tryz.func136.trans (congrArg some (by kernel_rfl))
  f169 := Tryz.func137.trans (congrArg some (by kernel_rfl))
  f240 := Tryz.func183.trans (congrArg some (by kernel_rfl))
  f241 := Tryz.func184.trans (congrArg some (by kernel_rfl))
  f276 := Tryz.func209.trans (congrArg some (by kernel_rfl))
  f277 := Tryz.func210.trans (congrArg some (by kernel_rfl))
  t0 := Tryz.underlying0
  a0 := Tryz.isAgg0
  z0 := Tryz.sizeOf0
  v0 := Tryz.zeroValue0
  t3 := Tryz.underlying3
  a3 := Tryz.isAgg3
  z3 := Tryz.sizeOf3
  v3 := Tryz.zeroValue3
  t4 := Tryz.underlying4
  a4 := Tryz.isAgg4
  z4 := Tryz.sizeOf4
  v4 := Tryz.zeroValue4
  t9 := Tryz.underlying9
  a9 := Tryz.isAgg9
  z9 := Tryz.sizeOf9
  v9 := Tryz.zeroValue9
  t20 := Tryz.underlying20
  a20 := Tryz.isAgg20
  z20 := Tryz.sizeOf20
  v20 := Tryz.zeroValue20
  t31 := Tryz.underlying115
  a31 := Tryz.isAgg115
  z31 := Tryz.sizeOf115
  v31 := Tryz.zeroValue115
  t37 := Tryz.underlying209
  a37 := Tryz.isAgg209
  z37 := Tryz.sizeOf209
  v37 := Tryz.zeroValue209
  t70 := Tryz.underlying208
  a70 := Tryz.isAgg208
  z70 := Tryz.sizeOf208
  v70 := Tryz.zeroValue208
  t72 := Tryz.underlying211
  a72 := Tryz.isAgg211
  z72 := Tryz.sizeOf211
  v72 := Tryz.zeroValue211
  t75 := Tryz.underlying214
  a75 := Tryz.isAgg214
  z75 := Tryz.sizeOf214
  v75 := Tryz.zeroValue214
  t76 := Tryz.underlying215
  a76 := Tryz.isAgg215
  z76 := Tryz.sizeOf215
  v76 := Tryz.zeroValue215
  t127 := Tryz.underlying239
  a127 := Tryz.isAgg239
  z127 := Tryz.sizeOf239
  v127 := Tryz.zeroValue239
  t164 := Tryz.underlying247
  a164 := Tryz.isAgg247
  z164 := Tryz.sizeOf247
  v164 := Tryz.zeroValue247 }
theorem Tryz.Builder_Extra_156 : Builder.Extra Tryz.prog Tryz.lays156_ren := {
  sizeBuilder := by kernel_rfl
  liesBuilder := by kernel_rfl
  t5 := Tryz.underlying5
  a5 := Tryz.isAgg5
  z5 := Tryz.sizeOf5
  v5 := Tryz.zeroValue5
  infoByte := by kernel_rfl
  cellsByte := by kernel_rfl
  sizeByte := by kernel_rfl
  neB5 := by decide }
open Go.RowKit in
/-- No element: the empty string; the world is as it was. (Whatever the slice's address and capacity: a nil slice too.) (LAID: no walk: one application.) -/
theorem Tryz.strings_Join_none (a : Option Addr) (c : Nat) (sep : ByteArray) (w : World) :
    Calls Tryz.prog 90 #[.slice a 0 c, .string sep] w fun e w' => e = .returned (.string ⟨#[]⟩) ∧ w' = w := Any.strings_Join_none Tryz.lays156 Tryz.Builder_Extra_156 a c sep w
open Go.RowKit in
/-- strings.Join: "Join concatenates the elements of its first argument to create a single string. The separator string sep is placed between elements in the resulting string.": HOWEVER MANY ELEMENTS. Below the heap's end the world is as it was. (LAID: no walk: one application.) -/
theorem Tryz.strings_Join (bk o c : Nat) (xs : List ByteArray) (sep : ByteArray) (w : World) (hcells : ∀ (j : Nat) x, xs[j]? = some x → w.cell? ⟨bk, o + j, none⟩ = some (.string x)) (hbk : bk < w.heap.size) (hN : xs.length ≤ 140737488355328) (hcap : xs.length ≤ c) (hlen : (Lib.join (xs.map (·.data.toList)) sep.data.toList).length ≤ 140737488355328) :
    Calls Tryz.prog 90 #[.slice (some ⟨bk, o, none⟩) xs.length c, .string sep] w fun e w' => e = .returned (.string ⟨(Lib.join (xs.map (·.data.toList)) sep.data.toList).toArray⟩) ∧ Below w.heap.size w w' := Any.strings_Join Tryz.lays156 Tryz.Builder_Extra_156 bk o c xs sep w hcells hbk hN hcap hlen
def Tryz.lays137_ren : Go.Shelf.Ren := ⟨fun | 137 => 169 | 217 => 200 | 266 => 212 | n => n, fun | 9 => 9 | 5 => 5 | 3 => 3 | n => n, fun | n => n⟩
theorem Tryz.lays137 : Go.Proofs.Lays.n137 Tryz.prog Tryz.lays137_ren := {
  mixed := by kernel_rfl
  f137 := Tryz.func169.trans (congrArg some (by kernel_rfl))
  f217 := Tryz.func200.trans (congrArg some (by kernel_rfl))
  f266 := Tryz.func212.trans (congrArg some (by kernel_rfl))
  t3 := Tryz.underlying3
  a3 := Tryz.isAgg3
  z3 := Tryz.sizeOf3
  v3 := Tryz.zeroValue3
  t5 := Tryz.underlying5
  a5 := Tryz.isAgg5
  z5 := Tryz.sizeOf5
  v5 := Tryz.zeroValue5
  t9 := Tryz.underlying9
  a9 := Tryz.isAgg9
  z9 := Tryz.sizeOf9
  v9 := Tryz.zeroValue9 }
open Go.RowKit in
/-- strings.IndexByte: "IndexByte returns the index of the first instance of c in s, or -1 if c is not present in s.": IT RETURNS 'Lib.indexByte s c'; the world is as it was. (LAID: no walk: one application.) -/
theorem Tryz.strings_IndexByte (s : ByteArray) (c : Int) (w : World) :
    Calls Tryz.prog 169 #[.string s, .int .u8 c] w fun e w' => e = .returned (.int .i64 (Lib.indexByte s.data.toList c.toNat.toUInt8)) ∧ w' = w := Any.strings_IndexByte Tryz.lays137 s c w
def Tryz.lays103_ren : Go.Shelf.Ren := ⟨fun | 103 => 171 | 210 => 202 | 206 => 213 | n => n, fun | 9 => 9 | 4 => 4 | 24 => 119 | 3 => 3 | n => n, fun | n => n⟩
theorem Tryz.lays103 : Go.Proofs.Lays.n103 Tryz.prog Tryz.lays103_ren := {
  mixed := by kernel_rfl
  f103 := Tryz.func171.trans (congrArg some (by kernel_rfl))
  f206 := Tryz.func213.trans (congrArg some (by kernel_rfl))
  f210 := Tryz.func202.trans (congrArg some (by kernel_rfl))
  t3 := Tryz.underlying3
  a3 := Tryz.isAgg3
  z3 := Tryz.sizeOf3
  v3 := Tryz.zeroValue3
  t4 := Tryz.underlying4
  a4 := Tryz.isAgg4
  z4 := Tryz.sizeOf4
  v4 := Tryz.zeroValue4
  t9 := Tryz.underlying9
  a9 := Tryz.isAgg9
  z9 := Tryz.sizeOf9
  v9 := Tryz.zeroValue9
  t24 := Tryz.underlying119
  a24 := Tryz.isAgg119
  z24 := Tryz.sizeOf119
  v24 := Tryz.zeroValue119 }
open Go.RowKit in
/-- strings.CutPrefix: "CutPrefix returns s without the provided leading prefix string and reports whether it found the prefix. If s doesn't start with prefix, CutPrefix returns s, false. If prefix is the empty string, CutPrefix returns s, true.": IT RETURNS '(Lib.trimPrefix s p, Lib.hasPrefix s p)'; the world is as it was. (LAID: no walk: one application.) -/
theorem Tryz.strings_CutPrefix (s p : ByteArray) (w : World) :
    Calls Tryz.prog 171 #[.string s, .string p] w fun e w' => e = .returned (.tuple #[.string ⟨(Lib.trimPrefix s.data.toList p.data.toList).toArray⟩, .bool (Lib.hasPrefix s.data.toList p.data.toList)]) ∧ w' = w := Any.strings_CutPrefix Tryz.lays103 s p w
def Tryz.lays104_ren : Go.Shelf.Ren := ⟨fun | 104 => 106 | 211 => 170 | 207 => 201 | n => n, fun | 9 => 9 | 4 => 4 | 24 => 119 | 3 => 3 | n => n, fun | n => n⟩
theorem Tryz.lays104 : Go.Proofs.Lays.n104 Tryz.prog Tryz.lays104_ren := {
  mixed := by kernel_rfl
  f104 := Tryz.func106.trans (congrArg some (by kernel_rfl))
  f207 := Tryz.func201.trans (congrArg some (by kernel_rfl))
  f211 := Tryz.func170.trans (congrArg some (by kernel_rfl))
  t3 := Tryz.underlying3
  a3 := Tryz.isAgg3
  z3 := Tryz.sizeOf3
  v3 := Tryz.zeroValue3
  t4 := Tryz.underlying4
  a4 := Tryz.isAgg4
  z4 := Tryz.sizeOf4
  v4 := Tryz.zeroValue4
  t9 := Tryz.underlying9
  a9 := Tryz.isAgg9
  z9 := Tryz.sizeOf9
  v9 := Tryz.zeroValue9
  t24 := Tryz.underlying119
  a24 := Tryz.isAgg119
  z24 := Tryz.sizeOf119
  v24 := Tryz.zeroValue119 }
open Go.RowKit in
/-- strings.CutSuffix: "CutSuffix returns s without the provided ending suffix string and reports whether it found the suffix. If s doesn't end with suffix, CutSuffix returns s, false. If suffix is the empty string, CutSuffix returns s, true.": IT RETURNS '(Lib.trimSuffix s p, Lib.hasSuffix s p)'; the world is as it was. (LAID: no walk: one application.) -/
theorem Tryz.strings_CutSuffix (s p : ByteArray) (w : World) (hs : s.size ≤ 9223372036854775807) :
    Calls Tryz.prog 106 #[.string s, .string p] w fun e w' => e = .returned (.tuple #[.string ⟨(Lib.trimSuffix s.data.toList p.data.toList).toArray⟩, .bool (Lib.hasSuffix s.data.toList p.data.toList)]) ∧ w' = w := Any.strings_CutSuffix Tryz.lays104 s p w hs
def Tryz.lays217_ren : Go.Shelf.Ren := ⟨fun | 217 => 200 | 266 => 212 | n => n, fun | 9 => 9 | 5 => 5 | 3 => 3 | n => n, fun | n => n⟩
theorem Tryz.lays217 : Go.Proofs.Lays.n217 Tryz.prog Tryz.lays217_ren := {
  mixed := by kernel_rfl
  f217 := Tryz.func200.trans (congrArg some (by kernel_rfl))
  f266 := Tryz.func212.trans (congrArg some (by kernel_rfl))
  t3 := Tryz.underlying3
  a3 := Tryz.isAgg3
  z3 := Tryz.sizeOf3
  v3 := Tryz.zeroValue3
  t5 := Tryz.underlying5
  a5 := Tryz.isAgg5
  z5 := Tryz.sizeOf5
  v5 := Tryz.zeroValue5
  t9 := Tryz.underlying9
  a9 := Tryz.isAgg9
  z9 := Tryz.sizeOf9
  v9 := Tryz.zeroValue9 }
open Go.RowKit Go.Lib in
/-- internal/stringslite.IndexByte (what strings.IndexByte calls): IT RETURNS 'Lib.indexByte s c'; the world is as it was. (LAID: no walk: one application.) -/
theorem Tryz.stringslite_IndexByte (s : ByteArray) (c : Int) (w : World) :
    Calls Tryz.prog 200 #[.string s, .int .u8 c] w fun e w' => e = .returned (.int .i64 (Lib.indexByte s.data.toList c.toNat.toUInt8)) ∧ w' = w := Any.stringslite_IndexByte Tryz.lays217 s c w
def Tryz.lays219_ren : Go.Shelf.Ren := ⟨fun | 219 => 211 | 217 => 200 | 225 => 214 | 224 => 215 | 267 => 216 | 266 => 212 | 314 => 217 | n => n, fun | 9 => 9 | 3 => 3 | 4 => 4 | 5 => 5 | 46 => 250 | 146 => 252 | 51 => 251 | n => n, fun | 1 => 0 | n => n⟩
theorem Tryz.lays219 : Go.Proofs.Lays.n219 Tryz.prog Tryz.lays219_ren := {
  mixed := by kernel_rfl
  f217 := Tryz.func200.trans (congrArg some (by kernel_rfl))
  f219 := Tryz.func211.trans (congrArg some (by kernel_rfl))
  f224 := Tryz.func215.trans (congrArg some (by kernel_rfl))
  f225 := Tryz.func214.trans (congrArg some (by kernel_rfl))
  f266 := Tryz.func212.trans (congrArg some (by kernel_rfl))
  f267 := Tryz.func216.trans (congrArg some (by kernel_rfl))
  f314 := Tryz.func217.trans (congrArg some (by kernel_rfl))
  t3 := Tryz.underlying3
  a3 := Tryz.isAgg3
  z3 := Tryz.sizeOf3
  v3 := Tryz.zeroValue3
  t4 := Tryz.underlying4
  a4 := Tryz.isAgg4
  z4 := Tryz.sizeOf4
  v4 := Tryz.zeroValue4
  t5 := Tryz.underlying5
  a5 := Tryz.isAgg5
  z5 := Tryz.sizeOf5
  v5 := Tryz.zeroValue5
  t9 := Tryz.underlying9
  a9 := Tryz.isAgg9
  z9 := Tryz.sizeOf9
  v9 := Tryz.zeroValue9
  t46 := Tryz.underlying250
  a46 := Tryz.isAgg250
  z46 := Tryz.sizeOf250
  v46 := Tryz.zeroValue250
  t51 := Tryz.underlying251
  a51 := Tryz.isAgg251
  z51 := Tryz.sizeOf251
  v51 := Tryz.zeroValue251
  t146 := Tryz.underlying252
  a146 := Tryz.isAgg252
  z146 := Tryz.sizeOf252
  v146 := Tryz.zeroValue252
  g1 := by kernel_rfl }
open Go.RowKit Go.Lib in
/-- internal/stringslite.Index (what strings.Index calls) AT A substr OF ONE BYTE c: IT RETURNS 'Lib.indexByte s c'; the world is as it was. (LAID: no walk: one application.) -/
theorem Tryz.stringslite_Index_one (s : ByteArray) (c : UInt8) (w : World) :
    Calls Tryz.prog 211 #[.string s, .string ⟨#[c]⟩] w fun e w' => e = .returned (.int .i64 (Lib.indexByte s.data.toList c)) ∧ w' = w := Any.stringslite_Index_one Tryz.lays219 s c w
def Tryz.lays143_ren : Go.Shelf.Ren := ⟨fun | 143 => 187 | 219 => 211 | 217 => 200 | 225 => 214 | 224 => 215 | 267 => 216 | 266 => 212 | 314 => 217 | n => n, fun | 9 => 9 | 3 => 3 | 4 => 4 | 5 => 5 | 46 => 250 | 146 => 252 | 51 => 251 | n => n, fun | 1 => 0 | n => n⟩
theorem Tryz.lays143 : Go.Proofs.Lays.n143 Tryz.prog Tryz.lays143_ren := {
  mixed := by kernel_rfl
  f143 := Tryz.func187.trans (congrArg some (by kernel_rfl))
  f217 := Tryz.func200.trans (congrArg some (by kernel_rfl))
  f219 := Tryz.func211.trans (congrArg some (by kernel_rfl))
  f224 := Tryz.func215.trans (congrArg some (by kernel_rfl))
  f225 := Tryz.func214.trans (congrArg some (by kernel_rfl))
  f266 := Tryz.func212.trans (congrArg some (by kernel_rfl))
  f267 := Tryz.func216.trans (congrArg some (by kernel_rfl))
  f314 := Tryz.func217.trans (congrArg some (by kernel_rfl))
  t3 := Tryz.underlying3
  a3 := Tryz.isAgg3
  z3 := Tryz.sizeOf3
  v3 := Tryz.zeroValue3
  t4 := Tryz.underlying4
  a4 := Tryz.isAgg4
  z4 := Tryz.sizeOf4
  v4 := Tryz.zeroValue4
  t5 := Tryz.underlying5
  a5 := Tryz.isAgg5
  z5 := Tryz.sizeOf5
  v5 := Tryz.zeroValue5
  t9 := Tryz.underlying9
  a9 := Tryz.isAgg9
  z9 := Tryz.sizeOf9
  v9 := Tryz.zeroValue9
  t46 := Tryz.underlying250
  a46 := Tryz.isAgg250
  z46 := Tryz.sizeOf250
  v46 := Tryz.zeroValue250
  t51 := Tryz.underlying251
  a51 := Tryz.isAgg251
  z51 := Tryz.sizeOf251
  v51 := Tryz.zeroValue251
  t146 := Tryz.underlying252
  a146 := Tryz.isAgg252
  z146 := Tryz.sizeOf252
  v146 := Tryz.zeroValue252
  g1 := by kernel_rfl }
open Go.RowKit Go.Lib in
/-- strings.Index: "Index returns the index of the first instance of substr in s, or -1 if substr is not present in s.": AT A substr OF ONE BYTE c: IT RETURNS 'Lib.indexByte s c'; the world is as it was. (LAID: no walk: one application.) -/
theorem Tryz.strings_Index_one (s : ByteArray) (c : UInt8) (w : World) :
    Calls Tryz.prog 187 #[.string s, .string ⟨#[c]⟩] w fun e w' => e = .returned (.int .i64 (Lib.indexByte s.data.toList c)) ∧ w' = w := Any.strings_Index_one Tryz.lays143 s c w
def Tryz.lays145_ren : Go.Shelf.Ren := ⟨fun | 145 => 163 | 220 => 197 | 219 => 211 | 217 => 200 | 225 => 214 | 224 => 215 | 267 => 216 | 266 => 212 | 314 => 217 | n => n, fun | 9 => 9 | 4 => 4 | 59 => 227 | 3 => 3 | 5 => 5 | 46 => 250 | 146 => 252 | 51 => 251 | n => n, fun | 1 => 0 | n => n⟩
theorem Tryz.lays145 : Go.Proofs.Lays.n145 Tryz.prog Tryz.lays145_ren := {
  mixed := by kernel_rfl
  f145 := Tryz.func163.trans (congrArg some (by kernel_rfl))
  f217 := Tryz.func200.trans (congrArg some (by kernel_rfl))
  f219 := Tryz.func211.trans (congrArg some (by kernel_rfl))
  f220 := Tryz.func197.trans (congrArg some (by kernel_rfl))
  f224 := Tryz.func215.trans (congrArg some (by kernel_rfl))
  f225 := Tryz.func214.trans (congrArg some (by kernel_rfl))
  f266 := Tryz.func212.trans (congrArg some (by kernel_rfl))
  f267 := Tryz.func216.trans (congrArg some (by kernel_rfl))
  f314 := Tryz.func217.trans (congrArg some (by kernel_rfl))
  t3 := Tryz.underlying3
  a3 := Tryz.isAgg3
  z3 := Tryz.sizeOf3
  v3 := Tryz.zeroValue3
  t4 := Tryz.underlying4
  a4 := Tryz.isAgg4
  z4 := Tryz.sizeOf4
  v4 := Tryz.zeroValue4
  t5 := Tryz.underlying5
  a5 := Tryz.isAgg5
  z5 := Tryz.sizeOf5
  v5 := Tryz.zeroValue5
  t9 := Tryz.underlying9
  a9 := Tryz.isAgg9
  z9 := Tryz.sizeOf9
  v9 := Tryz.zeroValue9
  t46 := Tryz.underlying250
  a46 := Tryz.isAgg250
  z46 := Tryz.sizeOf250
  v46 := Tryz.zeroValue250
  t51 := Tryz.underlying251
  a51 := Tryz.isAgg251
  z51 := Tryz.sizeOf251
  v51 := Tryz.zeroValue251
  t59 := Tryz.underlying227
  a59 := Tryz.isAgg227
  z59 := Tryz.sizeOf227
  v59 := Tryz.zeroValue227
  t146 := Tryz.underlying252
  a146 := Tryz.isAgg252
  z146 := Tryz.sizeOf252
  v146 := Tryz.zeroValue252
  g1 := by kernel_rfl }
open Go.RowKit Go.Lib in
/-- strings.Cut: "Cut slices s around the first instance of sep, returning the text before and after sep. The found result reports whether sep appears in s. If sep does not appear in s, cut returns s, "", false.": IT RETURNS 'Lib.cut s sep'; the world is as it was but for the count of draws. (LAID: no walk: one application.) -/
theorem Tryz.strings_Cut (s sep : ByteArray) (m : Int) (w : World) (hs : s.size < 4294967281) (hm : w.cell? ⟨0, 0, none⟩ = some (.int .i64 m)) :
    Calls Tryz.prog 163 #[.string s, .string sep] w fun e w' => e = .returned (.tuple #[.string ⟨(Lib.cut s.data.toList sep.data.toList).1.toArray⟩, .string ⟨(Lib.cut s.data.toList sep.data.toList).2.1.toArray⟩, .bool (Lib.cut s.data.toList sep.data.toList).2.2]) ∧ ∃ n, w' = w.drewN n := Any.strings_Cut Tryz.lays145 s sep m w hs hm
def Tryz.lays138_ren : Go.Shelf.Ren := ⟨fun | 138 => 139 | 195 => 185 | 218 => 186 | 143 => 187 | 219 => 211 | 217 => 200 | 225 => 214 | 224 => 215 | 267 => 216 | 266 => 212 | 314 => 217 | n => n, fun | 9 => 9 | 3 => 3 | 4 => 4 | 5 => 5 | 0 => 0 | 46 => 250 | 146 => 252 | 51 => 251 | n => n, fun | 1 => 0 | n => n⟩
theorem Tryz.lays138 : Go.Proofs.Lays.n138 Tryz.prog Tryz.lays138_ren := {
  mixed := by kernel_rfl
  f138 := Tryz.func139.trans (congrArg some (by kernel_rfl))
  f143 := Tryz.func187.trans (congrArg some (by kernel_rfl))
  f195 := Tryz.func185.trans (congrArg some (by kernel_rfl))
  f217 := Tryz.func200.trans (congrArg some (by kernel_rfl))
  f218 := Tryz.func186.trans (congrArg some (by kernel_rfl))
  f219 := Tryz.func211.trans (congrArg some (by kernel_rfl))
  f224 := Tryz.func215.trans (congrArg some (by kernel_rfl))
  f225 := Tryz.func214.trans (congrArg some (by kernel_rfl))
  f266 := Tryz.func212.trans (congrArg some (by kernel_rfl))
  f267 := Tryz.func216.trans (congrArg some (by kernel_rfl))
  f314 := Tryz.func217.trans (congrArg some (by kernel_rfl))
  t0 := Tryz.underlying0
  a0 := Tryz.isAgg0
  z0 := Tryz.sizeOf0
  v0 := Tryz.zeroValue0
  t3 := Tryz.underlying3
  a3 := Tryz.isAgg3
  z3 := Tryz.sizeOf3
  v3 := Tryz.zeroValue3
  t4 := Tryz.underlying4
  a4 := Tryz.isAgg4
  z4 := Tryz.sizeOf4
  v4 := Tryz.zeroValue4
  t5 := Tryz.underlying5
  a5 := Tryz.isAgg5
  z5 := Tryz.sizeOf5
  v5 := Tryz.zeroValue5
  t9 := Tryz.underlying9
  a9 := Tryz.isAgg9
  z9 := Tryz.sizeOf9
  v9 := Tryz.zeroValue9
  t46 := Tryz.underlying250
  a46 := Tryz.isAgg250
  z46 := Tryz.sizeOf250
  v46 := Tryz.zeroValue250
  t51 := Tryz.underlying251
  a51 := Tryz.isAgg251
  z51 := Tryz.sizeOf251
  v51 := Tryz.zeroValue251
  t146 := Tryz.underlying252
  a146 := Tryz.isAgg252
  z146 := Tryz.sizeOf252
  v146 := Tryz.zeroValue252
  g1 := by kernel_rfl }
open Go.RowKit Go.Lib in
/-- strings.Count AT A substr OF ONE BYTE ('hp'): "Count counts the number of non-overlapping instances of substr in s.": IT RETURNS 'Lib.countByte s (that byte)'; the world is as it was. ✋ NO CONTRACT HERE YET at an empty substr (utf8.RuneCountInString) or at a longer one (a loop over strings.Index). (LAID: no walk: one application.) -/
theorem Tryz.strings_Count_one (s : ByteArray) (c : UInt8) (w : World) :
    Calls Tryz.prog 139 #[.string s, .string ⟨#[c]⟩] w fun e w' => e = .returned (.int .i64 (Lib.countByte s.data.toList c)) ∧ w' = w := Any.strings_Count_one Tryz.lays138 s c w
end Go.Proofs
namespace Go.Proofs.YtphoclgibnhjfaaGreat
open Go Go.RowKit Ev
theorem takeS_get : ∀ {l : List Value} {xs : List ByteArray}, takeS l = some xs → ∀ (j : Nat) x, xs[j]? = some x → l[j]? = some (.string x)
  | [], xs, h, j, x, hx => by cases h; simp at hx
  | .string s :: l, xs, h, j, x, hx => by
    simp only [takeS, Option.map_eq_some_iff] at h
    obtain ⟨ys, hy, rfl⟩ := h
    cases j with
    | zero => simp at hx; subst hx; rfl
    | succ j => simpa using takeS_get hy j x (by simpa using hx)
  | .bool _ :: _, _, h, _, _, _ | .int _ _ :: _, _, h, _, _, _ | .float _ _ :: _, _, h, _, _, _ | .complex _ _ _ :: _, _, h, _, _, _ | .pointer _ :: _, _, h, _, _, _ | .slice _ _ _ :: _, _, h, _, _, _ | .map _ :: _, _, h, _, _, _ | .chan _ :: _, _, h, _, _, _ | .func _ _ _ :: _, _, h, _, _, _ | .nilFunc :: _, _, h, _, _, _ | .iface _ _ :: _, _, h, _, _, _ | .nilIface :: _, _, h, _, _, _ | .agg _ :: _, _, h, _, _, _ | .tuple _ :: _, _, h, _, _, _ => by simp [takeS] at h
theorem same_two {ρ : Rn} {a b : Value} {args' : Array Value} (ha : flat a = true) (hb : flat b = true) (har : AR ρ #[a, b] args') : args' = #[a, b] := by
  obtain ⟨x, y, rfl, hx, hy⟩ := har.two rfl
  rw [flat_eq ha hx, flat_eq hb hy]
set_option maxRecDepth 100000 in
theorem orcStr_ok : OrcOk Tryz.prog gN2 orcStr := by
  intro h f args v h1 e
  unfold orcStr at e
  cases hj : Nat.beq f 90 with
  | true =>
    rw [hj] at e
    simp only [cond_true] at e
    obtain rfl := Nat.eq_of_beq_eq_true hj
    split at e
    · rename_i k o n c sep
      split at e
      · rename_i cs ty fl hget
        split at e
        · rename_i xs hxs
          cases hc : (Nat.blt 0 n && (Nat.beq xs.length n && (Nat.ble n c && (Nat.ble n 140737488355328 && Nat.ble (Lib.join (xs.map (·.data.toList)) sep.data.toList).length 140737488355328)))) with
          | false => rw [hc] at e; cases e
          | true =>
            rw [hc] at e
            cases e
            simp only [Bool.and_eq_true, Nat.blt_eq, Nat.beq_eq, Nat.ble_eq] at hc
            obtain ⟨c0, c1, c2, c3, c4⟩ := hc
            refine orc_flat rfl fun ρ args' w hr hg har => ?_
            obtain ⟨s', x', rfl, hs, hx⟩ := har.two rfl
            cases hx
            obtain ⟨j, cc, hjk, hO⟩ := hr.obj _ _ hget
            obtain ⟨c', rfl, hcc⟩ : ∃ c', s' = .slice (some ⟨j, o, none⟩) n c' ∧ n ≤ c' := by
              cases hs with
              | sl _ _ _ hq => rw [hjk] at hq; cases hq; exact ⟨_, rfl, c2⟩
              | slL _ _ _ _ hq p1 p2 _ => rw [hjk] at hq; cases hq; exact ⟨_, rfl, by omega⟩
              | slE => omega
            subst c1
            refine (Tryz.strings_Join j o c' xs sep w (fun q x hq => ?_) (hr.lt _ _ _ _ hget hjk) c3 hcc c4).mono ?_
            · have hl := takeS_get hxs q x hq
              have hqn : q < xs.length := (List.getElem?_eq_some_iff.1 hq).1
              rw [List.getElem?_take, if_pos hqn, List.getElem?_drop] at hl
              have hlt : o + q < cs.size := by
                have := (List.getElem?_eq_some_iff.1 hl).1
                simpa using this
              obtain ⟨u, g1, g2⟩ := hO.1 (o + q) hlt
              have hgd : cs.getD (o + q) undef = .string x := by
                rw [Array.getElem?_toList] at hl
                simp [Array.getD, hlt]
                simpa [hlt] using hl
              rw [hgd] at g2
              cases g2
              rw [cell_rd]
              exact g1
            · rintro e w' ⟨rfl, hb⟩
              exact ⟨rfl, hb⟩
        · cases e
      · cases e
    · cases e
  | false =>
    rw [hj] at e
    simp only [cond_false] at e
    cases hi : Nat.beq f 169 with
    | true =>
      rw [hi] at e
      simp only [cond_true] at e
      obtain rfl := Nat.eq_of_beq_eq_true hi
      split at e
      · cases e
        refine orc_flat rfl fun ρ args' w hr hg har => ?_
        rw [same_two rfl rfl har]
        refine (Tryz.strings_IndexByte _ _ _).mono ?_
        rintro e w' ⟨rfl, rfl⟩
        exact ⟨rfl, Below.refl _ _⟩
      · cases e
    | false =>
      rw [hi] at e
      simp only [cond_false] at e
      cases hk : Nat.beq f 211 with
      | true =>
        rw [hk] at e
        simp only [cond_true] at e
        obtain rfl := Nat.eq_of_beq_eq_true hk
        split at e
        · cases e
          refine orc_flat rfl fun ρ args' w hr hg har => ?_
          rw [same_two rfl rfl har]
          refine (Tryz.stringslite_Index_one _ _ _).mono ?_
          rintro e w' ⟨rfl, rfl⟩
          exact ⟨rfl, Below.refl _ _⟩
        · cases e
      | false =>
        rw [hk] at e
        simp only [cond_false] at e
        cases hm : Nat.beq f 139 with
        | true =>
          rw [hm] at e
          simp only [cond_true] at e
          obtain rfl := Nat.eq_of_beq_eq_true hm
          split at e
          · cases e
            refine orc_flat rfl fun ρ args' w hr hg har => ?_
            rw [same_two rfl rfl har]
            refine (Tryz.strings_Count_one _ _ _).mono ?_
            rintro e w' ⟨rfl, rfl⟩
            exact ⟨rfl, Below.refl _ _⟩
          · cases e
        | false => rw [hm] at e; cases e
theorem no_orc : OrcOk Tryz.prog gN2 noOrc := orc_none _ _
theorem known_app {l m : TblS} (hl : ∀ x ∈ l, KnownS Tryz.prog gN2 lst2 x) (hm : ∀ x ∈ m, KnownS Tryz.prog gN2 lst2 x) : ∀ x ∈ l ++ m, KnownS Tryz.prog gN2 lst2 x := fun x hx => by
  rcases List.mem_append.1 hx with h | h
  · exact hl x h
  · exact hm x h
theorem kA : ∀ x ∈ tblA, KnownS Tryz.prog gN2 lst2 x := knownS_all no_orc good_lst2 run_A
theorem kD : ∀ x ∈ tblD, KnownS Tryz.prog gN2 lst2 x := knownS_all no_orc good_lst2 run_D
theorem kN : ∀ x ∈ tblN, KnownS Tryz.prog gN2 lst2 x := knownS_all no_orc good_lst2 run_N
theorem oA : OrcOk Tryz.prog gN2 orcA := memoS_ok good_lst2 (by kernel_rfl) (known_app (known_app kA kD) kN) orcStr_ok
theorem kB : ∀ x ∈ tblB, KnownS Tryz.prog gN2 lst2 x := knownS_all oA good_lst2 run_B
theorem oB : OrcOk Tryz.prog gN2 orcB := memoS_ok good_lst2 (by kernel_rfl) (known_app kB kA) no_orc
theorem kC : ∀ x ∈ tblC, KnownS Tryz.prog gN2 lst2 x := knownS_all oB good_lst2 run_C
theorem kM : ∀ x ∈ tblM, KnownS Tryz.prog gN2 lst2 x := knownS_all oA good_lst2 run_M
theorem oP : OrcOk Tryz.prog gN2 orcP := memoS_ok good_lst2 (by kernel_rfl) (known_app (known_app (known_app (known_app kC kM) kA) kD) kN) orcStr_ok
theorem kP : ∀ x ∈ tblP, KnownS Tryz.prog gN2 lst2 x := knownS_all oP good_lst2 run_P
theorem kR : ∀ x ∈ tblR, KnownS Tryz.prog gN2 lst2 x := knownS_all oP good_lst2 run_R
theorem kH : ∀ x ∈ tblH, KnownS Tryz.prog gN2 lst2 x := knownS_all oA good_lst2 run_H
theorem kL : ∀ x ∈ tblL, KnownS Tryz.prog gN2 lst2 x := known_app (known_app (known_app (known_app (known_app (known_app (known_app (known_app kP kR) kH) kC) kM) kB) kA) kD) kN
theorem oL : OrcOk Tryz.prog gN2 orcL := memoS_ok good_lst2 (by kernel_rfl) kL orcStr_ok
theorem kQ : ∀ x ∈ tblQ, KnownS Tryz.prog gN2 lst2 x := knownS_all oL good_lst2 run_Q
theorem kQ3 : ∀ x ∈ tblQ3, KnownS Tryz.prog gN2 lst2 x := knownS_all oL good_lst2 run_Q3
theorem kT : ∀ x ∈ tblT, KnownS Tryz.prog gN2 lst2 x := knownS_all oL good_lst2 run_T
theorem kG : ∀ x ∈ tblG, KnownS Tryz.prog gN2 lst2 x := known_app (known_app (known_app (known_app (known_app (known_app (known_app (known_app kT kQ) kQ3) kP) kR) kH) kC) kM) kB
theorem oG : OrcOk Tryz.prog gN2 orcG := memoS_ok good_lst2 (by kernel_rfl) (known_app kG kA) orcStr_ok
theorem awake2_true (w : World) : Calls Tryz.prog 12 #[] w fun e w' => e = .returned (.bool true) ∧ Below w.heap.size w w' :=
  (known oG good_lst2 run_awake2).calls w (fun x hx => by cases hx)
end Go.Proofs.YtphoclgibnhjfaaGreat
namespace Go.Proofs.YtphoclgibnhjfaaGreat
open Go Go.RowKit Ev
def pmOk (s : ByteArray) : Prop := allD s ∧ nv s 4 / 100 < 24 ∧ nv s 4 % 100 < 60
instance (s : ByteArray) : Decidable (pmOk s) := by unfold pmOk; infer_instance
def pmVal (s : ByteArray) : Int := nv s 4 / 100 * 60 + nv s 4 % 100
def pmOut (s : ByteArray) : Value := if pmOk s then .tuple #[.int .i64 (pmVal s), .int .i64 0] else .tuple #[.int .i64 0, .int .i64 25]
def qpm (s : ByteArray) : Int := if pmOk s then pmVal s else -1
theorem pm_cases (s : ByteArray) : (¬ allD s ∧ ¬ pmOk s) ∨ (allD s ∧ 24 ≤ nv s 4 / 100 ∧ ¬ pmOk s) ∨ (allD s ∧ nv s 4 / 100 < 24 ∧ 60 ≤ nv s 4 % 100 ∧ ¬ pmOk s) ∨ (allD s ∧ nv s 4 / 100 < 24 ∧ nv s 4 % 100 < 60 ∧ pmOk s) := by
  by_cases h : allD s
  · by_cases h1 : nv s 4 / 100 < 24
    · by_cases h2 : nv s 4 % 100 < 60
      · exact .inr (.inr (.inr ⟨h, h1, h2, h, h1, h2⟩))
      · exact .inr (.inr (.inl ⟨h, h1, by omega, fun hp => h2 hp.2.2⟩))
    · exact .inr (.inl ⟨h, by omega, fun hp => h1 hp.2.1⟩)
  · exact .inl ⟨h, fun hp => h hp.1⟩
theorem ParseMinute_any (s : ByteArray) (w : World) :
    Calls Tryz.prog 44 #[.string s] w fun e w' => e = .returned (pmOut s) ∧ Below w.heap.size w w' := by
  rcases pm_cases s with ⟨h, hp⟩ | ⟨h, h1, hp⟩ | ⟨h, h1, h2, hp⟩ | ⟨h, h1, h2, hp⟩
  · have HN : Hid (numOut s = .tuple #[.int .i64 0, .bool false]) := Lib.hid (by unfold numOut; rw [if_neg h])
    have HO : Hid (pmOut s = .tuple #[.int .i64 0, .int .i64 25]) := Lib.hid (by unfold pmOut; rw [if_neg hp])
    clear h hp
    go_enter Tryz.func44, Tryz.ntmps44
    go_wp2_with fail
    refine (number_any _ _).mono ?_
    rintro e w1 ⟨rfl, hb⟩
    rw [HN.out]
    go_wp2_with fail
    go_ret2
    exact ⟨by rw [HO.out]; rfl, hb⟩
  · have HN : Hid (numOut s = .tuple #[.int .i64 (nv s 4), .bool true]) := Lib.hid (by unfold numOut; rw [if_pos h])
    have HO : Hid (pmOut s = .tuple #[.int .i64 0, .int .i64 25]) := Lib.hid (by unfold pmOut; rw [if_neg hp])
    obtain ⟨n0, n1, _⟩ := nv_bd s 4 (by omega) h.2
    clear h hp
    generalize nv s 4 = n at *
    go_enter Tryz.func44, Tryz.ntmps44
    go_wp2_with fail
    refine (number_any _ _).mono ?_
    rintro e w1 ⟨rfl, hb⟩
    rw [HN.out]
    go_wp2_with fail
    go_ret2
    exact ⟨by rw [HO.out]; rfl, hb⟩
  · have HN : Hid (numOut s = .tuple #[.int .i64 (nv s 4), .bool true]) := Lib.hid (by unfold numOut; rw [if_pos h])
    have HO : Hid (pmOut s = .tuple #[.int .i64 0, .int .i64 25]) := Lib.hid (by unfold pmOut; rw [if_neg hp])
    obtain ⟨n0, n1, _⟩ := nv_bd s 4 (by omega) h.2
    clear h hp
    generalize nv s 4 = n at *
    go_enter Tryz.func44, Tryz.ntmps44
    go_wp2_with fail
    refine (number_any _ _).mono ?_
    rintro e w1 ⟨rfl, hb⟩
    rw [HN.out]
    go_wp2_with fail
    go_ret2
    exact ⟨by rw [HO.out]; rfl, hb⟩
  · have HN : Hid (numOut s = .tuple #[.int .i64 (nv s 4), .bool true]) := Lib.hid (by unfold numOut; rw [if_pos h])
    have HO : Hid (pmOut s = .tuple #[.int .i64 (nv s 4 / 100 * 60 + nv s 4 % 100), .int .i64 0]) := Lib.hid (by unfold pmOut pmVal; rw [if_pos hp])
    obtain ⟨n0, n1, _⟩ := nv_bd s 4 (by omega) h.2
    clear h hp
    generalize nv s 4 = n at *
    go_enter Tryz.func44, Tryz.ntmps44
    go_wp2_with fail
    refine (number_any _ _).mono ?_
    rintro e w1 ⟨rfl, hb⟩
    rw [HN.out]
    go_wp2_with fail
    go_ret2
    exact ⟨by rw [HO.out]; rfl, hb⟩
theorem qParseMinute_any (s : ByteArray) (w : World) :
    Calls Tryz.prog 116 #[.string s] w fun e w' => e = .returned (.int .i64 (qpm s)) ∧ w' = w := by
  rcases pm_cases s with ⟨h, hp⟩ | ⟨h, h1, hp⟩ | ⟨h, h1, h2, hp⟩ | ⟨h, h1, h2, hp⟩
  · have HN : Hid (qNum s = -1) := Lib.hid (by unfold qNum; rw [if_neg h])
    have HO : Hid (qpm s = -1) := Lib.hid (by unfold qpm; rw [if_neg hp])
    clear h hp
    go_enter Tryz.func116, Tryz.ntmps116
    go_wp2_with fail
    refine (qdigits_any _ _).mono ?_
    rintro e w1 ⟨rfl, rfl⟩
    rw [HN.out]
    go_wp2_with fail
    go_ret
    exact ⟨by rw [HO.out]; rfl, rfl⟩
  · have HN : Hid (qNum s = nv s 4) := Lib.hid (by unfold qNum; rw [if_pos h])
    have HO : Hid (qpm s = -1) := Lib.hid (by unfold qpm; rw [if_neg hp])
    obtain ⟨n0, n1, _⟩ := nv_bd s 4 (by omega) h.2
    clear h hp
    generalize nv s 4 = n at *
    have hg : (23 : Int) < n / 100 := by omega
    go_enter Tryz.func116, Tryz.ntmps116
    go_wp2_with fail
    refine (qdigits_any _ _).mono ?_
    rintro e w1 ⟨rfl, rfl⟩
    rw [HN.out]
    go_wp2_with fail
    go_ret
    exact ⟨by rw [HO.out]; rfl, rfl⟩
  · have HN : Hid (qNum s = nv s 4) := Lib.hid (by unfold qNum; rw [if_pos h])
    have HO : Hid (qpm s = -1) := Lib.hid (by unfold qpm; rw [if_neg hp])
    obtain ⟨n0, n1, _⟩ := nv_bd s 4 (by omega) h.2
    clear h hp
    generalize nv s 4 = n at *
    have hg : ¬ (23 : Int) < n / 100 := by omega
    have hm : (59 : Int) < n % 100 := by omega
    go_enter Tryz.func116, Tryz.ntmps116
    go_wp2_with fail
    refine (qdigits_any _ _).mono ?_
    rintro e w1 ⟨rfl, rfl⟩
    rw [HN.out]
    go_wp2_with fail
    go_ret
    exact ⟨by rw [HO.out]; rfl, rfl⟩
  · have HN : Hid (qNum s = nv s 4) := Lib.hid (by unfold qNum; rw [if_pos h])
    have HO : Hid (qpm s = nv s 4 / 100 * 60 + nv s 4 % 100) := Lib.hid (by unfold qpm pmVal; rw [if_pos hp])
    obtain ⟨n0, n1, _⟩ := nv_bd s 4 (by omega) h.2
    clear h hp
    generalize nv s 4 = n at *
    have hg : ¬ (23 : Int) < n / 100 := by omega
    have hm : ¬ (59 : Int) < n % 100 := by omega
    go_enter Tryz.func116, Tryz.ntmps116
    go_wp2_with fail
    refine (qdigits_any _ _).mono ?_
    rintro e w1 ⟨rfl, rfl⟩
    rw [HN.out]
    go_wp2_with fail
    go_ret
    exact ⟨by rw [HO.out]; rfl, rfl⟩
def IsTrueM (r : Ending) (w w' : World) : Prop := r = .returned (.bool true) ∧ Below w.heap.size w w'
end Go.Proofs.YtphoclgibnhjfaaGreat
namespace Go.Proofs.YtphoclgibnhjfaaGreat
open Go Go.RowKit Ev
theorem nv_bdK (s : ByteArray) (k : Nat) (hk : k ≤ 5) (h : ∀ i, i < k → 48 ≤ byteAt s i ∧ byteAt s i ≤ 57) : 0 ≤ nv s k ∧ nv s k ≤ 99999 ∧ (k ≤ 4 → nv s k ≤ 9999) := by
  by_cases h4 : k ≤ 4
  · obtain ⟨a, b, _⟩ := nv_bd s k h4 h
    exact ⟨a, by omega, fun _ => b⟩
  · obtain rfl : k = 5 := by omega
    obtain ⟨a, b, _⟩ := nv_bd s 4 (by omega) (fun i hi => h i (by omega))
    have := h 4 (by omega)
    simp only [nv] at *
    exact ⟨by omega, by omega, fun h => by omega⟩
def allK (s : ByteArray) (K : Nat) : Prop := s.size = K ∧ ∀ i, i < K → 48 ≤ byteAt s i ∧ byteAt s i ≤ 57
instance (s : ByteArray) (K : Nat) : Decidable (allK s K) := by unfold allK; infer_instance
def numOutK (s : ByteArray) (K : Nat) : Value := if allK s K then .tuple #[.int .i64 (nv s K), .bool true] else .tuple #[.int .i64 0, .bool false]
def qNumK (s : ByteArray) (K : Nat) : Int := if allK s K then nv s K else -1
set_option maxRecDepth 100000 in
set_option maxHeartbeats 1000000 in
theorem numberK_any (s : ByteArray) (K : Nat) (h1K : 1 ≤ K) (hK : K ≤ 5) (w : World) :
    Calls Tryz.prog 96 #[.string s, .int .i64 K] w fun e w' => e = .returned (numOutK s K) ∧ Below w.heap.size w w' := by
  by_cases h4 : s.size = K
  · have hb : ((s.size : Int) != (K : Int)) = false := by simp [h4]
    have HS := Lib.hid h4
    have HNO : Hid (∀ i, i < K → ¬ (48 ≤ byteAt s i ∧ byteAt s i ≤ 57) → numOutK s K = .tuple #[.int .i64 0, .bool false]) := Lib.hid fun i hi h => by unfold numOutK; rw [if_neg (fun hd => h (hd.2 i hi))]
    have HYES : Hid ((∀ i, i < K → 48 ≤ byteAt s i ∧ byteAt s i ≤ 57) → numOutK s K = .tuple #[.int .i64 (nv s K), .bool true]) := Lib.hid fun h => by unfold numOutK; rw [if_pos ⟨h4, h⟩]
    clear h4
    go_enter Tryz.func96, Tryz.ntmps96
    go_wp2_with fail
    obtain ⟨W, hW, hb0, hit0⟩ : ∃ W, w.iter s 0 = W ∧ Below w.heap.size w W ∧ W.heap[w.heap.size]? = some (.stringIter s 0) := ⟨_, rfl, below_alloc _ _, World.iter_heap w s 0⟩
    rw [hW]
    clear hW
    go_loopw [6] (fun n wr => ∃ pos : Nat, pos ≤ K ∧ n = .int .i64 (nv s pos) ∧ Hid (∀ i, i < pos → 48 ≤ byteAt s i ∧ byteAt s i ≤ 57) ∧ Below w.heap.size w wr ∧ wr.heap[w.heap.size]? = some (.stringIter s pos)) (fun _ wr => s.size - wr.iterPos w.heap.size)
    case atStart => exact ⟨0, Nat.zero_le _, rfl, Lib.hid (fun i hi => absurd hi (Nat.not_lt_zero _)), hb0, hit0⟩
    case round =>
      obtain ⟨pos, hps, rfl, HP, hbr, hit⟩ := hrel
      by_cases hp4 : pos < K
      · have hp : pos < s.size := by rw [HS.out]; exact hp4
        obtain ⟨r, p2, hnx0, hlo, hhi, hr2⟩ := next_byte (P := Tryz.prog) wr w.heap.size pos s hit hp
        obtain ⟨W2, hnx, hb2', hit2⟩ : ∃ W2, (∀ ty, (Instr.next (.pointer (some ⟨w.heap.size, 0, none⟩)) true ty).run Tryz.prog wr = .ok (.tuple #[.bool true, .int .i64 pos, .int .i32 r]) W2) ∧ Below w.heap.size w W2 ∧ W2.heap[w.heap.size]? = some (.stringIter s p2) :=
          ⟨_, hnx0, hbr.trans (nb_below _ _ _ _), Lib.iterAt_heap _ _ _ _ _ hit⟩
        clear hnx0
        have hmu : wr.iterPos w.heap.size = pos := by simp [World.iterPos, hit]
        have hmu2 : W2.iterPos w.heap.size = p2 := by simp [World.iterPos, hit2]
        have HMU := Lib.hid hmu; have HMU2 := Lib.hid hmu2
        clear hmu hmu2 hit
        by_cases hok : 48 ≤ byteAt s pos ∧ byteAt s pos ≤ 57
        · obtain ⟨hr, hp2⟩ := hlo (by omega)
          subst hr hp2
          have HP2 : Hid (∀ i, i < pos + 1 → 48 ≤ byteAt s i ∧ byteAt s i ≤ 57) := Lib.hid (fun i hi => by
            rcases Nat.lt_or_ge i pos with h | h
            · exact HP.out i h
            · obtain rfl : i = pos := by omega
              exact hok)
          obtain ⟨n0, _, n3⟩ := nv_bdK s pos (by omega) HP.out
          have n3' := n3 (by omega)
          have HN : Hid (nv s (pos + 1) = 10 * nv s pos + ((byteAt s pos : Int) - 48)) := Lib.hid rfl
          generalize nv s pos = n at *
          generalize byteAt s pos = r at *
          have c1 : decide ((r : Int) < 48) = false := decide_eq_false (by omega)
          have c2 : decide ((57 : Int) < r) = false := decide_eq_false (by omega)
          have b1 : (48 : Int) ≤ r := by omega
          have b2 : (r : Int) ≤ 57 := by omega
          clear n3 hlo hhi hok
          go_wp2_with fail
          go_roundw
          case rel => exact ⟨pos + 1, by omega, by rw [HN.out], HP2, hb2', hit2⟩
          case measure => rw [HMU.out, HMU2.out, HS.out]; omega
        · have HB := Lib.hid (HNO.out pos hp4 hok)
          have hbad : (r : Int) < 48 ∨ (¬ (r : Int) < 48 ∧ (57 : Int) < r) := by
            by_cases hc : byteAt s pos < 128
            · rw [(hlo hc).1]; omega
            · have := hhi (by omega); omega
          clear hlo hhi hok
          rcases hbad with h | ⟨h, h'⟩
          · have c1 : decide ((r : Int) < 48) = true := decide_eq_true h
            go_wp2_with fail
            go_ret2
            exact ⟨by rw [HB.out]; rfl, hb2'⟩
          · have c1 : decide ((r : Int) < 48) = false := decide_eq_false h
            have c2 : decide ((57 : Int) < r) = true := decide_eq_true h'
            go_wp2_with fail
            go_ret2
            exact ⟨by rw [HB.out]; rfl, hb2'⟩
      · obtain rfl : pos = K := by omega
        have HB := Lib.hid (HYES.out HP.out)
        have hend : ¬ pos < s.size := by rw [HS.out]; omega
        have hnx : ∀ ty, (Instr.next (.pointer (some ⟨w.heap.size, 0, none⟩)) true ty).run Tryz.prog wr = _ := fun ty => Lib.run_next_end_at wr w.heap.size s pos ty hit hend
        generalize nv s pos = n at *
        go_wp2_with fail
        go_ret2
        exact ⟨by rw [HB.out]; rfl, hbr⟩
  · have hb : ((s.size : Int) != (K : Int)) = true := by rw [bne_iff_ne]; omega
    have HO : Hid (numOutK s K = .tuple #[.int .i64 0, .bool false]) := Lib.hid (by unfold numOutK; rw [if_neg (fun hd => h4 hd.1)])
    clear h4
    go_enter Tryz.func96, Tryz.ntmps96
    go_wp2_with fail
    go_ret2
    exact ⟨by rw [HO.out]; rfl, Below.refl _ _⟩
set_option maxRecDepth 100000 in
set_option maxHeartbeats 1000000 in
theorem qdigitsK_any (s : ByteArray) (K : Nat) (h1K : 1 ≤ K) (hK : K ≤ 5) (w : World) :
    Calls Tryz.prog 59 #[.string s, .int .i64 K] w fun e w' => e = .returned (.int .i64 (qNumK s K)) ∧ w' = w := by
  by_cases h4 : s.size = K
  · have hb : ((s.size : Int) != (K : Int)) = false := by simp [h4]
    have HS := Lib.hid h4
    have HNO : Hid (∀ i, i < K → ¬ (48 ≤ byteAt s i ∧ byteAt s i ≤ 57) → qNumK s K = -1) := Lib.hid fun i hi h => by unfold qNumK; rw [if_neg (fun hd => h (hd.2 i hi))]
    have HYES : Hid ((∀ i, i < K → 48 ≤ byteAt s i ∧ byteAt s i ≤ 57) → qNumK s K = nv s K) := Lib.hid fun h => by unfold qNumK; rw [if_pos ⟨h4, h⟩]
    have hs4 : (s.size : Int) = K := by omega
    clear h4
    go_enter Tryz.func59, Tryz.ntmps59
    go_wp2_with fail
    go_loopw [5, 6] (fun n i wr => ∃ pos : Nat, pos ≤ K ∧ n = .int .i64 (nv s pos) ∧ i = .int .i64 pos ∧ Hid (∀ i, i < pos → 48 ≤ byteAt s i ∧ byteAt s i ≤ 57) ∧ wr = w) (fun _ i _ => K - (intOf i).toNat)
    case atStart => exact ⟨0, Nat.zero_le _, rfl, rfl, Lib.hid (fun i hi => absurd hi (Nat.not_lt_zero _)), rfl⟩
    case round =>
      obtain ⟨pos, hps, rfl, rfl, HP, rfl⟩ := hrel
      by_cases hp4 : pos < K
      · have hps2 : pos < s.size := by rw [HS.out]; exact hp4
        have HBY : Hid (byteAt s pos = (s[pos]'hps2).toNat) := Lib.hid (byteAt_eq hps2)
        have hb256 : (s[pos]'hps2).toNat < 256 := UInt8.toNat_lt _
        by_cases hok : 48 ≤ byteAt s pos ∧ byteAt s pos ≤ 57
        · have HP2 : Hid (∀ i, i < pos + 1 → 48 ≤ byteAt s i ∧ byteAt s i ≤ 57) := Lib.hid (fun i hi => by
            rcases Nat.lt_or_ge i pos with h | h
            · exact HP.out i h
            · obtain rfl : i = pos := by omega
              exact hok)
          obtain ⟨n0, _, n3⟩ := nv_bdK s pos (by omega) HP.out
          have n3' := n3 (by omega)
          have HN : Hid (nv s (pos + 1) = 10 * nv s pos + (((s[pos]'hps2).toNat : Int) - 48)) := Lib.hid (by rw [← HBY.out]; rfl)
          rw [HBY.out] at hok
          have c1 : decide (((s[pos]'hps2).toNat : Int) < 48) = false := decide_eq_false (by omega)
          have c2 : decide ((57 : Int) < ((s[pos]'hps2).toNat : Int)) = false := decide_eq_false (by omega)
          have b1 : (48 : Int) ≤ ((s[pos]'hps2).toNat : Int) := by omega
          have b2 : ((s[pos]'hps2).toNat : Int) ≤ 57 := by omega
          have b0 : (pos : Int) < s.size := by omega
          generalize nv s pos = n at *
          clear n3 hok
          go_wp2_with fail
          go_roundw
          case rel => exact ⟨pos + 1, by omega, by rw [HN.out], by go_num, HP2, trivial⟩
          case measure => simp [intOf]; omega
        · have HB := Lib.hid (HNO.out pos hp4 hok)
          rw [HBY.out] at hok
          have b0 : (pos : Int) < s.size := by omega
          have hbad : ((s[pos]'hps2).toNat : Int) < 48 ∨ (¬ ((s[pos]'hps2).toNat : Int) < 48 ∧ (57 : Int) < ((s[pos]'hps2).toNat : Int)) := by omega
          clear hok
          rcases hbad with h | ⟨h, h'⟩
          · have c1 : decide (((s[pos]'hps2).toNat : Int) < 48) = true := decide_eq_true h
            go_wp2_with fail
            go_ret
            exact ⟨by rw [HB.out]; rfl, rfl⟩
          · have c1 : decide (((s[pos]'hps2).toNat : Int) < 48) = false := decide_eq_false h
            have c2 : decide ((57 : Int) < ((s[pos]'hps2).toNat : Int)) = true := decide_eq_true h'
            go_wp2_with fail
            go_ret
            exact ⟨by rw [HB.out]; rfl, rfl⟩
      · obtain rfl : pos = K := by omega
        have HB := Lib.hid (HYES.out HP.out)
        generalize nv s pos = n at *
        go_wp2_with fail
        go_ret
        exact ⟨by rw [HB.out]; rfl, rfl⟩
  · have hb : ((s.size : Int) != (K : Int)) = true := by rw [bne_iff_ne]; omega
    have HO : Hid (qNumK s K = -1) := Lib.hid (by unfold qNumK; rw [if_neg (fun hd => h4 hd.1)])
    clear h4
    go_enter Tryz.func59, Tryz.ntmps59
    go_wp2_with fail
    go_ret
    exact ⟨by rw [HO.out]; rfl, rfl⟩
end Go.Proofs.YtphoclgibnhjfaaGreat
namespace Go.Proofs.YtphoclgibnhjfaaGreat
open Go
section
variable {P : Program} {ops : Array Oper} {md : Region.Mode} {C : World → Prop}
/-- Whatever order is drawn among the first n operations, f of them; then L. -/
def HeadQ (P : Program) (md : Region.Mode) (ops : Array Oper) (C : World → Prop) (n : Nat) (L : Array Bool → Act → Prop) (f : Nat) : Array Bool → Act → Prop :=
  f.rec L fun _ next listed a => Region.ready md ops listed ≠ [] ∧ ∀ i ∈ Region.ready md ops listed, i < n ∧ qOp P ops C i (next (listed.setIfInBounds i true)) a
theorem HeadQ.any {n g : Nat} {L : Array Bool → Act → Prop} {Q' : Exit → Act → World → Prop} (hL : ∀ listed a w, C w → L listed a → wpAny P md ops Q' g listed a w) (f : Nat) :
    ∀ (listed : Array Bool) (a : Act) (w : World), C w → HeadQ P md ops C n L f listed a → wpAny P md ops Q' (f + g) listed a w := by
  induction f with
  | zero => intro listed a w hw h; rw [Nat.zero_add]; exact hL _ _ _ hw h
  | succ f ih =>
    intro listed a w hw h
    rw [Nat.succ_add]
    exact ⟨fun h0 => absurd h0 h.1, fun i hi => wpOp_of_qOp hw (fun a' w' hw' h' => ih _ a' w' hw' h') (h.2 i hi).2⟩
/-- An operation of the head that is ready, and apart from all that do not wait for it, may be taken first. -/
theorem HeadQ.first {n i : Nat} {oi : Oper} {v : Value} {L : Array Bool → Act → Prop} (hi : ops[i]? = some oi) (hsel : ∀ (j : Nat) (o : Oper) cs b, ops[j]? = some o → o.op ≠ .select cs b)
    (hs : Region.sinkB md ops n = true) (hc : Region.chainB md ops n = true) (hn : n < ops.size) (hin : i < n) (hdone : ∀ listed a, L listed a → ∀ j ∈ Region.ready md ops listed, n ≤ j) (f : Nat) :
    ∀ (listed : Array Bool) (a : Act), HeadInv md ops n listed →
      (∀ j oj, ops[j]? = some oj → j ≠ i → listed.getD j true = false → (∀ e ∈ oj.after, Region.binds md e = true → e.on ≠ i) → oi.apart ops oj = true) →
      i ∈ Region.ready md ops listed → YieldsIn P ops C oi v a → HeadQ P md ops C n L f (listed.setIfInBounds i true) (a.put oi.dst v) → HeadQ P md ops C n L (f + 1) listed a := by
  induction f with
  | zero =>
    intro listed a inv _ hr hy H
    refine ⟨List.ne_nil_of_mem hr, fun j hj => ?_⟩
    have hjn : j < n := Nat.lt_of_not_le fun h => tail_waits hs hc hn inv _ i rfl hin (mem_ready.1 hr).1 j h hj
    refine ⟨hjn, ?_⟩
    rcases Nat.decEq j i with hji | hji
    · exact absurd (hdone _ _ H j (ready_mono hj hji)) (by omega)
    · subst hji; exact hy.qOp hi H
  | succ f ih =>
    intro listed a inv hfree hr hy H
    refine ⟨List.ne_nil_of_mem hr, fun j hj => ?_⟩
    have hjn : j < n := Nat.lt_of_not_le fun h => tail_waits hs hc hn inv _ i rfl hin (mem_ready.1 hr).1 j h hj
    refine ⟨hjn, ?_⟩
    rcases Nat.decEq j i with hji | hji
    · obtain ⟨hun, oj, hoj, hall⟩ := mem_ready.1 hj
      have hnot : ∀ e ∈ oj.after, Region.binds md e = true → e.on ≠ i := fun e he hb heq => by
        have h1 := hall e he hb
        rw [heq, getD_both (mem_ready.1 hr).1] at h1
        cases h1
      have h2 := qOp_put hoj (hfree j oj hoj hji hun hnot) (fun cs b => hsel i oi cs b hi) (fun cs b => hsel j oj cs b hoj) hy (H.2 j (ready_mono hj hji)).2
      refine qOp_mono (fun a' h3 => ih (listed.setIfInBounds j true) a' (inv.set hj hjn) (fun k ok hk hki hk2 hno => hfree k ok hk hki ?_ hno) (ready_mono hr (Ne.symm hji)) h3.1 ?_) h2
      · rcases Nat.decEq j k with hjk | hjk
        · rwa [getD_set_ne true hjk] at hk2
        · subst hjk; exact hun
      · rw [Array.setIfInBounds_comm _ _ hji]; exact h3.2
    · subst hji; exact hy.qOp hi H
theorem HeadQ.lex {n g : Nat} {Lq : Act → Prop} (hsel : Region.noSelect ops = true) (hs : Region.sinkB md ops n = true) (hc : Region.chainB md ops n = true) (hn : n < ops.size) (l : List Oper) :
    ∀ (k : Nat) (listed : Array Bool) (a : Act), (∀ j, j < l.length → l[j]? = ops[k + j]?) → k + l.length = n → HeadInv md ops n listed → Region.lexHead md ops g l.length k listed = true → wpQuiet P ops C Lq l a →
    HeadQ P md ops C n (fun listed' a' => Region.seqB md ops g n listed' = true ∧ Lq a') l.length listed a := by
  induction l with
  | nil =>
    intro k listed a _ hk _ hB h
    obtain rfl : k = n := by simpa using hk
    exact ⟨by simpa [Region.lexHead] using hB, h⟩
  | cons o l ih =>
    intro k listed a hl hk inv hB h
    have h0 : ops[k]? = some o := by simpa using (hl 0 (by simp)).symm
    simp only [List.length_cons, Region.lexHead, Bool.and_eq_true, List.contains_iff_mem] at hB
    have hkn : k < n := by simp only [List.length_cons] at hk; omega
    obtain ⟨v, hy, hK⟩ := yieldsIn_of_qOp (K := wpQuiet P ops C Lq l) h0 (by unfold qOp; simp only [h0]; exact h)
    exact HeadQ.first h0 (Region.noSelect_spec hsel) hs hc hn hkn (fun _ _ hL => seqB_ready hL.1) l.length listed a inv (Region.free_spec h0 hB.1.2) hB.1.1 hy
      (ih (k + 1) _ _ (fun j hj => by have := hl (j + 1) (by simp; omega); simpa [Nat.add_assoc, Nat.add_comm 1 j] using this) (by simp only [List.length_cons] at hk; omega) (inv.set hB.1.1 hkn) hB.2 hK)
theorem quiet_tail {id : Nat} {Q : Exit → Act → World → Prop} {a : Act} {w : World} {l : List Oper} (n : Nat) (hm : P.follows .mixedOrders = true) (hB : Region.lexTailB .any l.toArray n = true) (hC : C w.drew)
    (h : wpQuiet P l.toArray C (fun a' => ∀ w', C w' → wpList P l.toArray Q (l.drop n) a' w') (l.take n) a) : (Code.region id l.toArray true).wp P Q a w := by
  simp only [Region.lexTailB, Bool.and_eq_true, decide_eq_true_eq] at hB
  obtain ⟨⟨⟨⟨hsel, hn⟩, hs⟩, hc⟩, hlex⟩ := hB
  have hlen : n < l.length := by simpa using hn
  have hln : (l.take n).length = n := by simp; omega
  have hdl : (l.drop n).length = l.toArray.size - n := by simp
  have inv0 : HeadInv .any l.toArray n (Array.replicate l.toArray.size false) :=
    ⟨by simp, fun j oj _ hl => (by rw [getD_replicate_false] at hl; cases hl), fun t _ ht => getD_in (by simpa using ht) (getD_replicate_false _ _)⟩
  have H := HeadQ.lex (md := .any) (g := l.toArray.size - n) hsel hs hc hn (l.take n) 0 _ a (fun j hj => by
    have hj' : j < n := by rw [hln] at hj; exact hj
    simp [hj']) (by simpa using hln) inv0 (by rw [hln]; exact hlex) h
  have T := HeadQ.any (Q' := Q) (g := l.toArray.size - n) (fun listed a' w' hw' hL => by
    have := wpAny_of_seq (md := .any) (Q' := Q) (l.drop n) n listed a' w' (fun j => by simp [List.getElem?_drop]) (by rw [hdl]; exact hL.1) (hL.2 w' hw')
    rwa [hdl] at this) _ _ _ w.drew hC H
  rw [hln, Nat.add_sub_cancel' (Nat.le_of_lt hn)] at T
  exact wp_region_any hm T
/-- The same at the class of the worlds that are w after some draws. -/
theorem quiet_tail_drew {id : Nat} {Q : Exit → Act → World → Prop} {a : Act} {w : World} {l : List Oper} (n : Nat) (hm : P.follows .mixedOrders = true) (hB : Region.lexTailB .any l.toArray n = true)
    (h : wpQuiet P l.toArray (fun w' => ∃ m, w' = w.drewN m) (fun a' => ∀ w', (∃ m, w' = w.drewN m) → wpList P l.toArray Q (l.drop n) a' w') (l.take n) a) : (Code.region id l.toArray true).wp P Q a w :=
  quiet_tail n hm hB ⟨1, rfl⟩ h
end
end Go.Proofs.YtphoclgibnhjfaaGreat
namespace Go.Proofs.YtphoclgibnhjfaaGreat
open Go.RowKit
/-- A world that keeps all that w holds. -/
structure KeptW (w : World) where
  v : World
  below : Below w.heap.size w v
theorem KeptW.cell {w : World} (x : KeptW w) {a : Addr} {u : Value} (h : w.cell? a = some u) : x.v.cell? a = some u := b_old x.below h
theorem KeptW.calls {P : Program} {w : World} {x : KeptW w} {f : FuncId} {args : Array Value} {u : Value} (h : Calls P f args x.v fun e w' => e = .returned u ∧ Below x.v.heap.size x.v w') :
    Calls P f args x.v fun e w' => e = .returned u ∧ ∃ y : KeptW w, w' = y.v :=
  h.mono fun _ w' ⟨he, hb⟩ => ⟨he, ⟨w', b_then x.below hb⟩, rfl⟩
theorem KeptW.calls_same {P : Program} {w : World} {x : KeptW w} {f : FuncId} {args : Array Value} {u : Value} (h : Calls P f args x.v fun e w' => e = .returned u ∧ w' = x.v) :
    Calls P f args x.v fun e w' => e = .returned u ∧ ∃ y : KeptW w, w' = y.v :=
  h.mono fun _ _ ⟨he, hb⟩ => ⟨he, x, hb⟩
theorem region_kept {P : Program} {id : Nat} {Q : Exit → Act → World → Prop} {a : Act} {w : World} {l : List Oper} (hm : P.follows .mixedOrders = true) (hB : Region.lexB .any l.toArray = true)
    (h : wpQuiet P l.toArray (fun w' => ∃ x : KeptW w, w' = x.v) (fun a' => ∀ w', (∃ x : KeptW w, w' = x.v) → Q .normal a' w') l a) : (Code.region id l.toArray true).wp P Q a w :=
  wp_region_quiet (C := fun w' => ∃ x : KeptW w, w' = x.v) hm hB ⟨⟨_, below_drew w⟩, rfl⟩ (by simpa using h)
theorem tail_kept {P : Program} {id : Nat} {Q : Exit → Act → World → Prop} {a : Act} {w : World} {l : List Oper} (n : Nat) (hm : P.follows .mixedOrders = true) (hB : Region.lexTailB .any l.toArray n = true)
    (h : wpQuiet P l.toArray (fun w' => ∃ x : KeptW w, w' = x.v) (fun a' => ∀ w', (∃ x : KeptW w, w' = x.v) → wpList P l.toArray Q (l.drop n) a' w') (l.take n) a) : (Code.region id l.toArray true).wp P Q a w :=
  quiet_tail n hm hB ⟨⟨_, below_drew w⟩, rfl⟩ h
end Go.Proofs.YtphoclgibnhjfaaGreat
namespace Go.Proofs.YtphoclgibnhjfaaGreat
open Go Go.RowKit
/-- Where the first blank of a text is, or -1. -/
def blankAt (s : ByteArray) : Int := Lib.indexByte s.data.toList 32
/-- What stands before the first blank of a text, and behind it. -/
def cutB (s : ByteArray) : ByteArray × ByteArray :=
  if blankAt s < 0 then (s, ⟨#[]⟩) else (s.extract 0 (blankAt s).toNat, s.extract ((blankAt s).toNat + 1) s.size)
theorem blank_cases (s : ByteArray) : (blankAt s = -1 ∧ ∀ i, i < s.size → s.data.toList[i]? ≠ some 32) ∨ ∃ k : Nat, blankAt s = k ∧ k < s.size ∧ s.data.toList[k]? = some 32 ∧ ∀ i, i < k → s.data.toList[i]? ≠ some 32 := by
  unfold blankAt
  have hg := Lib.indexByte_ge s.data.toList 32
  rcases Int.lt_or_le (Lib.indexByte s.data.toList 32) 0 with h | h
  · have e : Lib.indexByte s.data.toList 32 = -1 := by omega
    exact .inl ⟨e, fun i _ => Lib.indexByte_none e i⟩
  · obtain ⟨k, e⟩ := Int.eq_ofNat_of_zero_le h
    obtain ⟨h1, h2⟩ := Lib.indexByte_some e
    refine .inr ⟨k, e, ?_, h1, h2⟩
    have := (List.getElem?_eq_some_iff.1 h1).1
    simpa using this
set_option maxRecDepth 100000 in
theorem liteCut_any (s : ByteArray) (w : World) (hs : s.size ≤ 1000000) :
    Calls Tryz.prog 197 #[.string s, .string ⟨#[32]⟩] w fun e w' => e = .returned (.tuple #[.string (cutB s).1, .string (cutB s).2, .bool (decide (0 ≤ blankAt s))]) ∧ Below w.heap.size w w' := by
  have hix := fun w => Tryz.stringslite_Index_one s 32 w
  have hb1 : (ByteArray.mk #[32]).size = 1 := rfl
  rcases blank_cases s with ⟨h, -⟩ | ⟨k, h, hk, -⟩
  · have HC : Hid (cutB s = (s, ⟨#[]⟩)) := Lib.hid (by unfold cutB; rw [if_pos (by omega)])
    have HD : Hid (decide (0 ≤ blankAt s) = false) := Lib.hid (by rw [h]; rfl)
    rw [show Lib.indexByte s.data.toList 32 = -1 from h] at hix
    clear h
    go_enter Tryz.func197, Tryz.ntmps197
    go_wp2_with fail
    refine (hix _).mono ?_
    rintro e w1 ⟨rfl, rfl⟩
    go_wp2_with fail
    refine bodyPost_ret (v := .tuple #[.string s, .string ⟨#[]⟩, .bool false]) (by simp [results, Tryz.results197, go_sem]) rfl ⟨by rw [HC.out, HD.out], Below.refl _ _⟩
  · have HC : Hid (cutB s = (s.extract 0 k, s.extract (k + 1) s.size)) := Lib.hid (by unfold cutB; rw [if_neg (by omega), h]; rfl)
    have HD : Hid (decide (0 ≤ blankAt s) = true) := Lib.hid (by rw [h]; simp)
    rw [show Lib.indexByte s.data.toList 32 = k from h] at hix
    clear h
    go_enter Tryz.func197, Tryz.ntmps197
    go_wp2_with fail
    refine (hix _).mono ?_
    rintro e w1 ⟨rfl, rfl⟩
    go_wp2_with fail
    go_quiet (fail)
    go_wp2_with fail
    refine bodyPost_ret (v := .tuple #[.string (s.extract 0 k), .string (s.extract (k + 1) s.size), .bool true]) (by simp [results, Tryz.results197, go_sem]) rfl ⟨by rw [HC.out, HD.out], ?_⟩
    exact ⟨rfl, rfl, rfl, Nat.le_refl _, fun _ _ => rfl⟩
set_option maxRecDepth 100000 in
theorem Cut_any (s : ByteArray) (w : World) (hs : s.size ≤ 1000000) :
    Calls Tryz.prog 163 #[.string s, .string ⟨#[32]⟩] w fun e w' => e = .returned (.tuple #[.string (cutB s).1, .string (cutB s).2, .bool (decide (0 ≤ blankAt s))]) ∧ Below w.heap.size w w' := by
  have hc := fun w => liteCut_any s w hs
  generalize cutB s = p at *
  generalize decide (0 ≤ blankAt s) = f at *
  go_enter Tryz.func163, Tryz.ntmps163
  go_wp2_with fail
  refine (hc _).mono ?_
  rintro e w1 ⟨rfl, hb⟩
  go_wp2_with fail
  refine bodyPost_ret (v := .tuple #[.string p.1, .string p.2, .bool f]) (by simp [results, Tryz.results163, go_sem]) rfl ⟨rfl, hb⟩
/-- How many words a text has. -/
def nWords (s : ByteArray) : Nat := Lib.countByte s.data.toList 32 + 1
theorem countWords_any (s : ByteArray) (w : World) (hs : s.size ≤ 1000000) :
    Calls Tryz.prog 93 #[.string s] w fun e w' => e = .returned (.int .i64 (nWords s)) ∧ Below w.heap.size w w' := by
  have hn : Lib.countByte s.data.toList 32 ≤ 1000000 := Nat.le_trans (List.count_le_length) (by simpa using hs)
  have hc := fun w => Tryz.strings_Count_one s 32 w
  have HN : Hid (((nWords s : Nat) : Int) = (Lib.countByte s.data.toList 32 : Int) + 1) := Lib.hid (by unfold nWords; omega)
  generalize Lib.countByte s.data.toList 32 = k at *
  go_enter Tryz.func93, Tryz.ntmps93
  go_wp2_with fail
  refine (hc _).mono ?_
  rintro e w1 ⟨rfl, rfl⟩
  go_wp2_with fail
  go_ret
  exact ⟨by rw [HN.out]; rfl, Below.refl _ _⟩
/-- What is left of a text after some words, and the next word. -/
def restAt (s : ByteArray) : Nat → ByteArray
  | 0 => s
  | k + 1 => (cutB (restAt s k)).2
def cwAt (s : ByteArray) (k : Nat) : ByteArray := (cutB (restAt s k)).1
theorem cutB_size (s : ByteArray) : (cutB s).2.size ≤ s.size := by
  unfold cutB
  split
  · exact Nat.zero_le _
  · simp [ByteArray.size_extract]
theorem restAt_size (s : ByteArray) (k : Nat) : (restAt s k).size ≤ s.size := by
  induction k with
  | zero => exact Nat.le_refl _
  | succ k ih => exact Nat.le_trans (cutB_size _) ih
end Go.Proofs.YtphoclgibnhjfaaGreat
namespace Go.Proofs.YtphoclgibnhjfaaGreat
open Go Go.RowKit Go.ChangeMaps Go.MapKept
open Go.Maps (Keyed)
theorem keyStr : Keyed Tryz.prog 9 := Go.Maps.string_keyed Tryz.underlying9
theorem zero4 (w : World) : (zeroValue 4).run Tryz.prog w = .ok (.bool false) w := by kernel_rfl
/-- Block b is a map of at most n entries that has true at the strings of S, and false at all others. -/
def SeenM (w : World) (b n : Nat) (S : ByteArray → Bool) : Prop :=
  ∃ D : DataW Unit, w.ownsMap Tryz.prog 9 (plainElem Tryz.prog 4) b n D ∧ ∀ s : ByteArray, D.atKey (.string s.data.toList) (.lit (.bool false)) = .lit (.bool (S s))
theorem SeenM.made (w : World) : SeenM (w.alloc (.map #[] 0)) w.heap.size 0 (fun _ => false) :=
  ⟨.map [], World.ownsMap_made w _ _ _, fun _ => rfl⟩
theorem SeenM.grown {w w' : World} {b n : Nat} {S : ByteArray → Bool} {r : Option Nat} (h : SeenM w b n S) (hg : w.grownBy w' r) (hne : some b ≠ r) : SeenM w' b n S := by
  obtain ⟨D, hown, hat⟩ := h
  exact ⟨D, hown.kept hg hne, hat⟩
theorem grown_below {w w' : World} (hb : Below w.heap.size w w') : w.grownBy w' none := ⟨hb.os, hb.tape, hb.output, hb.size, fun i hi _ => hb.block i hi⟩
theorem SeenM.below {w w' : World} {b n : Nat} {S : ByteArray → Bool} (h : SeenM w b n S) (hb : Below w.heap.size w w') : SeenM w' b n S := h.grown (grown_below hb) (by simp)
theorem str_inj {s z : ByteArray} (h : s.data.toList = z.data.toList) : s = z := ByteArray.ext (Array.toList_inj.1 h)
theorem SeenM.look {w : World} {b n : Nat} {S : ByteArray → Bool} (h : SeenM w b n S) {s : ByteArray} (hs : s.size ≤ maxLen) :
    (Instr.lookup 244 (.map (some b)) (.string s) false).run Tryz.prog w = .ok (.bool (S s)) w := by
  obtain ⟨D, hown, hat⟩ := h
  obtain ⟨v, ps, hrun, hv⟩ := hown.lookup keyStr Tryz.underlying244 (zero4 _) (plainElem_bool Tryz.underlying4 false) (key := .string s) (Go.WideMaps.keyOf_string_mk Tryz.underlying9 hs)
  rw [hat s] at hv
  have hvb : v = .bool (S s) := by
    unfold plainElem at hv
    split at hv
    · simp only [Option.some.injEq, Prod.mk.injEq, DataW.lit.injEq, Lit.bool.injEq] at hv; rw [hv.1]
    all_goals first
      | (rename_i hu; rw [Tryz.underlying4] at hu; cases hu; done)
      | (cases hv; done)
  rw [← hvb]
  exact hrun
theorem SeenM.put {w' : World} {b n : Nat} {S : ByteArray → Bool} {D : DataW Unit} {s : ByteArray} (hat : ∀ s : ByteArray, D.atKey (.string s.data.toList) (.lit (.bool false)) = .lit (.bool (S s))) (hm : Go.Maps.IsMap D)
    (h : w'.ownsMap Tryz.prog 9 (plainElem Tryz.prog 4) b n (D.put (.string s.data.toList) (.lit (.bool true)))) : SeenM w' b n (fun z => if z = s then true else S z) := by
  refine ⟨_, h, fun z => ?_⟩
  by_cases e : z = s
  · subst e
    show _ = DataW.lit (.bool (if z = z then true else S z))
    rw [if_pos rfl]
    exact Go.Maps.atKey_put_same hm (by simp [WideAt.IsKeyLit]) _ _
  · show _ = DataW.lit (.bool (if z = s then true else S z))
    rw [if_neg e, Go.Maps.atKey_put_other (fun h => e (by injection h with h; exact str_inj h))]
    exact hat z
set_option maxRecDepth 100000 in
theorem once_any (c m n : Nat) (S : ByteArray → Bool) (s : ByteArray) (w : World) (hc : w.cell? ⟨c, 0, none⟩ = some (.map (some m))) (hS : SeenM w m n S) (hs : s.size ≤ maxLen) (hn : n < 1000) :
    Calls Tryz.prog 205 #[.string s, .pointer (some ⟨c, 0, none⟩)] w fun e w' => e = .returned (.int .i64 (unl (!(S s)) 9)) ∧ SeenM w' m (n + 1) (fun z => if z = s then true else S z) ∧ w.grownBy w' (some m) := by
  have hl := hS.look hs
  go_enter Tryz.func205, Tryz.ntmps205
  go_wp2_with fail
  refine (unless_any _ _ _).mono ?_
  rintro e w1 ⟨rfl, rfl⟩
  obtain ⟨D, hown, hat⟩ := hS
  have hmap := hown.isMap
  clear hl
  go_wp2_with (first
    | (at_mapUpdate; refine wpList_mapUpdate_own _ rfl _ _ _ 244 rfl 9 4 keyStr Tryz.underlying244 _ m n _ rfl hown (by unfold maxLen; omega) _ _ _ rfl rfl (Go.WideMaps.keyOf_string_mk Tryz.underlying9 hs) _ [] (plainElem_bool Tryz.underlying4 true) ?_)
    | fail)
  intro w2 hown2 hgrow2
  go_wp2_with fail
  go_ret
  exact ⟨rfl, SeenM.put hat hmap hown2, hgrow2⟩
/-- check.Once: a variable that holds a new map. -/
theorem Once_new (w : World) : Calls Tryz.prog 176 #[] w fun e w' => e = .returned (.func (.func 205) #[] #[.pointer (some ⟨w.heap.size + 1, 0, none⟩)]) ∧ SeenM w' w.heap.size 0 (fun _ => false) ∧ w'.cell? ⟨w.heap.size + 1, 0, none⟩ = some (.map (some w.heap.size)) ∧ Below w.heap.size w w' ∧ w'.heap.size = w.heap.size + 2 := by
  have hmm := @run_makeMap Tryz.prog
  go_enter Tryz.func176, Tryz.ntmps176
  go_wp2
  have e1 : (w.alloc (.map #[] 0)).heap.size = w.heap.size + 1 := by simp
  have hb2 := below_alloc2 w (.map #[] 0) (.cells #[.map (some w.heap.size)] 244)
  have hc := cell_fresh (w.alloc (.map #[] 0)) [.map (some w.heap.size)] 244 0 (.map (some w.heap.size)) rfl
  rw [e1] at hc
  go_ret
  exact ⟨rfl, (SeenM.made w).below (below_alloc _ _), hc, hb2, by simp⟩
/-- A string that is looked at: the error of a second one, and the strings so far. -/
def onceStep (S : ByteArray → Bool) (s : ByteArray) : ByteArray → Bool := fun z => if z = s then true else S z
/-- The first error of strings that are looked at, one after another. -/
def onceErr : List ByteArray → (ByteArray → Bool) → Int
  | [], _ => 0
  | s :: ss, S => if unl (!(S s)) 9 = 0 then onceErr ss (onceStep S s) else unl (!(S s)) 9
end Go.Proofs.YtphoclgibnhjfaaGreat
namespace Go.Proofs.YtphoclgibnhjfaaGreat
open Go.RowKit Go.Shelf
attribute [local go_sem] Oper.semAt_some
/-- What a loop body keeps for an iterator: its block. -/
def KpB (B : Nat) (W W' : World) : Prop := W'.heap[B]? = W.heap[B]? ∧ W.heap.size ≤ W'.heap.size
theorem KpB.refl (B : Nat) (W : World) : KpB B W W := ⟨rfl, Nat.le_refl _⟩
theorem KpB.trans {B : Nat} {W1 W2 W3 : World} (h : KpB B W1 W2) (k : KpB B W2 W3) : KpB B W1 W3 := ⟨k.1.trans h.1, Nat.le_trans h.2 k.2⟩
theorem KpB.of_below {B : Nat} {W W' : World} (h : Below (B + 1) W W') : KpB B W W' := ⟨h.block B (Nat.lt_succ_self B), h.size⟩
theorem KpB.cell {B o : Nat} {W W' : World} {v : Value} (h : KpB B W W') (hc : W.cell? ⟨B, o, none⟩ = some v) : W'.cell? ⟨B, o, none⟩ = some v := (World.cell?_of_block (w := W) (a := ⟨B, o, none⟩) h.1).trans hc
theorem fin_take (N k : Nat) (h : k < N) : (List.finRange N).take (k + 1) = (List.finRange N).take k ++ [⟨k, h⟩] := by
  rw [List.take_succ_eq_append_getElem (by simpa using h)]
  simp
set_option maxRecDepth 100000 in
set_option maxHeartbeats 1000000 in
theorem words1_in (n l Bn : Nat) (hn : 1 ≤ n) (s : ByteArray) (hs : s.size ≤ 1000000) (J Jx : List (Fin (nWords s)) → World → Prop) (W : World) (hbn : Bn < W.heap.size)
    (hJ : AbidesFrom W.heap.size J)
    (hY : ∀ pre (x : Fin (nWords s)) W1, J pre W1 → pre.length < nWords s → YieldAt Fence.wide (n - 1) Tryz.prog l #[.int .i64 x.1, .string (cwAt s x.1)] W1 fun e W' =>
      (e = .returned (.bool true) ∧ J (pre ++ [x]) W' ∧ KpB Bn W1 W') ∨ (e = .returned (.bool false) ∧ Jx (pre ++ [x]) W'))
    (c0 : W.cell? ⟨Bn, 0, none⟩ = some (.string s)) (h0 : J [] W) :
    CallsIn Fence.wide n Tryz.prog 162 #[.func (.yield l) #[] #[], .pointer (some ⟨Bn, 0, none⟩)] W fun e W' => (∃ v, e = .returned v) ∧
      ((∃ ys, ys = List.finRange (nWords s) ∧ J ys W') ∨ (∃ pre, pre <+: List.finRange (nWords s) ∧ Jx pre W')) := by
  have hcw := fun w => countWords_any s w hs
  have hct := fun k w => Cut_any (restAt s k) w (Nat.le_trans (restAt_size s k) hs)
  have HNB : Hid (nWords s ≤ 1000001) := Lib.hid (by
    have : Lib.countByte s.data.toList 32 ≤ s.size := Nat.le_trans (List.count_le_length) (by simp)
    unfold nWords; omega)
  have HW : Hid (∀ k, cutB (restAt s k) = (cwAt s k, restAt s (k + 1))) := Lib.hid fun k => rfl
  have HR0 : Hid (restAt s 0 = s) := Lib.hid rfl
  have HFT := Lib.hid (fin_take (nWords s))
  have HCT := Lib.hid hct
  clear hct
  generalize nWords s = N at *
  have hNB := HNB.out
  refine callsIn_of_wp Tryz.func162 rfl trivial ?_
  simp only [Tryz.ntmps162, List.size_toArray, List.length_cons, List.length_nil, Nat.reduceAdd, Nat.reduceSub, Array.replicate_succ, Array.replicate_zero, List.push_toArray, List.append_toArray, List.nil_append, List.cons_append]
  gi_wp2
  refine ⟨trivial, ?_⟩
  refine (callsIn_wide.2 (hcw _)).mono ?_
  rintro e w1 ⟨rfl, hb1⟩
  have hJ1 := hJ _ _ _ _ h0 (grown_below hb1) (fun r e => by cases e)
  have hk1 : KpB Bn W w1 := KpB.of_below (hb1.mono (by omega))
  have hsz1 : W.heap.size ≤ w1.heap.size := hb1.size
  clear hb1 hcw
  gi_wp2
  gi_loopw [3, 4, 5, 9] (fun v3 _ _ v9 wr => ∃ k : Nat, k ≤ N ∧ v9 = .int .i64 k ∧ v3 = .string (restAt s k) ∧ J ((List.finRange N).take k) wr ∧ KpB Bn W wr) (fun _ _ _ v9 _ => N - (intOf v9).toNat)
  case atStart => exact ⟨0, Nat.zero_le _, rfl, by rw [HR0.out], by simpa using hJ1, hk1⟩
  case round =>
    obtain ⟨k, hk, rfl, rfl, hJk, hbr⟩ := hrel
    have hsz := hbr.2
    by_cases hlt : k < N
    · have hc := HCT.out k wr
      rw [HW.out k] at hc
      have HTK := Lib.hid (HFT.out k hlt)
      have hlen : ((List.finRange N).take k).length < N := by simp; omega
      generalize restAt s k = rk at hc
      obtain ⟨rk1, hr1⟩ : ∃ r, restAt s (k + 1) = r := ⟨_, rfl⟩
      rw [hr1] at hc
      have HR1 := Lib.hid hr1
      clear hr1
      gi_wp2
      refine ⟨trivial, ?_⟩
      refine (callsIn_wide.2 hc).mono ?_
      rintro e w2 ⟨rfl, hb2⟩
      have hJ2 := hJ _ _ _ _ hJk (grown_below hb2) (fun r e => by cases e)
      have hbr2 : KpB Bn W w2 := hbr.trans (KpB.of_below (hb2.mono (by omega)))
      have hsz2 : W.heap.size ≤ w2.heap.size := Nat.le_trans hsz hb2.size
      clear hb2 hc
      obtain ⟨fn, tmps, assign, body, hy, hR⟩ := hY _ ⟨k, hlt⟩ w2 hJ2 hlen
      dsimp only at hy
      gi_wp2
      refine hR.mono ?_
      rintro e W3 (⟨rfl, hJ3, hk3⟩ | ⟨rfl, hJx3⟩)
      · gi_wp2
        go_roundw
        case rel => exact ⟨k + 1, by omega, by go_num, by rw [HR1.out], by rw [HTK.out]; exact hJ3, hbr2.trans hk3⟩
        case measure => simp [intOf]; omega
      · gi_wp2
        refine bodyPost_ret (results_none rfl _ _ _) rfl ?_
        exact ⟨⟨_, rfl⟩, .inr ⟨_, by rw [← HTK.out]; exact List.take_prefix _ _, hJx3⟩⟩
    · obtain rfl : k = N := by omega
      gi_wp2
      go_end0
      exact ⟨⟨_, rfl⟩, .inl ⟨_, rfl, by rw [List.take_of_length_le (by simp)] at hJk; exact hJk⟩⟩
/-- The iterator, for every loop body that keeps its block. -/
theorem words_stops (n : Nat) (hn : 1 ≤ n) (Bn : Nat) (s : ByteArray) (hs : s.size ≤ 1000000) (w : World) (hbn : Bn < w.heap.size) (c0 : w.cell? ⟨Bn, 0, none⟩ = some (.string s)) :
    SeqStopsK Fence.wide n Tryz.prog 162 #[.pointer (some ⟨Bn, 0, none⟩)] (fun x : Fin (nWords s) => #[Value.int .i64 x.1, .string (cwAt s x.1)]) (KpB Bn) (fun ys => ys = List.finRange (nWords s)) (fun pre => pre <+: List.finRange (nWords s)) (nWords s) w := fun l J Jx W hW hJ _ hY h0 =>
  words1_in n l Bn hn s hs J Jx W (Nat.lt_of_lt_of_le hbn hW.size) hJ hY (b_old hW c0) h0
theorem kpB_b {B : Nat} {w : World} (h : B < w.heap.size) (W : World) (l : Nat) (o o' : Obj) (hl : w.heap.size ≤ l) (ho : W.heap[l]? = some o) (h1 : o.isCells = false) (h2 : o.isWalk = false) : KpB B W (W.putObj l o') :=
  KpB.of_below (belowK_b (n₀ := B + 1) (w := w) h W l o o' hl ho h1 h2)
theorem wordsOf_any (s : ByteArray) (w : World) : Calls Tryz.prog 95 #[.string s] w fun e w' => e = .returned (.func (.func 162) #[] #[.pointer (some ⟨w.heap.size, 0, none⟩)]) ∧ w'.cell? ⟨w.heap.size, 0, none⟩ = some (.string s) ∧ w.heap.size < w'.heap.size ∧ Below w.heap.size w w' := by
  have hc := cell_fresh w [.string s] 9 0 (.string s) rfl
  have hz : w.heap.size < (w.alloc (.cells #[.string s] 9)).heap.size := by simp
  have HX := Lib.hid (And.intro hc (And.intro hz (below_alloc w (.cells #[.string s] 9))))
  clear hc hz
  go_enter Tryz.func95, Tryz.ntmps95
  go_wp2_with fail
  go_ret
  exact ⟨rfl, HX.out.1, HX.out.2.1, HX.out.2.2⟩
end Go.Proofs.YtphoclgibnhjfaaGreat
namespace Go.Proofs.YtphoclgibnhjfaaGreat
open Go Go.RowKit
def digN (c : Int) : Bool := decide (48 ≤ c) && decide (c ≤ 57)
def letN (c : Int) : Bool := (decide (65 ≤ c) && decide (c ≤ 90)) || (decide (97 ≤ c) && decide (c ≤ 122))
def nameC (i c : Nat) : Bool := letN c || (decide (i ≠ 0) && (digN c || decide (c = 95)))
def isName (s : ByteArray) : Prop := s.size ≠ 0 ∧ s.size ≤ 24 ∧ ∀ i, i < s.size → nameC i (byteAt s i) = true
instance (s : ByteArray) : Decidable (isName s) := by unfold isName; infer_instance
theorem name_bad {s : ByteArray} {i : Nat} (h : i < s.size) (hn : nameC i (byteAt s i) = false) : decide (isName s) = false :=
  decide_eq_false fun ⟨_, _, h3⟩ => by rw [h3 i h] at hn; cases hn
theorem nameC_true {i c : Nat} (h : nameC i c = true) : letN c = true ∨ (letN c = false ∧ i ≠ 0 ∧ (digN c = true ∨ (digN c = false ∧ c = 95))) := by
  unfold nameC at h
  cases h1 : letN c
  · right
    rw [h1] at h
    simp only [Bool.false_or, Bool.and_eq_true, decide_eq_true_eq, Bool.or_eq_true] at h
    refine ⟨rfl, h.1, ?_⟩
    cases h2 : digN c
    · right; rw [h2] at h; exact ⟨rfl, h.2.resolve_left (by simp)⟩
    · exact .inl rfl
  · exact .inl rfl
theorem nameC_false {i c : Nat} (h : nameC i c = false) : letN c = false ∧ (i = 0 ∨ (i ≠ 0 ∧ digN c = false ∧ c ≠ 95)) := by
  unfold nameC at h
  rw [Bool.or_eq_false_iff] at h
  refine ⟨h.1, ?_⟩
  by_cases hi : i = 0
  · exact .inl hi
  · right
    have h2 := h.2
    rw [decide_eq_true hi, Bool.true_and, Bool.or_eq_false_iff] at h2
    exact ⟨hi, h2.1, of_decide_eq_false h2.2⟩
theorem name_high {c r : Nat} (i : Nat) (hc : 128 ≤ c) (hr : 128 ≤ r) : nameC i c = false ∧ letN r = false ∧ digN r = false ∧ r ≠ 95 := by
  refine ⟨?_, ?_, ?_, by omega⟩
  · unfold nameC letN digN
    rw [decide_eq_false (show ¬ ((c : Int) ≤ 90) by omega), decide_eq_false (show ¬ ((c : Int) ≤ 122) by omega), decide_eq_false (show ¬ ((c : Int) ≤ 57) by omega), decide_eq_false (show ¬ (c = 95) by omega)]
    simp
  · unfold letN
    rw [decide_eq_false (show ¬ ((r : Int) ≤ 90) by omega), decide_eq_false (show ¬ ((r : Int) ≤ 122) by omega)]
    simp
  · unfold digN
    rw [decide_eq_false (show ¬ ((r : Int) ≤ 57) by omega)]
    simp
theorem isLetter_any (r : Int) (w : World) :
    Calls Tryz.prog 207 #[.int .i32 r] w fun e w' => e = .returned (.bool (letN r)) ∧ w' = w := by
  have HL : Hid (letN r = ((decide (65 ≤ r) && decide (r ≤ 90)) || (decide (97 ≤ r) && decide (r ≤ 122)))) := Lib.hid rfl
  cases h1 : decide (65 ≤ r) <;> cases h2 : decide (r ≤ 90) <;> cases h3 : decide (97 ≤ r) <;> cases h4 : decide (r ≤ 122)
  all_goals
    have HB : Hid (letN r = _) := Lib.hid (by rw [HL.out, h1, h2, h3, h4])
    go_enter Tryz.func207, Tryz.ntmps207
    go_wp2
    go_ret
    exact ⟨by rw [HB.out]; rfl, rfl⟩
theorem isDig_any (r : Int) (w : World) :
    Calls Tryz.prog 208 #[.int .i32 r] w fun e w' => e = .returned (.bool (digN r)) ∧ w' = w := by
  have HL : Hid (digN r = (decide (48 ≤ r) && decide (r ≤ 57))) := Lib.hid rfl
  cases h1 : decide (48 ≤ r) <;> cases h2 : decide (r ≤ 57)
  all_goals
    have HB : Hid (digN r = _) := Lib.hid (by rw [HL.out, h1, h2])
    go_enter Tryz.func208, Tryz.ntmps208
    go_wp2
    go_ret
    exact ⟨by rw [HB.out]; rfl, rfl⟩
theorem letter_is {r : Int} {b : Bool} (h : letN r = b) (w : World) : Calls Tryz.prog 207 #[.int .i32 r] w fun e w' => e = .returned (.bool b) ∧ w' = w := h ▸ isLetter_any r w
theorem dig_is {r : Int} {b : Bool} (h : digN r = b) (w : World) : Calls Tryz.prog 208 #[.int .i32 r] w fun e w' => e = .returned (.bool b) ∧ w' = w := h ▸ isDig_any r w
set_option maxRecDepth 100000 in
set_option maxHeartbeats 1000000 in
theorem isName_any (s : ByteArray) (w : World) :
    Calls Tryz.prog 182 #[.string s] w fun e w' => e = .returned (.bool (decide (isName s))) ∧ Below w.heap.size w w' := by
  by_cases h0 : s.size = 0
  · have HN : Hid (decide (isName s) = false) := Lib.hid (decide_eq_false fun h => h.1 h0)
    have hb : ((s.size : Int) == 0) = true := by simp [h0]
    clear h0
    go_enter Tryz.func182, Tryz.ntmps182
    go_wp2_with fail
    go_ret
    exact ⟨by rw [HN.out]; rfl, Below.refl _ _⟩
  · have hb : ((s.size : Int) == 0) = false := by rw [beq_eq_false_iff_ne]; omega
    by_cases h24 : s.size ≤ 24
    · have hb2 : decide ((24 : Int) < s.size) = false := decide_eq_false (by omega)
      have HS : Hid (s.size ≠ 0 ∧ s.size ≤ 24) := Lib.hid ⟨h0, h24⟩
      clear h0 h24
      go_enter Tryz.func182, Tryz.ntmps182
      go_wp2_with fail
      obtain ⟨W, hW, hb0, hit0⟩ : ∃ W, w.iter s 0 = W ∧ Below w.heap.size w W ∧ W.heap[w.heap.size]? = some (.stringIter s 0) := ⟨_, rfl, below_alloc _ _, World.iter_heap w s 0⟩
      rw [hW]
      clear hW
      go_loopw [] (fun wr => ∃ pos : Nat, pos ≤ s.size ∧ Hid (∀ i, i < pos → nameC i (byteAt s i) = true) ∧ Below w.heap.size w wr ∧ wr.heap[w.heap.size]? = some (.stringIter s pos)) (fun wr => s.size - wr.iterPos w.heap.size)
      case atStart => exact ⟨0, Nat.zero_le _, Lib.hid (fun i hi => absurd hi (Nat.not_lt_zero _)), hb0, hit0⟩
      case round =>
        obtain ⟨pos, hps, HP, hbr, hit⟩ := hrel
        by_cases hp : pos < s.size
        · obtain ⟨r, p2, hnx0, hlo, hhi, hr2⟩ := next_byte (P := Tryz.prog) wr w.heap.size pos s hit hp
          obtain ⟨W2, hnx, hb2', hit2⟩ : ∃ W2, (∀ ty, (Instr.next (.pointer (some ⟨w.heap.size, 0, none⟩)) true ty).run Tryz.prog wr = .ok (.tuple #[.bool true, .int .i64 pos, .int .i32 r]) W2) ∧ Below w.heap.size w W2 ∧ W2.heap[w.heap.size]? = some (.stringIter s p2) :=
            ⟨_, hnx0, hbr.trans (nb_below _ _ _ _), Lib.iterAt_heap _ _ _ _ _ hit⟩
          clear hnx0
          have hmu : wr.iterPos w.heap.size = pos := by simp [World.iterPos, hit]
          have hmu2 : W2.iterPos w.heap.size = p2 := by simp [World.iterPos, hit2]
          have HMU := Lib.hid hmu; have HMU2 := Lib.hid hmu2
          clear hmu hmu2 hit
          cases hok : nameC pos (byteAt s pos)
          · have HB : Hid (decide (isName s) = false) := Lib.hid (name_bad hp hok)
            have hbad : letN r = false ∧ (pos = 0 ∨ (pos ≠ 0 ∧ digN r = false ∧ r ≠ 95)) := by
              by_cases hc : byteAt s pos < 128
              · rw [(hlo hc).1]; exact nameC_false hok
              · obtain ⟨-, a, b, c⟩ := name_high pos (show 128 ≤ byteAt s pos by omega) (hhi (by omega))
                refine ⟨a, ?_⟩
                by_cases h : pos = 0
                · exact .inl h
                · exact .inr ⟨h, b, c⟩
            obtain ⟨HL, h | ⟨h, HD, h95⟩⟩ := hbad
            · subst h
              have HL := Lib.hid HL
              clear hlo hhi hok
              go_wp2_with (go_at_call 207; refine (letter_is HL.out _).mono ?_; rintro e w' ⟨rfl, hw⟩; rw [hw]; clear hw)
              go_ret
              exact ⟨by rw [HB.out]; rfl, hb2'⟩
            · have HL := Lib.hid HL
              have HD := Lib.hid HD
              have hz : ((pos : Int) == 0) = false := by rw [beq_eq_false_iff_ne]; omega
              have hq : ((r : Int) == 95) = false := by rw [beq_eq_false_iff_ne]; omega
              clear hlo hhi hok h h95
              go_wp2_with (first | (go_at_call 207; refine (letter_is HL.out _).mono ?_; rintro e w' ⟨rfl, hw⟩; rw [hw]; clear hw) | (go_at_call 208; refine (dig_is HD.out _).mono ?_; rintro e w' ⟨rfl, hw⟩; rw [hw]; clear hw))
              go_ret
              exact ⟨by rw [HB.out]; rfl, hb2'⟩
          · have hc : byteAt s pos < 128 := by
              rcases Nat.lt_or_ge (byteAt s pos) 128 with h | h
              · exact h
              · rw [(name_high pos h (hhi h)).1] at hok; cases hok
            obtain ⟨hr, hp2⟩ := hlo hc
            subst hr hp2
            have HP2 : Hid (∀ i, i < pos + 1 → nameC i (byteAt s i) = true) := Lib.hid (fun i hi => by
              rcases Nat.lt_or_ge i pos with h | h
              · exact HP.out i h
              · obtain rfl : i = pos := by omega
                exact hok)
            have hcs := nameC_true hok
            generalize byteAt s pos = r at *
            clear hlo hhi hok hc
            rcases hcs with HL | ⟨HL, h, HD | ⟨HD, h95⟩⟩
            · have HL := Lib.hid HL
              go_wp2_with (go_at_call 207; refine (letter_is HL.out _).mono ?_; rintro e w' ⟨rfl, hw⟩; rw [hw]; clear hw)
              go_roundw
              case rel => exact ⟨pos + 1, by omega, HP2, hb2', hit2⟩
              case measure => rw [HMU.out, HMU2.out]; omega
            · have HL := Lib.hid HL
              have HD := Lib.hid HD
              have hz : ((pos : Int) == 0) = false := by rw [beq_eq_false_iff_ne]; omega
              clear h
              go_wp2_with (first | (go_at_call 207; refine (letter_is HL.out _).mono ?_; rintro e w' ⟨rfl, hw⟩; rw [hw]; clear hw) | (go_at_call 208; refine (dig_is HD.out _).mono ?_; rintro e w' ⟨rfl, hw⟩; rw [hw]; clear hw))
              go_roundw
              case rel => exact ⟨pos + 1, by omega, HP2, hb2', hit2⟩
              case measure => rw [HMU.out, HMU2.out]; omega
            · have HL := Lib.hid HL
              have HD := Lib.hid HD
              have hz : ((pos : Int) == 0) = false := by rw [beq_eq_false_iff_ne]; omega
              have hq : ((r : Int) == 95) = true := by simp [h95]
              clear h h95
              go_wp2_with (first | (go_at_call 207; refine (letter_is HL.out _).mono ?_; rintro e w' ⟨rfl, hw⟩; rw [hw]; clear hw) | (go_at_call 208; refine (dig_is HD.out _).mono ?_; rintro e w' ⟨rfl, hw⟩; rw [hw]; clear hw))
              go_roundw
              case rel => exact ⟨pos + 1, by omega, HP2, hb2', hit2⟩
              case measure => rw [HMU.out, HMU2.out]; omega
        · obtain rfl : pos = s.size := by omega
          have HB : Hid (decide (isName s) = true) := Lib.hid (decide_eq_true ⟨HS.out.1, HS.out.2, HP.out⟩)
          have hnx : ∀ ty, (Instr.next (.pointer (some ⟨w.heap.size, 0, none⟩)) true ty).run Tryz.prog wr = _ := fun ty => Lib.run_next_end_at wr w.heap.size s s.size ty hit hp
          go_wp2_with fail
          go_ret
          exact ⟨by rw [HB.out]; rfl, hbr⟩
    · have HN : Hid (decide (isName s) = false) := Lib.hid (decide_eq_false fun h => h24 h.2.1)
      have hb2 : decide ((24 : Int) < s.size) = true := decide_eq_true (by omega)
      clear h24 h0
      go_enter Tryz.func182, Tryz.ntmps182
      go_wp2_with fail
      go_ret
      exact ⟨by rw [HN.out]; rfl, Below.refl _ _⟩
theorem cIsName_any (s : ByteArray) (w : World) :
    Calls Tryz.prog 143 #[.string s] w fun e w' => e = .returned (.bool (decide (isName s))) ∧ Below w.heap.size w w' := by
  go_enter Tryz.func143, Tryz.ntmps143
  go_wp2_with fail
  refine (isName_any _ _).mono ?_
  rintro e w1 ⟨rfl, hb⟩
  go_wp2_with fail
  go_ret
  exact ⟨rfl, hb⟩
end Go.Proofs.YtphoclgibnhjfaaGreat
namespace Go.Proofs.YtphoclgibnhjfaaGreat
open Go Go.RowKit
def nameE (s : ByteArray) : Int := unl (decide (isName s)) 8
theorem CName_any (s : ByteArray) (w : World) : Calls Tryz.prog 130 #[.string s] w fun r w' => r = .returned (.int .i64 (nameE s)) ∧ Below w.heap.size w w' := by
  go_enter Tryz.func130, Tryz.ntmps130
  go_wp2_with fail
  refine (isName_any _ _).mono ?_
  rintro e w1 ⟨rfl, hb⟩
  go_wp2_with fail
  refine (unless_any _ _ _).mono ?_
  rintro e w2 ⟨rfl, rfl⟩
  go_wp2_with fail
  go_ret
  exact ⟨rfl, hb⟩
def optE (s : ByteArray) : Int := unl (s.toList == [] || decide (isName s)) 8
theorem COpt_any (s : ByteArray) (w : World) : Calls Tryz.prog 179 #[.string s] w fun r w' => r = .returned (.int .i64 (optE s)) ∧ Below w.heap.size w w' := by
  cases h : (s.toList == [])
  · have HO : Hid (optE s = unl (decide (isName s)) 8) := Lib.hid (by unfold optE; rw [h]; rfl)
    go_enter Tryz.func179, Tryz.ntmps179
    go_wp2_with fail
    refine (isName_any _ _).mono ?_
    rintro e w1 ⟨rfl, hb⟩
    go_wp2_with fail
    refine (unless_any _ _ _).mono ?_
    rintro e w2 ⟨rfl, rfl⟩
    go_wp2_with fail
    go_ret
    exact ⟨by rw [HO.out]; rfl, hb⟩
  · have HO : Hid (optE s = 0) := Lib.hid (by unfold optE; rw [h]; rfl)
    go_enter Tryz.func179, Tryz.ntmps179
    go_wp2_with fail
    refine (unless_t _ _).mono ?_
    rintro e w2 ⟨rfl, rfl⟩
    go_wp2_with fail
    go_ret
    exact ⟨by rw [HO.out]; rfl, Below.refl _ _⟩
def isKindB (s : ByteArray) : Bool := s.toList == [65] || s.toList == [68]
theorem CIsKind_any (s : ByteArray) (w : World) : Calls Tryz.prog 146 #[.string s] w fun r w' => r = .returned (.bool (isKindB s)) ∧ w' = w := by
  cases h1 : (s.toList == [65])
  · have HK : Hid (isKindB s = (s.toList == [68])) := Lib.hid (by unfold isKindB; rw [h1]; rfl)
    go_enter Tryz.func146, Tryz.ntmps146
    go_wp2_with fail
    go_ret
    exact ⟨by rw [HK.out]; rfl, rfl⟩
  · have HK : Hid (isKindB s = true) := Lib.hid (by unfold isKindB; rw [h1]; rfl)
    go_enter Tryz.func146, Tryz.ntmps146
    go_wp2_with fail
    go_ret
    exact ⟨by rw [HK.out]; rfl, rfl⟩
def kindE (s : ByteArray) : Int := unl (isKindB s) 13
theorem CKind_any (s : ByteArray) (w : World) : Calls Tryz.prog 180 #[.string s] w fun r w' => r = .returned (.int .i64 (kindE s)) ∧ w' = w := by
  go_enter Tryz.func180, Tryz.ntmps180
  go_wp2_with fail
  refine (CIsKind_any _ _).mono ?_
  rintro e w1 ⟨rfl, rfl⟩
  go_wp2_with fail
  refine (unless_any _ _ _).mono ?_
  rintro e w2 ⟨rfl, rfl⟩
  go_wp2_with fail
  go_ret
  exact ⟨rfl, rfl⟩
theorem CMinute_any (n : Int) (w : World) : Calls Tryz.prog 97 #[.int .i64 n] w fun r w' => r = .returned (.int .i64 (rng n 0 1439)) ∧ w' = w := by
  go_enter Tryz.func97, Tryz.ntmps97
  go_wp2_with fail
  refine (checkRange_any _ _ _ _).mono ?_
  rintro e w' ⟨rfl, rfl⟩
  go_wp2_with fail
  go_ret
  exact ⟨rfl, rfl⟩
end Go.Proofs.YtphoclgibnhjfaaGreat
namespace Go.Proofs.YtphoclgibnhjfaaGreat
open Go.RowKit
def inM (m d : Int) : Bool := decide (m / 2 ^ (Cal.wd d).toNat % 2 = 1)
def hasB (a b m d : Int) : Bool := decide (a ≤ d) && decide (d ≤ b) && inM m d
theorem and1 (x : Int) (h0 : 0 ≤ x) (h1 : x ≤ 127) : bits BinOp.and IntKind.i64 x 1 = x % 2 := by
  obtain ⟨n, rfl⟩ := Int.eq_ofNat_of_zero_le h0
  rw [and_one n (by omega)]; rfl
theorem inM_bits (m d : Int) (h0 : 0 ≤ m) (h1 : m ≤ 127) : (bits BinOp.and IntKind.i64 (m / 2 ^ (Cal.wd d).toNat) 1 == 1) = inM m d := by
  have hq : 0 ≤ m / 2 ^ (Cal.wd d).toNat := Int.ediv_nonneg h0 (by exact_mod_cast Nat.zero_le _)
  have hq2 : m / 2 ^ (Cal.wd d).toNat ≤ m := Int.ediv_le_self _ h0
  rw [and1 _ hq (by omega)]
  unfold inM
  rw [Bool.eq_iff_iff]; simp
end Go.Proofs.YtphoclgibnhjfaaGreat
