/- The first test of chapter 2 by the evaluator: tables. · Contracts of package message and of the reference: minutes are printed (two digits at a time, by the evaluator), and numbers of four digits are read. · Contracts of package message: a number of four digits is read; a minute is read. · The first test of chapter 2 by the evaluator: small calls. · The first test of chapter 2 by the evaluator: lines. · The first test of chapter 2 by the evaluator: lines read. · The first test of chapter 2 by the evaluator: headers. -/
import Derived.Test.YtphoclgibnhjfaaGreatPm5
import Derived.Test.YtphoclgibnhjfaaGreatProg
import Derived.Lib.Join
import Derived.Lib.Bytealg
import Derived.Test.YtphoclgibnhjfaaGreatPm1
namespace Go.Proofs.YtphoclgibnhjfaaGreat
open Go Go.RowKit Ev
def nI (a : Int) : Value := .int .i64 a
def rX : Array Value := #[.string ⟨#[113, 49]⟩, .string ⟨#[97, 98]⟩, .string ⟨#[65]⟩, .string ⟨#[116, 49]⟩, .string ⟨#[102, 97, 114]⟩, .string ⟨#[]⟩, nI 8900, nI 8920, nI 5, nI 605, nI 180, nI 4, nI 12]
def rL : Array Value := #[.string ⟨#[113, 49]⟩, .string ⟨#[97, 98]⟩, .string ⟨#[65]⟩, .string ⟨#[116, 49]⟩, .string ⟨#[102, 97, 114]⟩, .string ⟨#[]⟩, nI 8900, nI 8920, nI 5, nI 615, nI 180, nI 4, nI 12]
def rO : Array Value := #[.string ⟨#[113, 50]⟩, .string ⟨#[97, 98]⟩, .string ⟨#[65]⟩, .string ⟨#[116, 49]⟩, .string ⟨#[102, 97, 114]⟩, .string ⟨#[]⟩, nI 8900, nI 8920, nI 5, nI 605, nI 180, nI 4, nI 12]
def txt : Value := .string ⟨#[78, 32, 97, 98, 32, 113, 49, 32, 65, 32, 102, 97, 114, 32, 48, 56, 57, 48, 48, 32, 48, 56, 57, 50, 48, 32, 49, 48, 51, 48, 48, 48, 48, 32, 49, 48, 48, 53, 32, 49, 56, 48, 32, 52, 32, 49, 50, 32, 116, 49, 32, 45]⟩
def lst2 : Lst := []
def gN2 : Nat := 16
def noOrc : Orc := fun _ _ _ => none
def tblA : TblS := [(130, #[.string ⟨#[113, 49]⟩], [], nI 0),
  (130, #[.string ⟨#[97, 98]⟩], [], nI 0),
  (130, #[.string ⟨#[102, 97, 114]⟩], [], nI 0),
  (130, #[.string ⟨#[113, 50]⟩], [], nI 0),
  (130, #[.string ⟨#[104, 101, 114, 101]⟩], [], nI 0),
  (179, #[.string ⟨#[116, 49]⟩], [], nI 0),
  (179, #[.string ⟨#[]⟩], [], nI 0),
  (182, #[.string ⟨#[113, 49]⟩], [], .bool true),
  (182, #[.string ⟨#[97, 98]⟩], [], .bool true),
  (182, #[.string ⟨#[102, 97, 114]⟩], [], .bool true),
  (182, #[.string ⟨#[116, 49]⟩], [], .bool true),
  (182, #[.string ⟨#[113, 50]⟩], [], .bool true),
  (182, #[.string ⟨#[104, 101, 114, 101]⟩], [], .bool true),
  (180, #[.string ⟨#[65]⟩], [], nI 0),
  (97, #[nI 605], [], nI 0),
  (97, #[nI 615], [], nI 0),
  (181, #[.agg #[nI 8900, nI 8920, nI 5]], [], nI 0),
  (138, #[.string ⟨#[78]⟩], [], .bool true),
  (138, #[.string ⟨#[67]⟩], [], .bool true),
  (138, #[.string ⟨#[82]⟩], [], .bool true),
  (138, #[.string ⟨#[68]⟩], [], .bool true),
  (138, #[.string ⟨#[79]⟩], [], .bool true)]
def tblD : TblS := [(98, #[nI 8900, nI 5], [], .string ⟨#[48, 56, 57, 48, 48]⟩),
  (98, #[nI 8920, nI 5], [], .string ⟨#[48, 56, 57, 50, 48]⟩),
  (98, #[nI 10, nI 2], [], .string ⟨#[49, 48]⟩),
  (98, #[nI 5, nI 2], [], .string ⟨#[48, 53]⟩),
  (98, #[nI 180, nI 3], [], .string ⟨#[49, 56, 48]⟩),
  (98, #[nI 4, nI 1], [], .string ⟨#[52]⟩),
  (98, #[nI 12, nI 2], [], .string ⟨#[49, 50]⟩),
  (98, #[nI 8800, nI 5], [], .string ⟨#[48, 56, 56, 48, 48]⟩),
  (98, #[nI 1, nI 2], [], .string ⟨#[48, 49]⟩)]
def tblN : TblS := [(96, #[.string ⟨#[48, 56, 57, 48, 48]⟩, nI 5], [], .tuple #[nI 8900, .bool true]),
  (96, #[.string ⟨#[48, 56, 57, 50, 48]⟩, nI 5], [], .tuple #[nI 8920, .bool true]),
  (96, #[.string ⟨#[49, 48, 48, 53]⟩, nI 4], [], .tuple #[nI 1005, .bool true]),
  (96, #[.string ⟨#[49, 56, 48]⟩, nI 3], [], .tuple #[nI 180, .bool true]),
  (96, #[.string ⟨#[52]⟩, nI 1], [], .tuple #[nI 4, .bool true]),
  (96, #[.string ⟨#[49, 50]⟩, nI 2], [], .tuple #[nI 12, .bool true]),
  (96, #[.string ⟨#[48, 56, 56, 48, 48]⟩, nI 5], [], .tuple #[nI 8800, .bool true]),
  (96, #[.string ⟨#[48, 49]⟩, nI 2], [], .tuple #[nI 1, .bool true]),
  (96, #[.string ⟨#[48, 50]⟩, nI 2], [], .tuple #[nI 2, .bool true]),
  (96, #[.string ⟨#[50, 48, 50, 52]⟩, nI 4], [], .tuple #[nI 2024, .bool true]),
  (96, #[.string ⟨#[48, 48, 48, 53]⟩, nI 4], [], .tuple #[nI 5, .bool true]),
  (96, #[.string ⟨#[50, 52, 48, 48]⟩, nI 4], [], .tuple #[nI 2400, .bool true])]
def tblB : TblS := [(125, #[.agg rX], [], nI 0),
  (125, #[.agg rL], [], nI 0),
  (125, #[.agg rO], [], nI 0)]
def tblC : TblS := [(92, #[.agg (#[.string ⟨#[78]⟩] ++ rX)], [], nI 0),
  (92, #[.agg (#[.string ⟨#[67]⟩] ++ rX)], [], nI 0),
  (92, #[.agg (#[.string ⟨#[82]⟩] ++ rL)], [], nI 0),
  (92, #[.agg (#[.string ⟨#[68]⟩] ++ rX)], [], nI 0),
  (92, #[.agg (#[.string ⟨#[79]⟩] ++ rL)], [], nI 0)]
def tblM : TblS := [(45, #[nI 605], [], .tuple #[.string ⟨#[49, 48, 48, 53]⟩, nI 0]),
  (44, #[.string ⟨#[48, 48, 48, 53]⟩], [], .tuple #[nI 5, nI 0]),
  (44, #[.string ⟨#[50, 52, 48, 48]⟩], [], .tuple #[nI 0, nI 25]),
  (44, #[.string ⟨#[49, 48, 48, 53]⟩], [], .tuple #[nI 605, nI 0]),
  (153, #[nI 5], [], .tuple #[.string ⟨#[49, 48, 51, 48, 48, 48, 48]⟩, nI 0]),
  (154, #[.string ⟨#[49, 48, 51, 48, 48, 48, 48]⟩], [], .tuple #[nI 5, nI 0])]
def tblP : TblS := [(88, #[.agg (#[.string ⟨#[78]⟩] ++ rX)], [], txt)]
def tblR : TblS := [(43, #[txt], [], .tuple #[.agg (#[.string ⟨#[78]⟩] ++ rX), nI 0, nI 0])]
def tblH : TblS := [(107, #[.string ⟨#[83, 76, 79, 84, 83, 32, 82, 69, 81, 32, 104, 101, 114, 101, 32, 83, 50, 48, 50, 52, 32, 48, 56, 56, 48, 48]⟩], [], .tuple #[.agg #[.string ⟨#[82, 69, 81]⟩, .string ⟨#[104, 101, 114, 101]⟩, .string ⟨#[83, 50, 48, 50, 52]⟩, nI 8800, .slice none 0 0], nI 0]),
  (108, #[txt], [], .bool false),
  (108, #[.string ⟨#[69, 78, 68, 32, 48, 49]⟩], [], .bool true),
  (108, #[.string ⟨#[69, 78, 68, 32, 48, 50]⟩], [], .bool true),
  (109, #[.string ⟨#[69, 78, 68, 32, 48, 49]⟩, nI 1], [], nI 0),
  (109, #[.string ⟨#[69, 78, 68, 32, 48, 50]⟩, nI 1], [], nI 27)]
def sl (k n c : Nat) : Value := .slice (some ⟨gN2 + k, 0, none⟩) n c
def rOne : TypeId × Array Value := (88, #[.string ⟨#[78]⟩] ++ rX)
def rTwo : TypeId × Array Value := (88, #[.string ⟨#[67]⟩] ++ rX ++ #[.string ⟨#[82]⟩] ++ rL)
def rThree : TypeId × Array Value := (88, #[.string ⟨#[68]⟩] ++ rX)
def msg (l : Value) : Value := .agg #[.string ⟨#[82, 69, 81]⟩, .string ⟨#[104, 101, 114, 101]⟩, .string ⟨#[83, 50, 48, 50, 52]⟩, nI 8800, l]
def tblQ : TblS := [(41, #[msg (sl 0 1 1)], [rOne], .tuple #[.string ⟨#[83, 76, 79, 84, 83, 32, 82, 69, 81, 32, 104, 101, 114, 101, 32, 83, 50, 48, 50, 52, 32, 48, 56, 56, 48, 48, 10, 78, 32, 97, 98, 32, 113, 49, 32, 65, 32, 102, 97, 114, 32, 48, 56, 57, 48, 48, 32, 48, 56, 57, 50, 48, 32, 49, 48, 51, 48, 48, 48, 48, 32, 49, 48, 48, 53, 32, 49, 56, 48, 32, 52, 32, 49, 50, 32, 116, 49, 32, 45, 10, 69, 78, 68, 32, 48, 49, 10]⟩, nI 0]),
  (63, #[msg (sl 0 1 1), msg (sl 0 1 1), msg (sl 0 1 1)], [rOne], nI 0),
  (63, #[msg (sl 0 1 1), msg (sl 0 1 1), msg (sl 1 2 2)], [rOne, rTwo], nI 0)]
def tblQ3 : TblS := [(63, #[msg (sl 0 1 1), msg (sl 1 2 2), msg (sl 2 1 1)], [rOne, rTwo, rThree], nI 0),
  (13, #[.string ⟨#[83, 76, 79, 84, 83, 32, 82, 69, 81, 32, 104, 101, 114, 101, 32, 83, 50, 48, 50, 52, 32, 48, 56, 56, 48, 48, 10, 78, 32, 97, 98, 32, 113, 49, 32, 65, 32, 102, 97, 114, 32, 48, 56, 57, 48, 48, 32, 48, 56, 57, 50, 48, 32, 49, 48, 51, 48, 48, 48, 48, 32, 49, 48, 48, 53, 32, 49, 56, 48, 32, 52, 32, 49, 50, 32, 116, 49, 32, 45, 10, 69, 78, 68, 32, 48, 50, 10]⟩], [], .tuple #[.agg #[.string ⟨#[]⟩, .string ⟨#[]⟩, .string ⟨#[]⟩, nI 0, .slice none 0 0], nI 2, nI 27]),
  (13, #[.string ⟨#[83, 76, 79, 84, 83, 32, 82, 69, 81, 32, 104, 101, 114, 101, 32, 83, 50, 48, 50, 52, 32, 48, 56, 56, 48, 48, 10, 78, 32, 97, 98, 32, 113, 49, 32, 65, 32, 102, 97, 114, 32, 48, 56, 57, 48, 48, 32, 48, 56, 57, 50, 48, 32, 49, 48, 51, 48, 48, 48, 48, 32, 49, 48, 48, 53, 32, 49, 56, 48, 32, 52, 32, 49, 50, 32, 116, 49, 32, 45, 10]⟩], [], .tuple #[.agg #[.string ⟨#[]⟩, .string ⟨#[]⟩, .string ⟨#[]⟩, nI 0, .slice none 0 0], nI 2, nI 28])]
def rX1 : TypeId × Array Value := (84, rX)
def rLO : TypeId × Array Value := (84, rL ++ rO)
def rRes : TypeId × Array Value := (113, #[.string ⟨#[113, 49]⟩, .bool true, nI 615])
def tblT : TblS := [(76, #[.agg #[.string ⟨#[65, 78, 83]⟩, .string ⟨#[104, 101, 114, 101]⟩, .string ⟨#[83, 50, 48, 50, 52]⟩, nI 8801, .slice none 0 0]], [], nI 0),
  (76, #[.agg #[.string ⟨#[82, 69, 81]⟩, .string ⟨#[104, 101, 114, 101]⟩, .string ⟨#[83, 50, 48, 50, 52]⟩, nI 8800, .slice none 0 0]], [], nI 0),
  (68, #[sl 0 1 1], [rX1], nI 0),
  (68, #[sl 0 2 2], [rLO], nI 0),
  (102, #[sl 0 1 1], [rRes], nI 0),
  (77, #[sl 0 1 1, sl 1 1 1], [rX1, rRes], nI 0)]
def takeS : List Value → Option (List ByteArray)
  | [] => some []
  | .string s :: l => (takeS l).map (s :: ·)
  | _ => none
def orcStr : Orc := fun h f args => bif Nat.beq f 90 then (match args with
    | ⟨[.slice (some ⟨k, o, none⟩) n c, .string sep]⟩ => (match h.get k with
      | some (.cells cs _ _) => (match takeS ((cs.toList.drop o).take n) with
        | some xs => bif Nat.blt 0 n && (Nat.beq xs.length n && (Nat.ble n c && (Nat.ble n 140737488355328 && Nat.ble (Lib.join (xs.map (·.data.toList)) sep.data.toList).length 140737488355328))) then some (.string ⟨(Lib.join (xs.map (·.data.toList)) sep.data.toList).toArray⟩, h) else none
        | none => none)
      | _ => none)
    | _ => none)
  else bif Nat.beq f 169 then (match args with
    | ⟨[.string s, .int .u8 c]⟩ => some (.int .i64 (Lib.indexByte s.data.toList c.toNat.toUInt8), h)
    | _ => none)
  else bif Nat.beq f 211 then (match args with
    | ⟨[.string s, .string ⟨⟨[c]⟩⟩]⟩ => some (.int .i64 (Lib.indexByte s.data.toList c), h)
    | _ => none)
  else bif Nat.beq f 139 then (match args with
    | ⟨[.string s, .string ⟨⟨[c]⟩⟩]⟩ => some (.int .i64 (Lib.countByte s.data.toList c), h)
    | _ => none)
  else none
def orcA : Orc := memoS gN2 lst2 (tblA ++ tblD ++ tblN) orcStr
def orcB : Orc := memoS gN2 lst2 (tblB ++ tblA) noOrc
def orcP : Orc := memoS gN2 lst2 (tblC ++ tblM ++ tblA ++ tblD ++ tblN) orcStr
def tblL : TblS := tblP ++ tblR ++ tblH ++ tblC ++ tblM ++ tblB ++ tblA ++ tblD ++ tblN
def orcL : Orc := memoS gN2 lst2 tblL orcStr
def tblG : TblS := tblT ++ tblQ ++ tblQ3 ++ tblP ++ tblR ++ tblH ++ tblC ++ tblM ++ tblB
def orcG : Orc := memoS gN2 lst2 (tblG ++ tblA) orcStr
theorem good_lst2 : goodL gN2 lst2 = true := by kernel_rfl
end Go.Proofs.YtphoclgibnhjfaaGreat
namespace Go.Proofs.YtphoclgibnhjfaaGreat
open Go Go.RowKit Ev
/-- A number below 100 with two digits. -/
def two (n : Nat) : ByteArray := ⟨#[UInt8.ofNat (48 + n / 10), UInt8.ofNat (48 + n % 10)]⟩
def tblTwo : Tbl := (List.range 60).map fun (n : Nat) => (98, #[nI (n : Int), nI 2], .string (two n))
theorem run_two : (tblTwo.all fun x => runs Tryz.prog gN2 noOrc 300 lst2 x) = true := by kernel_rfl
theorem digits2 (n : Int) (w : World) (h0 : 0 ≤ n) (h1 : n < 60) : Calls Tryz.prog 98 #[.int .i64 n, .int .i64 2] w fun e w' => e = .returned (.string (two n.toNat)) ∧ Below w.heap.size w w' := by
  have hk := (known (orc_none _ _) good_lst2 (List.all_eq_true.1 run_two _ (List.mem_map.2 ⟨n.toNat, List.mem_range.2 (by omega), rfl⟩))).calls w (fun x hx => by cases hx)
  have e : ((n.toNat : Nat) : Int) = n := by omega
  simp only [nI, e] at hk
  exact hk
/-- The number of the first bytes. -/
def nv (s : ByteArray) : Nat → Int
  | 0 => 0
  | k + 1 => 10 * nv s k + ((byteAt s k : Int) - 48)
def allD (s : ByteArray) : Prop := s.size = 4 ∧ ∀ i, i < 4 → 48 ≤ byteAt s i ∧ byteAt s i ≤ 57
instance (s : ByteArray) : Decidable (allD s) := by unfold allD; infer_instance
theorem nv_bd (s : ByteArray) : ∀ k, k ≤ 4 → (∀ i, i < k → 48 ≤ byteAt s i ∧ byteAt s i ≤ 57) → 0 ≤ nv s k ∧ nv s k ≤ 9999 ∧ (k ≤ 3 → nv s k ≤ 999) ∧ (k ≤ 2 → nv s k ≤ 99) ∧ (k ≤ 1 → nv s k ≤ 9) ∧ (k = 0 → nv s k = 0)
  | 0, _, _ => by simp [nv]
  | k + 1, hk, h => by
    obtain ⟨h1, h2, h3, h4, h5, h6⟩ := nv_bd s k (by omega) (fun i hi => h i (by omega))
    have hb := h k (Nat.lt_succ_self k)
    simp only [nv]
    refine ⟨by omega, ?_, fun h => ?_, fun h => ?_, fun h => ?_, fun h => by omega⟩
    · have := h3 (by omega); omega
    · have := h4 (by omega); omega
    · have := h5 (by omega); omega
    · have := h6 (by omega); omega
theorem Min_any (n : Int) (w : World) : Calls Tryz.prog 97 #[.int .i64 n] w fun r w' => r = .returned (.int .i64 (rng n 0 1439)) ∧ w' = w := by
  go_enter Tryz.func97, Tryz.ntmps97
  go_wp2_with fail
  refine (checkRange_any _ _ _ _).mono ?_
  rintro e w' ⟨rfl, rfl⟩
  go_wp2_with fail
  go_ret
  exact ⟨rfl, rfl⟩
theorem mRange_any (n a b : Int) (w : World) :
    Calls Tryz.prog 129 #[.int .i64 n, .int .i64 a, .int .i64 b] w fun r w' => r = .returned (.int .i64 (rng n a b)) ∧ w' = w := by
  by_cases h1 : n < a
  · have H : Hid (rng n a b = 3) := Lib.hid (by unfold rng; rw [if_neg (by omega)])
    go_enter Tryz.func129, Tryz.ntmps129
    go_wp2_with fail
    go_ret
    exact ⟨by rw [H.out]; rfl, rfl⟩
  · by_cases h2 : b < n
    · have H : Hid (rng n a b = 3) := Lib.hid (by unfold rng; rw [if_neg (by omega)])
      go_enter Tryz.func129, Tryz.ntmps129
      go_wp2_with fail
      go_ret
      exact ⟨by rw [H.out]; rfl, rfl⟩
    · have H : Hid (rng n a b = 0) := Lib.hid (by unfold rng; rw [if_pos (by omega)])
      go_enter Tryz.func129, Tryz.ntmps129
      go_wp2_with fail
      go_ret
      exact ⟨by rw [H.out]; rfl, rfl⟩
/-- A minute, printed. -/
def mTxt (m : Int) : ByteArray := two (m / 60).toNat ++ two (m % 60).toNat
def mOut (m : Int) : Value := if rng m 0 1439 = 0 then .tuple #[.string (mTxt m), .int .i64 0] else .tuple #[.string ⟨#[]⟩, .int .i64 3]
theorem PrintMinute_any (m : Int) (w : World) : Calls Tryz.prog 45 #[.int .i64 m] w fun r w' => r = .returned (mOut m) ∧ Below w.heap.size w w' := by
  by_cases hm : 0 ≤ m ∧ m ≤ 1439
  · have HR : Hid (rng m 0 1439 = 0) := Lib.hid (rng_ok hm.1 hm.2)
    have HO : Hid (mOut m = .tuple #[.string (mTxt m), .int .i64 0]) := Lib.hid (by unfold mOut; rw [HR.out, if_pos rfl])
    have HT : Hid (mTxt m = two (m / 60).toNat ++ two (m % 60).toNat) := Lib.hid rfl
    obtain ⟨h1, h2⟩ := hm
    go_enter Tryz.func45, Tryz.ntmps45
    go_wp2_with fail
    refine (Min_any _ _).mono ?_
    rintro e w1 ⟨rfl, rfl⟩
    rw [HR.out]
    go_wp2_with fail
    refine (digits2 _ _ (by omega) (by omega)).mono ?_
    rintro e w2 ⟨rfl, hb2⟩
    go_wp2_with fail
    refine (digits2 _ _ (by omega) (by omega)).mono ?_
    rintro e w3 ⟨rfl, hb3⟩
    have hb3' := b_then hb2 hb3
    go_wp2_with fail
    go_ret2
    exact ⟨by rw [HO.out, HT.out]; rfl, hb3'⟩
  · have HR : Hid (rng m 0 1439 = 3) := Lib.hid (rng_bad hm)
    have HO : Hid (mOut m = .tuple #[.string ⟨#[]⟩, .int .i64 3]) := Lib.hid (by unfold mOut; rw [HR.out, if_neg (by decide)])
    clear hm
    go_enter Tryz.func45, Tryz.ntmps45
    go_wp2_with fail
    refine (Min_any _ _).mono ?_
    rintro e w1 ⟨rfl, rfl⟩
    rw [HR.out]
    go_wp2_with fail
    go_ret2
    exact ⟨by rw [HO.out]; rfl, Below.refl _ _⟩
end Go.Proofs.YtphoclgibnhjfaaGreat
namespace Go.Proofs.YtphoclgibnhjfaaGreat
open Go Go.RowKit Ev
theorem allD_no {s : ByteArray} {i : Nat} (hi : i < 4) (h : ¬ (48 ≤ byteAt s i ∧ byteAt s i ≤ 57)) : decide (allD s) = false := decide_eq_false fun hd => h (hd.2 i hi)
def numOut (s : ByteArray) : Value := if allD s then .tuple #[.int .i64 (nv s 4), .bool true] else .tuple #[.int .i64 0, .bool false]
set_option maxRecDepth 100000 in
set_option maxHeartbeats 1000000 in
theorem number_any (s : ByteArray) (w : World) :
    Calls Tryz.prog 96 #[.string s, .int .i64 4] w fun e w' => e = .returned (numOut s) ∧ Below w.heap.size w w' := by
  by_cases h4 : s.size = 4
  · have hb : ((s.size : Int) != 4) = false := by simp [h4]
    have HS := Lib.hid h4
    have HNO : Hid (∀ i, i < 4 → ¬ (48 ≤ byteAt s i ∧ byteAt s i ≤ 57) → numOut s = .tuple #[.int .i64 0, .bool false]) := Lib.hid fun i hi h => by unfold numOut; rw [if_neg (fun hd => h (hd.2 i hi))]
    have HYES : Hid ((∀ i, i < 4 → 48 ≤ byteAt s i ∧ byteAt s i ≤ 57) → numOut s = .tuple #[.int .i64 (nv s 4), .bool true]) := Lib.hid fun h => by unfold numOut; rw [if_pos ⟨h4, h⟩]
    clear h4
    go_enter Tryz.func96, Tryz.ntmps96
    go_wp2_with fail
    obtain ⟨W, hW, hb0, hit0⟩ : ∃ W, w.iter s 0 = W ∧ Below w.heap.size w W ∧ W.heap[w.heap.size]? = some (.stringIter s 0) := ⟨_, rfl, below_alloc _ _, World.iter_heap w s 0⟩
    rw [hW]
    clear hW
    go_loopw [6] (fun n wr => ∃ pos : Nat, pos ≤ 4 ∧ n = .int .i64 (nv s pos) ∧ Hid (∀ i, i < pos → 48 ≤ byteAt s i ∧ byteAt s i ≤ 57) ∧ Below w.heap.size w wr ∧ wr.heap[w.heap.size]? = some (.stringIter s pos)) (fun _ wr => s.size - wr.iterPos w.heap.size)
    case atStart => exact ⟨0, Nat.zero_le _, rfl, Lib.hid (fun i hi => absurd hi (Nat.not_lt_zero _)), hb0, hit0⟩
    case round =>
      obtain ⟨pos, hps, rfl, HP, hbr, hit⟩ := hrel
      by_cases hp4 : pos < 4
      · have hp : pos < s.size := by rw [HS.out]; exact hp4
        obtain ⟨r, p2, hnx0, hlo, hhi, hr2⟩ := next_byte (P := Tryz.prog) wr w.heap.size pos s hit hp
        obtain ⟨W2, hnx, hb2', hit2⟩ : ∃ W2, (∀ ty, (Instr.next (.pointer (some ⟨w.heap.size, 0, none⟩)) true ty).run Tryz.prog wr = .ok (.tuple #[.bool true, .int .i64 pos, .int .i32 r]) W2) ∧ Below w.heap.size w W2 ∧ W2.heap[w.heap.size]? = some (.stringIter s p2) :=
          ⟨_, hnx0, hbr.trans (nb_below _ _ _ _), Lib.iterAt_heap _ _ _ _ _ hit⟩
        clear hnx0
        have hmu : wr.iterPos w.heap.size = pos := by simp [World.iterPos, hit]
        have hmu2 : W2.iterPos w.heap.size = p2 := by simp [World.iterPos, hit2]
        have HMU := Lib.hid hmu; have HMU2 := Lib.hid hmu2
        clear hmu hmu2 hit
        by_cases hok : 48 ≤ byteAt s pos ∧ byteAt s pos ≤ 57
        · obtain ⟨hr, hp2⟩ := hlo (by omega)
          subst hr hp2
          have HP2 : Hid (∀ i, i < pos + 1 → 48 ≤ byteAt s i ∧ byteAt s i ≤ 57) := Lib.hid (fun i hi => by
            rcases Nat.lt_or_ge i pos with h | h
            · exact HP.out i h
            · obtain rfl : i = pos := by omega
              exact hok)
          obtain ⟨n0, _, n3, _⟩ := nv_bd s pos (by omega) HP.out
          have n3' := n3 (by omega)
          have HN : Hid (nv s (pos + 1) = 10 * nv s pos + ((byteAt s pos : Int) - 48)) := Lib.hid rfl
          generalize nv s pos = n at *
          generalize byteAt s pos = r at *
          have c1 : decide ((r : Int) < 48) = false := decide_eq_false (by omega)
          have c2 : decide ((57 : Int) < r) = false := decide_eq_false (by omega)
          have b1 : (48 : Int) ≤ r := by omega
          have b2 : (r : Int) ≤ 57 := by omega
          clear n3 hlo hhi hok
          go_wp2_with fail
          go_roundw
          case rel => exact ⟨pos + 1, by omega, by rw [HN.out], HP2, hb2', hit2⟩
          case measure => rw [HMU.out, HMU2.out, HS.out]; omega
        · have HB := Lib.hid (HNO.out pos hp4 hok)
          have hbad : (r : Int) < 48 ∨ (¬ (r : Int) < 48 ∧ (57 : Int) < r) := by
            by_cases hc : byteAt s pos < 128
            · rw [(hlo hc).1]; omega
            · have := hhi (by omega); omega
          clear hlo hhi hok
          rcases hbad with h | ⟨h, h'⟩
          · have c1 : decide ((r : Int) < 48) = true := decide_eq_true h
            go_wp2_with fail
            go_ret2
            exact ⟨by rw [HB.out]; rfl, hb2'⟩
          · have c1 : decide ((r : Int) < 48) = false := decide_eq_false h
            have c2 : decide ((57 : Int) < r) = true := decide_eq_true h'
            go_wp2_with fail
            go_ret2
            exact ⟨by rw [HB.out]; rfl, hb2'⟩
      · obtain rfl : pos = 4 := by omega
        have HB := Lib.hid (HYES.out HP.out)
        have hend : ¬ 4 < s.size := by rw [HS.out]; omega
        have hnx : ∀ ty, (Instr.next (.pointer (some ⟨w.heap.size, 0, none⟩)) true ty).run Tryz.prog wr = _ := fun ty => Lib.run_next_end_at wr w.heap.size s 4 ty hit hend
        generalize nv s 4 = n at *
        go_wp2_with fail
        go_ret2
        exact ⟨by rw [HB.out]; rfl, hbr⟩
  · have hb : ((s.size : Int) != 4) = true := by rw [bne_iff_ne]; omega
    have HO : Hid (numOut s = .tuple #[.int .i64 0, .bool false]) := Lib.hid (by unfold numOut; rw [if_neg (fun hd => h4 hd.1)])
    clear h4
    go_enter Tryz.func96, Tryz.ntmps96
    go_wp2_with fail
    go_ret2
    exact ⟨by rw [HO.out]; rfl, Below.refl _ _⟩
/-- The reference's number of four digits. -/
def qNum (s : ByteArray) : Int := if allD s then nv s 4 else -1
set_option maxRecDepth 100000 in
set_option maxHeartbeats 1000000 in
theorem qdigits_any (s : ByteArray) (w : World) :
    Calls Tryz.prog 59 #[.string s, .int .i64 4] w fun e w' => e = .returned (.int .i64 (qNum s)) ∧ w' = w := by
  by_cases h4 : s.size = 4
  · have hb : ((s.size : Int) != 4) = false := by simp [h4]
    have HS := Lib.hid h4
    have HNO : Hid (∀ i, i < 4 → ¬ (48 ≤ byteAt s i ∧ byteAt s i ≤ 57) → qNum s = -1) := Lib.hid fun i hi h => by unfold qNum; rw [if_neg (fun hd => h (hd.2 i hi))]
    have HYES : Hid ((∀ i, i < 4 → 48 ≤ byteAt s i ∧ byteAt s i ≤ 57) → qNum s = nv s 4) := Lib.hid fun h => by unfold qNum; rw [if_pos ⟨h4, h⟩]
    have hs4 : (s.size : Int) = 4 := by omega
    clear h4
    go_enter Tryz.func59, Tryz.ntmps59
    go_wp2_with fail
    go_loopw [5, 6] (fun n i wr => ∃ pos : Nat, pos ≤ 4 ∧ n = .int .i64 (nv s pos) ∧ i = .int .i64 pos ∧ Hid (∀ i, i < pos → 48 ≤ byteAt s i ∧ byteAt s i ≤ 57) ∧ wr = w) (fun _ i _ => 4 - (intOf i).toNat)
    case atStart => exact ⟨0, Nat.zero_le _, rfl, rfl, Lib.hid (fun i hi => absurd hi (Nat.not_lt_zero _)), rfl⟩
    case round =>
      obtain ⟨pos, hps, rfl, rfl, HP, rfl⟩ := hrel
      by_cases hp4 : pos < 4
      · have hps2 : pos < s.size := by rw [HS.out]; exact hp4
        have HBY : Hid (byteAt s pos = (s[pos]'hps2).toNat) := Lib.hid (byteAt_eq hps2)
        have hb256 : (s[pos]'hps2).toNat < 256 := UInt8.toNat_lt _
        by_cases hok : 48 ≤ byteAt s pos ∧ byteAt s pos ≤ 57
        · have HP2 : Hid (∀ i, i < pos + 1 → 48 ≤ byteAt s i ∧ byteAt s i ≤ 57) := Lib.hid (fun i hi => by
            rcases Nat.lt_or_ge i pos with h | h
            · exact HP.out i h
            · obtain rfl : i = pos := by omega
              exact hok)
          obtain ⟨n0, _, n3, _⟩ := nv_bd s pos (by omega) HP.out
          have n3' := n3 (by omega)
          have HN : Hid (nv s (pos + 1) = 10 * nv s pos + (((s[pos]'hps2).toNat : Int) - 48)) := Lib.hid (by rw [← HBY.out]; rfl)
          rw [HBY.out] at hok
          have c1 : decide (((s[pos]'hps2).toNat : Int) < 48) = false := decide_eq_false (by omega)
          have c2 : decide ((57 : Int) < ((s[pos]'hps2).toNat : Int)) = false := decide_eq_false (by omega)
          have b1 : (48 : Int) ≤ ((s[pos]'hps2).toNat : Int) := by omega
          have b2 : ((s[pos]'hps2).toNat : Int) ≤ 57 := by omega
          have b0 : (pos : Int) < s.size := by omega
          generalize nv s pos = n at *
          clear n3 hok
          go_wp2_with fail
          go_roundw
          case rel => exact ⟨pos + 1, by omega, by rw [HN.out], by go_num, HP2, trivial⟩
          case measure => simp [intOf]; omega
        · have HB := Lib.hid (HNO.out pos hp4 hok)
          rw [HBY.out] at hok
          have b0 : (pos : Int) < s.size := by omega
          have hbad : ((s[pos]'hps2).toNat : Int) < 48 ∨ (¬ ((s[pos]'hps2).toNat : Int) < 48 ∧ (57 : Int) < ((s[pos]'hps2).toNat : Int)) := by omega
          clear hok
          rcases hbad with h | ⟨h, h'⟩
          · have c1 : decide (((s[pos]'hps2).toNat : Int) < 48) = true := decide_eq_true h
            go_wp2_with fail
            go_ret
            exact ⟨by rw [HB.out]; rfl, rfl⟩
          · have c1 : decide (((s[pos]'hps2).toNat : Int) < 48) = false := decide_eq_false h
            have c2 : decide ((57 : Int) < ((s[pos]'hps2).toNat : Int)) = true := decide_eq_true h'
            go_wp2_with fail
            go_ret
            exact ⟨by rw [HB.out]; rfl, rfl⟩
      · obtain rfl : pos = 4 := by omega
        have HB := Lib.hid (HYES.out HP.out)
        generalize nv s 4 = n at *
        go_wp2_with fail
        go_ret
        exact ⟨by rw [HB.out]; rfl, rfl⟩
  · have hb : ((s.size : Int) != 4) = true := by rw [bne_iff_ne]; omega
    have HO : Hid (qNum s = -1) := Lib.hid (by unfold qNum; rw [if_neg (fun hd => h4 hd.1)])
    clear h4
    go_enter Tryz.func59, Tryz.ntmps59
    go_wp2_with fail
    go_ret
    exact ⟨by rw [HO.out]; rfl, rfl⟩
end Go.Proofs.YtphoclgibnhjfaaGreat
namespace Go.Proofs.YtphoclgibnhjfaaGreat
open Go Go.RowKit Ev
theorem run_A : (tblA.all fun x => runsS Tryz.prog gN2 noOrc 300 lst2 x) = true := by kernel_rfl
theorem run_D : (tblD.all fun x => runsS Tryz.prog gN2 noOrc 300 lst2 x) = true := by kernel_rfl
theorem run_N : (tblN.all fun x => runsS Tryz.prog gN2 noOrc 300 lst2 x) = true := by kernel_rfl
theorem run_B : (tblB.all fun x => runsS Tryz.prog gN2 orcA 300 lst2 x) = true := by kernel_rfl
theorem run_C : (tblC.all fun x => runsS Tryz.prog gN2 orcB 300 lst2 x) = true := by kernel_rfl
end Go.Proofs.YtphoclgibnhjfaaGreat
namespace Go.Proofs.YtphoclgibnhjfaaGreat
open Go Go.RowKit Ev
theorem run_M : (tblM.all fun x => runsS Tryz.prog gN2 orcA 300 lst2 x) = true := by kernel_rfl
theorem run_P : (tblP.all fun x => runsS Tryz.prog gN2 orcP 300 lst2 x) = true := by kernel_rfl
end Go.Proofs.YtphoclgibnhjfaaGreat
namespace Go.Proofs.YtphoclgibnhjfaaGreat
open Go Go.RowKit Ev
theorem run_R : (tblR.all fun x => runsS Tryz.prog gN2 orcP 300 lst2 x) = true := by kernel_rfl
end Go.Proofs.YtphoclgibnhjfaaGreat
namespace Go.Proofs.YtphoclgibnhjfaaGreat
open Go Go.RowKit Ev
theorem run_H : (tblH.all fun x => runsS Tryz.prog gN2 orcA 300 lst2 x) = true := by kernel_rfl
end Go.Proofs.YtphoclgibnhjfaaGreat
