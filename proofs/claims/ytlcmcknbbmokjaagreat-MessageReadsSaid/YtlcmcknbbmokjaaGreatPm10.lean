/- Contracts of package message and of the reference: minutes are printed (two digits at a time, by the evaluator), and numbers of four digits are read. -/
import Derived.Test.YtlcmcknbbmokjaaGreatPm1
import Derived.Test.YtlcmcknbbmokjaaGreatPm9
namespace Go.Proofs.YtlcmcknbbmokjaaGreat
open Go Go.RowKit Ev
/-- A number below 100 with two digits. -/
def two (n : Nat) : ByteArray := ⟨#[UInt8.ofNat (48 + n / 10), UInt8.ofNat (48 + n % 10)]⟩
def tblTwo : Tbl := (List.range 60).map fun (n : Nat) => (115, #[nI (n : Int), nI 2], .string (two n))
def tblWide : Tbl := (List.range 60).map fun (n : Nat) => (80, #[nI (n : Int), nI 2], .string (two n))
theorem run_two : (tblTwo.all fun x => runs Tryz.prog gN2 noOrc 300 lst2 x) = true := by kernel_rfl
theorem run_wide : (tblWide.all fun x => runs Tryz.prog gN2 noOrc 300 lst2 x) = true := by kernel_rfl
theorem digits2 (n : Int) (w : World) (h0 : 0 ≤ n) (h1 : n < 60) : Calls Tryz.prog 115 #[.int .i64 n, .int .i64 2] w fun e w' => e = .returned (.string (two n.toNat)) ∧ Below w.heap.size w w' := by
  have hk := (known (orc_none _ _) good_lst2 (List.all_eq_true.1 run_two _ (List.mem_map.2 ⟨n.toNat, List.mem_range.2 (by omega), rfl⟩))).calls w (fun x hx => by cases hx)
  have e : ((n.toNat : Nat) : Int) = n := by omega
  simp only [nI, e] at hk
  exact hk
theorem wide2 (n : Int) (w : World) (h0 : 0 ≤ n) (h1 : n < 60) : Calls Tryz.prog 80 #[.int .i64 n, .int .i64 2] w fun e w' => e = .returned (.string (two n.toNat)) ∧ Below w.heap.size w w' := by
  have hk := (known (orc_none _ _) good_lst2 (List.all_eq_true.1 run_wide _ (List.mem_map.2 ⟨n.toNat, List.mem_range.2 (by omega), rfl⟩))).calls w (fun x hx => by cases hx)
  have e : ((n.toNat : Nat) : Int) = n := by omega
  simp only [nI, e] at hk
  exact hk
/-- The number of the first bytes. -/
def nv (s : ByteArray) : Nat → Int
  | 0 => 0
  | k + 1 => 10 * nv s k + ((byteAt s k : Int) - 48)
def allD (s : ByteArray) : Prop := s.size = 4 ∧ ∀ i, i < 4 → 48 ≤ byteAt s i ∧ byteAt s i ≤ 57
instance (s : ByteArray) : Decidable (allD s) := by unfold allD; infer_instance
theorem nv_bd (s : ByteArray) : ∀ k, k ≤ 4 → (∀ i, i < k → 48 ≤ byteAt s i ∧ byteAt s i ≤ 57) → 0 ≤ nv s k ∧ nv s k ≤ 9999 ∧ (k ≤ 3 → nv s k ≤ 999) ∧ (k ≤ 2 → nv s k ≤ 99) ∧ (k ≤ 1 → nv s k ≤ 9) ∧ (k = 0 → nv s k = 0)
  | 0, _, _ => by simp [nv]
  | k + 1, hk, h => by
    obtain ⟨h1, h2, h3, h4, h5, h6⟩ := nv_bd s k (by omega) (fun i hi => h i (by omega))
    have hb := h k (Nat.lt_succ_self k)
    simp only [nv]
    refine ⟨by omega, ?_, fun h => ?_, fun h => ?_, fun h => ?_, fun h => by omega⟩
    · have := h3 (by omega); omega
    · have := h4 (by omega); omega
    · have := h5 (by omega); omega
    · have := h6 (by omega); omega
theorem Min_any (n : Int) (w : World) : Calls Tryz.prog 114 #[.int .i64 n] w fun r w' => r = .returned (.int .i64 (rng n 0 1439)) ∧ w' = w := by
  go_enter Tryz.func114, Tryz.ntmps114
  go_wp2_with fail
  refine (checkRange_any _ _ _ _).mono ?_
  rintro e w' ⟨rfl, rfl⟩
  go_wp2_with fail
  go_ret
  exact ⟨rfl, rfl⟩
theorem mRange_any (n a b : Int) (w : World) :
    Calls Tryz.prog 175 #[.int .i64 n, .int .i64 a, .int .i64 b] w fun r w' => r = .returned (.int .i64 (rng n a b)) ∧ w' = w := by
  by_cases h1 : n < a
  · have H : Hid (rng n a b = 3) := Lib.hid (by unfold rng; rw [if_neg (by omega)])
    go_enter Tryz.func175, Tryz.ntmps175
    go_wp2_with fail
    go_ret
    exact ⟨by rw [H.out]; rfl, rfl⟩
  · by_cases h2 : b < n
    · have H : Hid (rng n a b = 3) := Lib.hid (by unfold rng; rw [if_neg (by omega)])
      go_enter Tryz.func175, Tryz.ntmps175
      go_wp2_with fail
      go_ret
      exact ⟨by rw [H.out]; rfl, rfl⟩
    · have H : Hid (rng n a b = 0) := Lib.hid (by unfold rng; rw [if_pos (by omega)])
      go_enter Tryz.func175, Tryz.ntmps175
      go_wp2_with fail
      go_ret
      exact ⟨by rw [H.out]; rfl, rfl⟩
/-- A minute, printed. -/
def mTxt (m : Int) : ByteArray := two (m / 60).toNat ++ two (m % 60).toNat
def mOut (m : Int) : Value := if rng m 0 1439 = 0 then .tuple #[.string (mTxt m), .int .i64 0] else .tuple #[.string ⟨#[]⟩, .int .i64 3]
theorem PrintMinute_any (m : Int) (w : World) : Calls Tryz.prog 55 #[.int .i64 m] w fun r w' => r = .returned (mOut m) ∧ Below w.heap.size w w' := by
  by_cases hm : 0 ≤ m ∧ m ≤ 1439
  · have HR : Hid (rng m 0 1439 = 0) := Lib.hid (rng_ok hm.1 hm.2)
    have HO : Hid (mOut m = .tuple #[.string (mTxt m), .int .i64 0]) := Lib.hid (by unfold mOut; rw [HR.out, if_pos rfl])
    have HT : Hid (mTxt m = two (m / 60).toNat ++ two (m % 60).toNat) := Lib.hid rfl
    obtain ⟨h1, h2⟩ := hm
    go_enter Tryz.func55, Tryz.ntmps55
    go_wp2_with fail
    refine (Min_any _ _).mono ?_
    rintro e w1 ⟨rfl, rfl⟩
    rw [HR.out]
    go_wp2_with fail
    refine (digits2 _ _ (by omega) (by omega)).mono ?_
    rintro e w2 ⟨rfl, hb2⟩
    go_wp2_with fail
    refine (digits2 _ _ (by omega) (by omega)).mono ?_
    rintro e w3 ⟨rfl, hb3⟩
    have hb3' := b_then hb2 hb3
    go_wp2_with fail
    go_ret2
    exact ⟨by rw [HO.out, HT.out]; rfl, hb3'⟩
  · have HR : Hid (rng m 0 1439 = 3) := Lib.hid (rng_bad hm)
    have HO : Hid (mOut m = .tuple #[.string ⟨#[]⟩, .int .i64 3]) := Lib.hid (by unfold mOut; rw [HR.out, if_neg (by decide)])
    clear hm
    go_enter Tryz.func55, Tryz.ntmps55
    go_wp2_with fail
    refine (Min_any _ _).mono ?_
    rintro e w1 ⟨rfl, rfl⟩
    rw [HR.out]
    go_wp2_with fail
    go_ret2
    exact ⟨by rw [HO.out]; rfl, Below.refl _ _⟩
theorem qPrintMinute_ok (m : Int) (w : World) (h1 : 0 ≤ m) (h2 : m ≤ 1439) : Calls Tryz.prog 202 #[.int .i64 m] w fun r w' => r = .returned (.string (mTxt m)) ∧ Below w.heap.size w w' := by
  have HT : Hid (mTxt m = two (m / 60).toNat ++ two (m % 60).toNat) := Lib.hid rfl
  go_enter Tryz.func202, Tryz.ntmps202
  go_wp2_with fail
  refine (wide2 _ _ (by omega) (by omega)).mono ?_
  rintro e w2 ⟨rfl, hb2⟩
  go_wp2_with fail
  refine (wide2 _ _ (by omega) (by omega)).mono ?_
  rintro e w3 ⟨rfl, hb3⟩
  have hb3' := b_then hb2 hb3
  go_wp2_with fail
  go_ret
  exact ⟨by rw [HT.out]; rfl, hb3'⟩
end Go.Proofs.YtlcmcknbbmokjaaGreat
