/- Contracts: the weekdays of a mask, moved by days (the reference's InMask and Shift; turn). -/
import Derived.Test.YtoaimgfekbnijaaDoorPer
import Derived.Test.YtoaimgfekbnijaaDoorKept
import Derived.Test.YtoaimgfekbnijaaDoorTileC
namespace Go.Proofs.YtoaimgfekbnijaaDoor
open Go Go.RowKit
def bitN (n k : Nat) : Bool := n / 2 ^ k % 2 == 1
def refN (n s : Nat) : Nat → Nat
  | 0 => 0
  | w + 1 => refN n s w + (if bitN n ((w + 7 - s) % 7) = true then 2 ^ w else 0)
theorem refN_bd (n s w : Nat) : refN n s w < 2 ^ w := by
  induction w with
  | zero => simp [refN]
  | succ w ih =>
    rw [refN, Nat.pow_succ]
    split <;> omega
theorem InMask_nat (n k : Nat) (w : World) (h1 : n ≤ 100000) (hk : k ≤ 63) :
    Calls Tryd.prog 59 #[.int .i64 n, .int .i64 k] w fun r w' => r = .returned (.bool (bitN n k)) ∧ w' = w := by
  go_enter Tryd.func59, Tryd.ntmps59
  go_wp2_with fail
  go_loop [0, 5] (fun a b => ∃ j : Nat, j ≤ k ∧ b = .int .i64 j ∧ a = .int .i64 ((n / 2 ^ j : Nat) : Int)) (fun _ b => k - (intOf b).toNat)
  case atStart => exact ⟨0, Nat.zero_le _, rfl, by simp⟩
  case round =>
    obtain ⟨j, hj, rfl, rfl⟩ := hrel
    have hle : n / 2 ^ j ≤ n := Nat.div_le_self _ _
    have HS : Hid (n / 2 ^ (j + 1) = n / 2 ^ j / 2) := Lib.hid (by rw [Nat.pow_succ, Nat.div_div_eq_div_mul])
    have HB : Hid (j = k → bitN n k = (n / 2 ^ j % 2 == 1)) := Lib.hid (fun e => by rw [e]; rfl)
    generalize n / 2 ^ j = v at *
    by_cases hlt : j < k
    · go_wp2_with fail
      go_round
      case rel => exact ⟨j + 1, by omega, by go_num, by rw [HS.out]; go_num⟩
      case measure => simp [intOf]; omega
    · obtain rfl : j = k := by omega
      have HB2 := Lib.hid (HB.out rfl)
      by_cases hm : v % 2 = 1
      · have hv : (v : Int) % 2 = 1 := by omega
        go_wp2_with fail
        go_ret
        exact ⟨by rw [HB2.out, hm]; rfl, rfl⟩
      · have hv : (v : Int) % 2 = 0 := by omega
        go_wp2_with fail
        go_ret
        exact ⟨by rw [HB2.out, show v % 2 = 0 from by omega]; rfl, rfl⟩
end Go.Proofs.YtoaimgfekbnijaaDoor
