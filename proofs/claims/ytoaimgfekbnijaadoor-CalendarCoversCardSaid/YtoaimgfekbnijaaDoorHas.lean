/- Contracts of package calendar: has. -/
import Derived.Test.YtoaimgfekbnijaaDoorHeap
import Derived.Lib.RabinKarpLaws
namespace Go.Proofs.YtoaimgfekbnijaaDoor
open Go.RowKit
def inM (m d : Int) : Bool := decide (m / 2 ^ (Cal.wd d).toNat % 2 = 1)
def hasB (a b m d : Int) : Bool := decide (a ≤ d) && decide (d ≤ b) && inM m d
theorem and1 (x : Int) (h0 : 0 ≤ x) (h1 : x ≤ 127) : bits BinOp.and IntKind.i64 x 1 = x % 2 := by
  obtain ⟨n, rfl⟩ := Int.eq_ofNat_of_zero_le h0
  rw [and_one n (by omega)]; rfl
theorem inM_bits (m d : Int) (h0 : 0 ≤ m) (h1 : m ≤ 127) : (bits BinOp.and IntKind.i64 (m / 2 ^ (Cal.wd d).toNat) 1 == 1) = inM m d := by
  have hq : 0 ≤ m / 2 ^ (Cal.wd d).toNat := Int.ediv_nonneg h0 (by exact_mod_cast Nat.zero_le _)
  have hq2 : m / 2 ^ (Cal.wd d).toNat ≤ m := Int.ediv_le_self _ h0
  rw [and1 _ hq (by omega)]
  unfold inM
  rw [Bool.eq_iff_iff]; simp
set_option maxRecDepth 100000 in
theorem has_any (a b m d : Int) (w : World) (h1 : 0 ≤ d) (h2 : d ≤ 99999) (hm1 : 0 ≤ m) (hm2 : m ≤ 127) :
    Calls Tryd.prog 89 #[.agg #[.int .i64 a, .int .i64 b, .int .i64 m], .int .i64 d] w fun r w' => r = .returned (.bool (hasB a b m d)) ∧ Below w.heap.size w w' := by
  have hw := Cal.wd_bd d
  by_cases ha : a ≤ d
  · by_cases hb : d ≤ b
    · have HB : Hid (hasB a b m d = (bits BinOp.and IntKind.i64 (m / 2 ^ (Cal.wd d).toNat) 1 == 1)) := Lib.hid (by rw [inM_bits m d hm1 hm2]; simp [hasB, ha, hb])
      go_enter Tryd.func89, Tryd.ntmps89
      go_wp2_with fail
      go_quiet ((go_at_call 72; exact Calls.quiet_of_same (weekday_any _ _ (by omega) (by omega))))
      go_wp2_with fail
      go_ret
      exact ⟨by rw [HB.out]; rfl, (below_alloc w _).trans ⟨rfl, rfl, rfl, Nat.le_refl _, fun _ _ => rfl⟩⟩
    · have HB : Hid (hasB a b m d = false) := Lib.hid (by simp [hasB, hb])
      have hd : decide (d ≤ b) = false := by simpa using hb
      clear hb
      go_enter Tryd.func89, Tryd.ntmps89
      go_wp2_with fail
      go_quiet (fail)
      go_wp2_with fail
      go_ret
      exact ⟨by rw [HB.out]; rfl, (below_alloc w _).trans ⟨rfl, rfl, rfl, Nat.le_refl _, fun _ _ => rfl⟩⟩
  · have HB : Hid (hasB a b m d = false) := Lib.hid (by simp [hasB, ha])
    have hd : decide (a ≤ d) = false := by simpa using ha
    clear ha
    go_enter Tryd.func89, Tryd.ntmps89
    go_wp2_with fail
    go_quiet (fail)
    go_wp2_with fail
    go_ret
    exact ⟨by rw [HB.out]; rfl, (below_alloc w _).trans ⟨rfl, rfl, rfl, Nat.le_refl _, fun _ _ => rfl⟩⟩
end Go.Proofs.YtoaimgfekbnijaaDoor
