
/- Contracts of package calendar: has. -/
import Derived.Test.YtnakmgeompjhpaaGreatHeap
import Derived.Lib.RabinKarpLaws
namespace Go.Proofs.YtnakmgeompjhpaaGreat
open Go.RowKit
def inM (m d : Int) : Bool := decide (m / 2 ^ (Cal.wd d).toNat % 2 = 1)
def hasB (a b m d : Int) : Bool := decide (a ≤ d) && decide (d ≤ b) && inM m d
theorem and1 (x : Int) (h0 : 0 ≤ x) (h1 : x ≤ 127) : bits BinOp.and IntKind.i64 x 1 = x % 2 := by
  obtain ⟨n, rfl⟩ := Int.eq_ofNat_of_zero_le h0
  rw [and_one n (by omega)]; rfl
theorem inM_bits (m d : Int) (h0 : 0 ≤ m) (h1 : m ≤ 127) : (bits BinOp.and IntKind.i64 (m / 2 ^ (Cal.wd d).toNat) 1 == 1) = inM m d := by
  have hq : 0 ≤ m / 2 ^ (Cal.wd d).toNat := Int.ediv_nonneg h0 (by exact_mod_cast Nat.zero_le _)
  have hq2 : m / 2 ^ (Cal.wd d).toNat ≤ m := Int.ediv_le_self _ h0
  rw [and1 _ hq (by omega)]
  unfold inM
  rw [Bool.eq_iff_iff]; simp
end Go.Proofs.YtnakmgeompjhpaaGreat
