
/- Contracts of package calendar: Day, Date, texts of dates. -/
import Derived.Test.YtnakmgeompjhpaaGreatHeap
namespace Go.Proofs.YtnakmgeompjhpaaGreat
open Go.RowKit
def dayIn (y m d : Int) : Int := fst [rng y 2000 2273, rng m 1 12, rng d 1 31]
def dayErr (y m d : Int) : Int :=
  if dayIn y m d ≠ 0 then dayIn y m d
  else if Cal.ml y m.toNat < d ∨ 99999 < Cal.dn y m.toNat d then 7 else 0
theorem rng_zero {n a b : Int} (h : rng n a b = 0) : a ≤ n ∧ n ≤ b := by
  unfold rng at h; split at h
  · assumption
  · omega
theorem fst_cons_zero {x : Int} {l : List Int} (h : fst (x :: l) = 0) : x = 0 ∧ fst l = 0 := by
  by_cases e : x = 0
  · simp [fst, e] at h; exact ⟨e, h⟩
  · simp [fst, e] at h
theorem dayIn_zero {y m d : Int} (h : dayIn y m d = 0) : (2000 ≤ y ∧ y ≤ 2273) ∧ (1 ≤ m ∧ m ≤ 12) ∧ (1 ≤ d ∧ d ≤ 31) := by
  obtain ⟨h1, h⟩ := fst_cons_zero h
  obtain ⟨h2, h⟩ := fst_cons_zero h
  obtain ⟨h3, h⟩ := fst_cons_zero h
  exact ⟨rng_zero h1, rng_zero h2, rng_zero h3⟩

end Go.Proofs.YtnakmgeompjhpaaGreat
