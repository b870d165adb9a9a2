
/- Contracts of package calendar: seasons. -/
import Derived.Test.YtnakmgeompjhpaaGreatCal3
namespace Go.Proofs.YtnakmgeompjhpaaGreat
open Go.RowKit
def isS (s : ByteArray) : Bool := s.toList == [83]
def isW (s : ByteArray) : Bool := s.toList == [87]
def kindErr (s : ByteArray) : Int := if isS s = true ∨ isW s = true then 0 else 13
def seasonErr (y : Int) (s : ByteArray) : Int := fst [rng y 2000 2272, kindErr s]
def fDay (y : Int) (s : ByteArray) : Int := Cal.ls y (if isS s = true then 3 else 10)
theorem isS_W : isS ⟨#[87]⟩ = false := by decide +kernel
theorem isS_S : isS ⟨#[83]⟩ = true := by decide +kernel
theorem isW_W : isW ⟨#[87]⟩ = true := by decide +kernel
theorem isW_S : isW ⟨#[83]⟩ = false := by decide +kernel
def follY (y : Int) (s : ByteArray) : Int := if isS s = true then y else y + 1
def follK (s : ByteArray) : ByteArray := if isS s = true then ⟨#[87]⟩ else ⟨#[83]⟩
def lDay (y : Int) (s : ByteArray) : Int := fDay (follY y s) (follK s) - 1
theorem ls_bd (y : Int) (m : Nat) (h1 : 2000 ≤ y) (h2 : y ≤ 2300) (h3 : m ≤ 12) : -10 ≤ Cal.ls y m ∧ Cal.ls y m ≤ 150000 := by
  have := Cal.dn_bd y m 31 h1 h2 h3 (by omega) (by omega)
  unfold Cal.ls; omega
theorem fDay_bd (y : Int) (s : ByteArray) (h1 : 2000 ≤ y) (h2 : y ≤ 2300) : -10 ≤ fDay y s ∧ fDay y s ≤ 150000 := by
  unfold fDay; exact ls_bd _ _ h1 h2 (by split <;> omega)
theorem follY_bd (y : Int) (s : ByteArray) : y ≤ follY y s ∧ follY y s ≤ y + 1 := by unfold follY; split <;> omega
end Go.Proofs.YtnakmgeompjhpaaGreat
