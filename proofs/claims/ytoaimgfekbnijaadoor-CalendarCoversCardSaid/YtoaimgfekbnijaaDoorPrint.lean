/- Contracts of package calendar: PrintDate. -/
import Derived.Test.YtoaimgfekbnijaaDoorPrintMath
import Derived.Test.YtoaimgfekbnijaaDoorShelf
import Derived.Deep.RegionHeld3
import Derived.Lib.LaidTab
import Derived.Lib.AppendIntMem
namespace Go.Proofs.YtoaimgfekbnijaaDoor
open Go.RowKit
/-- The table of powers that strconv reads. -/
def HeldPow (w : World) : Prop := Lib.TabIs Tryd.prog w "internal/strconv.uint64pow10" .u64 Lib.pow10Tab
theorem cat_lists (x y : List UInt8) : (ByteArray.mk x.toArray ++ ByteArray.mk y.toArray) = ⟨(x ++ y).toArray⟩ := ByteArray.mk_append_mk x y
theorem zero_str : (⟨#[48]⟩ : ByteArray).data.toList = [48] := rfl
theorem rep1 (w : World) : Calls Tryd.prog 96 #[.string ⟨#[48]⟩, .int .i64 (max 0 1)] w fun e w' => e = .returned (.string ⟨#[48]⟩) ∧ Below w.heap.size w w' :=
  Tryd.strings_Repeat ⟨#[48]⟩ 1 w (by decide) (by decide)
theorem rep0 (w : World) : Calls Tryd.prog 96 #[.string ⟨#[48]⟩, .int .i64 (max 0 0)] w fun e w' => e = .returned (.string ⟨#[]⟩) ∧ w' = w :=
  Tryd.strings_Repeat_zero ⟨#[48]⟩ w
set_option maxRecDepth 100000 in
theorem padded_2 (n : Nat) (w : World) (h : n < 100) :
    Calls Tryd.prog 70 #[.int .i64 n, .int .i64 2] w fun r w' => r = .returned (.string ⟨(pad2 n).toArray⟩) ∧ Below w.heap.size w w' := by
  by_cases h1 : n < 10
  · have E : Hid (Lib.decDigits n = [dig n]) := Lib.hid (dec1 n h1)
    have E2 : Hid ((⟨#[48]⟩ : ByteArray) ++ ⟨#[dig n]⟩ = ⟨(pad2 n).toArray⟩) := Lib.hid (by
      rw [show pad2 n = [48] ++ [dig n] by unfold pad2; rw [show n / 10 = 0 by omega, show n % 10 = n by omega]; rfl]
      exact cat_lists [48] [dig n])
    go_enter Tryd.func70, Tryd.ntmps70
    go_wp2_with fail
    refine (Tryd.strconv_Itoa_small n h w).mono ?_
    rintro e w1 ⟨rfl, hw⟩
    rw [hw, E.out]
    clear hw
    go_wp2_with fail
    refine (rep1 _).mono ?_
    rintro e w2 ⟨rfl, hb⟩
    go_wp2_with fail
    go_ret
    exact ⟨by rw [E2.out]; rfl, hb⟩
  · have E : Hid (Lib.decDigits n = pad2 n) := Lib.hid (dec2 n (by omega) h)
    have E2 : Hid ((⟨#[]⟩ : ByteArray) ++ ⟨(pad2 n).toArray⟩ = ⟨(pad2 n).toArray⟩) := Lib.hid (cat_lists [] (pad2 n))
    have E3 : Hid ((pad2 n).toArray.size = 2) := Lib.hid rfl
    generalize pad2 n = l at *
    go_enter Tryd.func70, Tryd.ntmps70
    go_wp2_with fail
    refine (Tryd.strconv_Itoa_small n h w).mono ?_
    rintro e w1 ⟨rfl, hw⟩
    rw [hw, E.out]
    clear hw
    have e3 := E3.out
    go_wp2_with fail
    refine (rep0 _).mono ?_
    rintro e w2 ⟨rfl, hw⟩
    rw [hw]
    clear hw
    go_wp2_with fail
    go_ret
    exact ⟨by rw [E2.out]; rfl, Below.refl _ _⟩
set_option maxRecDepth 100000 in
theorem padded_4 (n : Nat) (w : World) (h1 : 1000 ≤ n) (h : n < 10000) (hp : HeldPow w) :
    Calls Tryd.prog 70 #[.int .i64 n, .int .i64 4] w fun r w' => r = .returned (.string ⟨(pad4 n).toArray⟩) ∧ Below w.heap.size w w' := by
  have E : Hid (Lib.itoa n = pad4 n) := Lib.hid (by unfold Lib.itoa; rw [if_neg (by omega)]; exact dec4 n h1 h)
  have E2 : Hid ((⟨#[]⟩ : ByteArray) ++ ⟨(pad4 n).toArray⟩ = ⟨(pad4 n).toArray⟩) := Lib.hid (cat_lists [] (pad4 n))
  have E3 : Hid ((pad4 n).toArray.size = 4) := Lib.hid rfl
  generalize pad4 n = l at *
  go_enter Tryd.func70, Tryd.ntmps70
  go_wp2_with fail
  refine (Tryd.strconv_Itoa n (by omega) (by omega) w hp).mono ?_
  rintro e w1 ⟨rfl, k, os, hw⟩
  have hb : Below w.heap.size w w1 := by rw [hw]; exact Lib.below_grow _ w (Nat.le_refl _) k os
  clear hw
  rw [E.out]
  have e3 := E3.out
  go_wp2_with fail
  refine (rep0 _).mono ?_
  rintro e w2 ⟨rfl, hw⟩
  rw [hw]
  clear hw
  go_wp2_with fail
  go_ret
  exact ⟨by rw [E2.out]; rfl, hb⟩
end Go.Proofs.YtoaimgfekbnijaaDoor
