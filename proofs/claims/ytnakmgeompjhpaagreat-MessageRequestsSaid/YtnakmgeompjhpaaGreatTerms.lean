
/- Contracts of package check: names, optional names, kinds. -/
import Derived.Test.YtnakmgeompjhpaaGreatIsName
namespace Go.Proofs.YtnakmgeompjhpaaGreat
open Go Go.RowKit
def nameE (s : ByteArray) : Int := unl (decide (isName s)) 8
theorem CName_any (s : ByteArray) (w : World) : Calls Tryz.prog 31 #[.string s] w fun r w' => r = .returned (.int .i64 (nameE s)) ∧ Below w.heap.size w w' := by
  go_enter Tryz.func31, Tryz.ntmps31
  go_wp2_with fail
  refine (isName_any _ _).mono ?_
  rintro e w1 ⟨rfl, hb⟩
  go_wp2_with fail
  refine (unless_any _ _ _).mono ?_
  rintro e w2 ⟨rfl, rfl⟩
  go_wp2_with fail
  go_ret
  exact ⟨rfl, hb⟩
def optE (s : ByteArray) : Int := unl (s.toList == [] || decide (isName s)) 8
theorem COpt_any (s : ByteArray) (w : World) : Calls Tryz.prog 32 #[.string s] w fun r w' => r = .returned (.int .i64 (optE s)) ∧ Below w.heap.size w w' := by
  cases h : (s.toList == [])
  · have HO : Hid (optE s = unl (decide (isName s)) 8) := Lib.hid (by unfold optE; rw [h]; rfl)
    go_enter Tryz.func32, Tryz.ntmps32
    go_wp2_with fail
    refine (isName_any _ _).mono ?_
    rintro e w1 ⟨rfl, hb⟩
    go_wp2_with fail
    refine (unless_any _ _ _).mono ?_
    rintro e w2 ⟨rfl, rfl⟩
    go_wp2_with fail
    go_ret
    exact ⟨by rw [HO.out]; rfl, hb⟩
  · have HO : Hid (optE s = 0) := Lib.hid (by unfold optE; rw [h]; rfl)
    go_enter Tryz.func32, Tryz.ntmps32
    go_wp2_with fail
    refine (unless_t _ _).mono ?_
    rintro e w2 ⟨rfl, rfl⟩
    go_wp2_with fail
    go_ret
    exact ⟨by rw [HO.out]; rfl, Below.refl _ _⟩
def isKindB (s : ByteArray) : Bool := s.toList == [65] || s.toList == [68]
theorem CIsKind_any (s : ByteArray) (w : World) : Calls Tryz.prog 73 #[.string s] w fun r w' => r = .returned (.bool (isKindB s)) ∧ w' = w := by
  cases h1 : (s.toList == [65])
  · have HK : Hid (isKindB s = (s.toList == [68])) := Lib.hid (by unfold isKindB; rw [h1]; rfl)
    go_enter Tryz.func73, Tryz.ntmps73
    go_wp2_with fail
    go_ret
    exact ⟨by rw [HK.out]; rfl, rfl⟩
  · have HK : Hid (isKindB s = true) := Lib.hid (by unfold isKindB; rw [h1]; rfl)
    go_enter Tryz.func73, Tryz.ntmps73
    go_wp2_with fail
    go_ret
    exact ⟨by rw [HK.out]; rfl, rfl⟩
def kindE (s : ByteArray) : Int := unl (isKindB s) 13
theorem CKind_any (s : ByteArray) (w : World) : Calls Tryz.prog 33 #[.string s] w fun r w' => r = .returned (.int .i64 (kindE s)) ∧ w' = w := by
  go_enter Tryz.func33, Tryz.ntmps33
  go_wp2_with fail
  refine (CIsKind_any _ _).mono ?_
  rintro e w1 ⟨rfl, rfl⟩
  go_wp2_with fail
  refine (unless_any _ _ _).mono ?_
  rintro e w2 ⟨rfl, rfl⟩
  go_wp2_with fail
  go_ret
  exact ⟨rfl, rfl⟩
theorem CMinute_any (n : Int) (w : World) : Calls Tryz.prog 36 #[.int .i64 n] w fun r w' => r = .returned (.int .i64 (rng n 0 1439)) ∧ w' = w := by
  go_enter Tryz.func36, Tryz.ntmps36
  go_wp2_with fail
  refine (checkRange_any _ _ _ _).mono ?_
  rintro e w' ⟨rfl, rfl⟩
  go_wp2_with fail
  go_ret
  exact ⟨rfl, rfl⟩
end Go.Proofs.YtnakmgeompjhpaaGreat
