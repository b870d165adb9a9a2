
/- Contracts of package calendar: seasons. -/
import Derived.Test.YtccanfeagfkehabGreatDoorCal3
namespace Go.Proofs.YtccanfeagfkehabGreatDoor
open Go.RowKit
def isS (s : ByteArray) : Bool := s.toList == [83]
def isW (s : ByteArray) : Bool := s.toList == [87]
def kindErr (s : ByteArray) : Int := if isS s = true ∨ isW s = true then 0 else 13
def seasonErr (y : Int) (s : ByteArray) : Int := fst [rng y 2000 2272, kindErr s]
set_option maxRecDepth 100000 in
theorem CheckSeason_any (y : Int) (s : ByteArray) (w : World) :
    Calls Tryz.prog 30 #[.agg #[.int .i64 y, .string s]] w fun r w' => r = .returned (.int .i64 (seasonErr y s)) ∧ Below w.heap.size w w' := by
  have hbl : Below w.heap.size w (w.alloc (.cells #[.int .i64 y, .string s] 25)).drew := (below_alloc w _).drew
  cases h1 : (s.toList == [83])
  · cases h2 : (s.toList == [87])
    · have HK : Hid (kindErr s = 13) := Lib.hid (by simp [kindErr, isS, isW, h1, h2])
      go_enter Tryz.func30, Tryz.ntmps30
      go_wp2_with fail
      refine still_tail 12 (by kernel_rfl) (by kernel_rfl) ?_
      simp only [List.take_succ_cons, List.take_zero, List.drop_succ_cons, List.drop_zero]
      repeat (refine wpStill_step (fun K hK => ?_); go_simp; (first | (with_reducible refine hK _ ?_) | (with_reducible refine ⟨_, checkRange_any _ _ _ _, hK _ ?_⟩) | (with_reducible refine ⟨_, unless_t _ _, hK _ ?_⟩) | (with_reducible refine ⟨_, unless_f _ _, hK _ ?_⟩)); clear hK K)
      refine wpStill_nil ?_
      obtain ⟨W, hW⟩ : ∃ W, (w.alloc (.cells #[.int .i64 y, .string s] 25)).drew = W := ⟨_, rfl⟩
      rw [hW] at hbl ⊢
      clear hW
      go_wp2_with fail
      refine (fe_new [_, _] _ _ _ _ _ rfl rfl (by simp)).mono ?_
      rintro e w1 ⟨rfl, hw⟩
      have hbl2 : Below w.heap.size w w1 := by rw [hw]; exact b_then hbl (below_alloc _ _)
      clear hw
      go_wp2_with fail
      go_ret
      exact ⟨ret_int (by unfold seasonErr; rw [HK.out]), hbl2⟩
    · have HK : Hid (kindErr s = 0) := Lib.hid (by simp [kindErr, isW, h2])
      go_enter Tryz.func30, Tryz.ntmps30
      go_wp2_with fail
      refine still_tail 12 (by kernel_rfl) (by kernel_rfl) ?_
      simp only [List.take_succ_cons, List.take_zero, List.drop_succ_cons, List.drop_zero]
      repeat (refine wpStill_step (fun K hK => ?_); go_simp; (first | (with_reducible refine hK _ ?_) | (with_reducible refine ⟨_, checkRange_any _ _ _ _, hK _ ?_⟩) | (with_reducible refine ⟨_, unless_t _ _, hK _ ?_⟩) | (with_reducible refine ⟨_, unless_f _ _, hK _ ?_⟩)); clear hK K)
      refine wpStill_nil ?_
      obtain ⟨W, hW⟩ : ∃ W, (w.alloc (.cells #[.int .i64 y, .string s] 25)).drew = W := ⟨_, rfl⟩
      rw [hW] at hbl ⊢
      clear hW
      go_wp2_with fail
      refine (fe_new [_, _] _ _ _ _ _ rfl rfl (by simp)).mono ?_
      rintro e w1 ⟨rfl, hw⟩
      have hbl2 : Below w.heap.size w w1 := by rw [hw]; exact b_then hbl (below_alloc _ _)
      clear hw
      go_wp2_with fail
      go_ret
      exact ⟨ret_int (by unfold seasonErr; rw [HK.out]), hbl2⟩
  · have HK : Hid (kindErr s = 0) := Lib.hid (by simp [kindErr, isS, h1])
    go_enter Tryz.func30, Tryz.ntmps30
    go_wp2_with fail
    refine still_tail 12 (by kernel_rfl) (by kernel_rfl) ?_
    simp only [List.take_succ_cons, List.take_zero, List.drop_succ_cons, List.drop_zero]
    repeat (refine wpStill_step (fun K hK => ?_); go_simp; (first | (with_reducible refine hK _ ?_) | (with_reducible refine ⟨_, checkRange_any _ _ _ _, hK _ ?_⟩) | (with_reducible refine ⟨_, unless_t _ _, hK _ ?_⟩) | (with_reducible refine ⟨_, unless_f _ _, hK _ ?_⟩)); clear hK K)
    refine wpStill_nil ?_
    obtain ⟨W, hW⟩ : ∃ W, (w.alloc (.cells #[.int .i64 y, .string s] 25)).drew = W := ⟨_, rfl⟩
    rw [hW] at hbl ⊢
    clear hW
    go_wp2_with fail
    refine (fe_new [_, _] _ _ _ _ _ rfl rfl (by simp)).mono ?_
    rintro e w1 ⟨rfl, hw⟩
    have hbl2 : Below w.heap.size w w1 := by rw [hw]; exact b_then hbl (below_alloc _ _)
    clear hw
    go_wp2_with fail
    go_ret
    exact ⟨ret_int (by unfold seasonErr; rw [HK.out]), hbl2⟩

def fDay (y : Int) (s : ByteArray) : Int := Cal.ls y (if isS s = true then 3 else 10)
theorem firstDay_any (y : Int) (s : ByteArray) (w : World) (ht : HeldTab w) (h1 : 2000 ≤ y) (h2 : y ≤ 2300) :
    Calls Tryz.prog 106 #[.agg #[.int .i64 y, .string s]] w fun r w' => r = .returned (.int .i64 (fDay y s)) ∧ Below w.heap.size w w' := by
  have hbl : Below w.heap.size w (w.alloc (.cells #[.int .i64 y, .string s] 25)) := below_alloc w _
  have ht1 := ht.below hbl
  cases h : (s.toList == [83])
  · have HF : Hid (fDay y s = Cal.ls y 10) := Lib.hid (by simp [fDay, isS, h])
    go_enter Tryz.func106, Tryz.ntmps106
    go_wp2_with fail
    refine (lastSunday_any _ _ _ ht1 h1 h2 (by omega) (by omega)).mono ?_
    rintro e w1 ⟨rfl, rfl⟩
    go_wp2_with fail
    go_ret
    exact ⟨ret_int (by rw [HF.out]), hbl⟩
  · have HF : Hid (fDay y s = Cal.ls y 3) := Lib.hid (by simp [fDay, isS, h])
    go_enter Tryz.func106, Tryz.ntmps106
    go_wp2_with fail
    refine (lastSunday_any _ _ _ ht1 h1 h2 (by omega) (by omega)).mono ?_
    rintro e w1 ⟨rfl, rfl⟩
    go_wp2_with fail
    go_ret
    exact ⟨ret_int (by rw [HF.out]), hbl⟩
theorem isS_W : isS ⟨#[87]⟩ = false := by decide +kernel
theorem isS_S : isS ⟨#[83]⟩ = true := by decide +kernel
theorem isW_W : isW ⟨#[87]⟩ = true := by decide +kernel
theorem isW_S : isW ⟨#[83]⟩ = false := by decide +kernel
def follY (y : Int) (s : ByteArray) : Int := if isS s = true then y else y + 1
def follK (s : ByteArray) : ByteArray := if isS s = true then ⟨#[87]⟩ else ⟨#[83]⟩
theorem following_any (y : Int) (s : ByteArray) (w : World) (h1 : 0 ≤ y) (h2 : y ≤ 3000) :
    Calls Tryz.prog 130 #[.agg #[.int .i64 y, .string s]] w fun r w' => r = .returned (.agg #[.int .i64 (follY y s), .string (follK s)]) ∧ Below w.heap.size w w' := by
  cases h : (s.toList == [83])
  · have HF : Hid (follY y s = y + 1 ∧ follK s = ⟨#[83]⟩) := Lib.hid (by simp [follY, follK, isS, h])
    go_enter Tryz.func130, Tryz.ntmps130
    go_wp2_with fail
    exact bodyPost_ret (v := .agg #[.int .i64 (y + 1), .string ⟨#[83]⟩]) (by simp [results, Tryz.results130, go_sem]) rfl ⟨by rw [HF.out.1, HF.out.2], below_alloc2 _ _ _⟩
  · have HF : Hid (follY y s = y ∧ follK s = ⟨#[87]⟩) := Lib.hid (by simp [follY, follK, isS, h])
    go_enter Tryz.func130, Tryz.ntmps130
    go_wp2_with fail
    exact bodyPost_ret (v := .agg #[.int .i64 y, .string ⟨#[87]⟩]) (by simp [results, Tryz.results130, go_sem]) rfl ⟨by rw [HF.out.1, HF.out.2], below_alloc2 _ _ _⟩
def lDay (y : Int) (s : ByteArray) : Int := fDay (follY y s) (follK s) - 1
theorem ls_bd (y : Int) (m : Nat) (h1 : 2000 ≤ y) (h2 : y ≤ 2300) (h3 : m ≤ 12) : -10 ≤ Cal.ls y m ∧ Cal.ls y m ≤ 150000 := by
  have := Cal.dn_bd y m 31 h1 h2 h3 (by omega) (by omega)
  unfold Cal.ls; omega
theorem fDay_bd (y : Int) (s : ByteArray) (h1 : 2000 ≤ y) (h2 : y ≤ 2300) : -10 ≤ fDay y s ∧ fDay y s ≤ 150000 := by
  unfold fDay; exact ls_bd _ _ h1 h2 (by split <;> omega)
theorem follY_bd (y : Int) (s : ByteArray) : y ≤ follY y s ∧ follY y s ≤ y + 1 := by unfold follY; split <;> omega
theorem lastDay_any (y : Int) (s : ByteArray) (w : World) (ht : HeldTab w) (h1 : 2000 ≤ y) (h2 : y ≤ 2290) :
    Calls Tryz.prog 107 #[.agg #[.int .i64 y, .string s]] w fun r w' => r = .returned (.int .i64 (lDay y s)) ∧ Below w.heap.size w w' := by
  have hbl : Below w.heap.size w (w.alloc (.cells #[.int .i64 y, .string s] 25)) := below_alloc w _
  have hy := follY_bd y s
  have hd := fDay_bd (follY y s) (follK s) (by omega) (by omega)
  have HL : Hid (lDay y s = fDay (follY y s) (follK s) - 1) := Lib.hid rfl
  go_enter Tryz.func107, Tryz.ntmps107
  go_wp2_with fail
  refine (following_any _ _ _ (by omega) (by omega)).mono ?_
  rintro e w1 ⟨rfl, hb1⟩
  have hb2 := b_then hbl hb1
  have ht2 := ht.below hb2
  clear hbl hb1
  go_wp2_with fail
  refine (firstDay_any _ _ _ ht2 (by omega) (by omega)).mono ?_
  rintro e w2 ⟨rfl, hb3⟩
  have hb4 := b_then hb2 hb3
  clear hb2 hb3
  go_wp2_with fail
  go_ret
  exact ⟨ret_int (by rw [HL.out]), hb4⟩
end Go.Proofs.YtccanfeagfkehabGreatDoor
