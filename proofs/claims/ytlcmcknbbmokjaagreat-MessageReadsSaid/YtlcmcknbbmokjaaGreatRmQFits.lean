/- Contract of the reference's fits: a word can be the field. -/
import Derived.Test.YtlcmcknbbmokjaaGreatRmQSplit
import Derived.Test.YtlcmcknbbmokjaaGreatPm2
import Derived.Test.YtlcmcknbbmokjaaGreatRmRMask
namespace Go.Proofs.YtlcmcknbbmokjaaGreat
open Go Go.RowKit Ev
theorem qNumK_ge (t : ByteArray) (K : Nat) (h5 : K ≤ 5) : decide ((0 : Int) ≤ qNumK t K) = decide (allK t K) := by
  unfold qNumK
  by_cases h : allK t K
  · rw [if_pos h]
    have := (nv_bdK t K h5 h.2).1
    simp [h, this]
  · rw [if_neg h]; simp [h]
theorem qpm_ge (t : ByteArray) : decide ((0 : Int) ≤ qpm t) = decide (pmOk t) := by
  unfold qpm
  by_cases h : pmOk t
  · rw [if_pos h]
    have := (nv_bdK t 4 (by decide) h.1.2).1
    have : 0 ≤ pmVal t := by unfold pmVal; omega
    simp [h, this]
  · rw [if_neg h]; simp [h]
set_option maxRecDepth 100000 in
theorem fits0 (t : ByteArray) (w : World) : Calls Tryz.prog 64 #[.int .i64 0, .string t] w fun e w' => e = .returned (.bool (rdOk 0 t)) ∧ Below w.heap.size w w' := by
  have HA : Hid (rdOk 0 t = (asksB t.data.toList || repliesB t.data.toList)) := Lib.hid rfl
  have ha := asks_any t
  have hr := replies_any t
  generalize repliesB t.data.toList = r at *
  cases h : asksB t.data.toList
  · rw [h] at ha HA
    go_enter Tryz.func64, Tryz.ntmps64
    go_wp2_with fail
    refine (ha _).mono ?_
    rintro e w1 ⟨rfl, hb1⟩
    go_wp2_with fail
    refine (hr _).mono ?_
    rintro e w2 ⟨rfl, hb2⟩
    go_wp2_with fail
    go_ret
    exact ⟨by rw [HA.out]; rfl, b_then hb1 hb2⟩
  · rw [h] at ha HA
    go_enter Tryz.func64, Tryz.ntmps64
    go_wp2_with fail
    refine (ha _).mono ?_
    rintro e w1 ⟨rfl, hb1⟩
    go_wp2_with fail
    go_ret
    exact ⟨by rw [HA.out]; rfl, hb1⟩
set_option maxRecDepth 100000 in
theorem fits1 (t : ByteArray) (w : World) : Calls Tryz.prog 64 #[.int .i64 1, .string t] w fun e w' => e = .returned (.bool (rdOk 1 t)) ∧ Below w.heap.size w w' := by
  have HA : Hid (rdOk 1 t = decide (isName t)) := Lib.hid rfl
  go_enter Tryz.func64, Tryz.ntmps64
  go_wp2_with fail
  refine (qIsName_any t _).mono ?_
  rintro e w1 ⟨rfl, hb1⟩
  go_wp2_with fail
  go_ret
  exact ⟨by rw [HA.out]; rfl, hb1⟩
set_option maxRecDepth 100000 in
theorem fits2 (t : ByteArray) (w : World) : Calls Tryz.prog 64 #[.int .i64 2, .string t] w fun e w' => e = .returned (.bool (rdOk 2 t)) ∧ Below w.heap.size w w' := by
  have HA : Hid (rdOk 2 t = decide (isName t)) := Lib.hid rfl
  go_enter Tryz.func64, Tryz.ntmps64
  go_wp2_with fail
  refine (qIsName_any t _).mono ?_
  rintro e w1 ⟨rfl, hb1⟩
  go_wp2_with fail
  go_ret
  exact ⟨by rw [HA.out]; rfl, hb1⟩
set_option maxRecDepth 100000 in
theorem fits3 (t : ByteArray) (w : World) : Calls Tryz.prog 64 #[.int .i64 3, .string t] w fun e w' => e = .returned (.bool (rdOk 3 t)) ∧ Below w.heap.size w w' := by
  have HA : Hid (rdOk 3 t = (t.toList == [65] || t.toList == [68])) := Lib.hid rfl
  cases h : (t.toList == [65])
  · rw [h] at HA
    go_enter Tryz.func64, Tryz.ntmps64
    go_wp2_with fail
    go_ret
    exact ⟨by rw [HA.out]; rfl, Below.refl _ _⟩
  · rw [h] at HA
    go_enter Tryz.func64, Tryz.ntmps64
    go_wp2_with fail
    go_ret
    exact ⟨by rw [HA.out]; rfl, Below.refl _ _⟩
set_option maxRecDepth 100000 in
theorem fits4 (t : ByteArray) (w : World) : Calls Tryz.prog 64 #[.int .i64 4, .string t] w fun e w' => e = .returned (.bool (rdOk 4 t)) ∧ Below w.heap.size w w' := by
  have HA : Hid (rdOk 4 t = decide (isName t)) := Lib.hid rfl
  go_enter Tryz.func64, Tryz.ntmps64
  go_wp2_with fail
  refine (qIsName_any t _).mono ?_
  rintro e w1 ⟨rfl, hb1⟩
  go_wp2_with fail
  go_ret
  exact ⟨by rw [HA.out]; rfl, hb1⟩
set_option maxRecDepth 100000 in
theorem fits5 (t : ByteArray) (w : World) : Calls Tryz.prog 64 #[.int .i64 5, .string t] w fun e w' => e = .returned (.bool (rdOk 5 t)) ∧ Below w.heap.size w w' := by
  have HA : Hid (rdOk 5 t = decide ((0 : Int) ≤ qNumK t 5)) := Lib.hid (qNumK_ge t 5 (by decide)).symm
  have hd := qdigitsK_any t 5 (by decide) (by decide)
  generalize qNumK t 5 = n at *
  go_enter Tryz.func64, Tryz.ntmps64
  go_wp2_with fail
  refine (hd _).mono ?_
  rintro e w1 ⟨rfl, rfl⟩
  go_wp2_with fail
  go_ret
  exact ⟨by rw [HA.out]; rfl, Below.refl _ _⟩
set_option maxRecDepth 100000 in
theorem fits6 (t : ByteArray) (w : World) : Calls Tryz.prog 64 #[.int .i64 6, .string t] w fun e w' => e = .returned (.bool (rdOk 6 t)) ∧ Below w.heap.size w w' := by
  have HA : Hid (rdOk 6 t = decide ((0 : Int) ≤ qNumK t 5)) := Lib.hid (qNumK_ge t 5 (by decide)).symm
  have hd := qdigitsK_any t 5 (by decide) (by decide)
  generalize qNumK t 5 = n at *
  go_enter Tryz.func64, Tryz.ntmps64
  go_wp2_with fail
  refine (hd _).mono ?_
  rintro e w1 ⟨rfl, rfl⟩
  go_wp2_with fail
  go_ret
  exact ⟨by rw [HA.out]; rfl, Below.refl _ _⟩
set_option maxRecDepth 100000 in
theorem fits7 (t : ByteArray) (w : World) : Calls Tryz.prog 64 #[.int .i64 7, .string t] w fun e w' => e = .returned (.bool (rdOk 7 t)) ∧ Below w.heap.size w w' := by
  have HA : Hid (rdOk 7 t = (pmErr t == 0)) := Lib.hid rfl
  have hd := qParseMask_any t
  generalize pmErr t = n at *
  go_enter Tryz.func64, Tryz.ntmps64
  go_wp2_with fail
  refine (hd _).mono ?_
  rintro e w1 ⟨rfl, rfl⟩
  go_wp2_with fail
  go_ret
  exact ⟨by rw [HA.out]; rfl, Below.refl _ _⟩
set_option maxRecDepth 100000 in
theorem fits8 (t : ByteArray) (w : World) : Calls Tryz.prog 64 #[.int .i64 8, .string t] w fun e w' => e = .returned (.bool (rdOk 8 t)) ∧ Below w.heap.size w w' := by
  have HA : Hid (rdOk 8 t = decide ((0 : Int) ≤ qpm t)) := Lib.hid (qpm_ge t).symm
  have hd := qParseMinute_any t
  generalize qpm t = n at *
  go_enter Tryz.func64, Tryz.ntmps64
  go_wp2_with fail
  refine (hd _).mono ?_
  rintro e w1 ⟨rfl, rfl⟩
  go_wp2_with fail
  go_ret
  exact ⟨by rw [HA.out]; rfl, Below.refl _ _⟩
set_option maxRecDepth 100000 in
theorem fits9 (t : ByteArray) (w : World) : Calls Tryz.prog 64 #[.int .i64 9, .string t] w fun e w' => e = .returned (.bool (rdOk 9 t)) ∧ Below w.heap.size w w' := by
  have HA : Hid (rdOk 9 t = decide ((0 : Int) ≤ qNumK t 3)) := Lib.hid (qNumK_ge t 3 (by decide)).symm
  have hd := qdigitsK_any t 3 (by decide) (by decide)
  generalize qNumK t 3 = n at *
  go_enter Tryz.func64, Tryz.ntmps64
  go_wp2_with fail
  refine (hd _).mono ?_
  rintro e w1 ⟨rfl, rfl⟩
  go_wp2_with fail
  go_ret
  exact ⟨by rw [HA.out]; rfl, Below.refl _ _⟩
set_option maxRecDepth 100000 in
theorem fits10 (t : ByteArray) (w : World) : Calls Tryz.prog 64 #[.int .i64 10, .string t] w fun e w' => e = .returned (.bool (rdOk 10 t)) ∧ Below w.heap.size w w' := by
  have HA : Hid (rdOk 10 t = decide ((0 : Int) ≤ qNumK t 1)) := Lib.hid (qNumK_ge t 1 (by decide)).symm
  have hd := qdigitsK_any t 1 (by decide) (by decide)
  generalize qNumK t 1 = n at *
  go_enter Tryz.func64, Tryz.ntmps64
  go_wp2_with fail
  refine (hd _).mono ?_
  rintro e w1 ⟨rfl, rfl⟩
  go_wp2_with fail
  go_ret
  exact ⟨by rw [HA.out]; rfl, Below.refl _ _⟩
set_option maxRecDepth 100000 in
theorem fits11 (t : ByteArray) (w : World) : Calls Tryz.prog 64 #[.int .i64 11, .string t] w fun e w' => e = .returned (.bool (rdOk 11 t)) ∧ Below w.heap.size w w' := by
  have HA : Hid (rdOk 11 t = decide ((0 : Int) ≤ qNumK t 2)) := Lib.hid (qNumK_ge t 2 (by decide)).symm
  have hd := qdigitsK_any t 2 (by decide) (by decide)
  generalize qNumK t 2 = n at *
  go_enter Tryz.func64, Tryz.ntmps64
  go_wp2_with fail
  refine (hd _).mono ?_
  rintro e w1 ⟨rfl, rfl⟩
  go_wp2_with fail
  go_ret
  exact ⟨by rw [HA.out]; rfl, Below.refl _ _⟩
set_option maxRecDepth 100000 in
theorem fits12 (t : ByteArray) (w : World) : Calls Tryz.prog 64 #[.int .i64 12, .string t] w fun e w' => e = .returned (.bool (rdOk 12 t)) ∧ Below w.heap.size w w' := by
  have HA : Hid (rdOk 12 t = (t.toList == [45] || decide (isName t))) := Lib.hid rfl
  cases h : (t.toList == [45])
  · rw [h] at HA
    go_enter Tryz.func64, Tryz.ntmps64
    go_wp2_with fail
    refine (qIsName_any t _).mono ?_
    rintro e w1 ⟨rfl, hb1⟩
    go_wp2_with fail
    go_ret
    exact ⟨by rw [HA.out]; rfl, hb1⟩
  · rw [h] at HA
    go_enter Tryz.func64, Tryz.ntmps64
    go_wp2_with fail
    go_ret
    exact ⟨by rw [HA.out]; rfl, Below.refl _ _⟩
set_option maxRecDepth 100000 in
theorem fits13 (t : ByteArray) (w : World) : Calls Tryz.prog 64 #[.int .i64 13, .string t] w fun e w' => e = .returned (.bool (rdOk 13 t)) ∧ Below w.heap.size w w' := by
  have HA : Hid (rdOk 13 t = (t.toList == [45] || decide (isName t))) := Lib.hid rfl
  cases h : (t.toList == [45])
  · rw [h] at HA
    go_enter Tryz.func64, Tryz.ntmps64
    go_wp2_with fail
    refine (qIsName_any t _).mono ?_
    rintro e w1 ⟨rfl, hb1⟩
    go_wp2_with fail
    go_ret
    exact ⟨by rw [HA.out]; rfl, hb1⟩
  · rw [h] at HA
    go_enter Tryz.func64, Tryz.ntmps64
    go_wp2_with fail
    go_ret
    exact ⟨by rw [HA.out]; rfl, Below.refl _ _⟩
theorem fitsK_any (k : Nat) (hk : k < 14) (t : ByteArray) (w : World) : Calls Tryz.prog 64 #[.int .i64 k, .string t] w fun e w' => e = .returned (.bool (rdOk k t)) ∧ Below w.heap.size w w' := by
  match k, hk with
  | 0, _ => exact fits0 t w
  | 1, _ => exact fits1 t w
  | 2, _ => exact fits2 t w
  | 3, _ => exact fits3 t w
  | 4, _ => exact fits4 t w
  | 5, _ => exact fits5 t w
  | 6, _ => exact fits6 t w
  | 7, _ => exact fits7 t w
  | 8, _ => exact fits8 t w
  | 9, _ => exact fits9 t w
  | 10, _ => exact fits10 t w
  | 11, _ => exact fits11 t w
  | 12, _ => exact fits12 t w
  | 13, _ => exact fits13 t w
theorem undashed_any (t : ByteArray) (w : World) : Calls Tryz.prog 67 #[.string t] w fun e w' => e = .returned (.string (undash t)) ∧ w' = w := by
  have HU : Hid (undash t = if t.toList == [45] then ⟨#[]⟩ else t) := Lib.hid rfl
  cases h : (t.toList == [45])
  · go_enter Tryz.func67, Tryz.ntmps67
    go_wp2_with fail
    go_ret
    exact ⟨by rw [HU.out, h]; rfl, rfl⟩
  · go_enter Tryz.func67, Tryz.ntmps67
    go_wp2_with fail
    go_ret
    exact ⟨by rw [HU.out, h]; rfl, rfl⟩
end Go.Proofs.YtlcmcknbbmokjaaGreat
