/- Contracts of package calendar: Date. -/
import Derived.Test.YtoaimgfekbnijaaDoorCal3
namespace Go.Proofs.YtoaimgfekbnijaaDoor
open Go.RowKit
theorem cum_le (y : Int) (j k : Nat) (h : j ≤ k) (hk : k ≤ 12) : Cal.cum y j ≤ Cal.cum y k := by
  induction k with
  | zero => obtain rfl : j = 0 := by omega
            exact Int.le_refl _
  | succ n ih =>
    by_cases e : j = n + 1
    · subst e; exact Int.le_refl _
    · have := ih (by omega) (by omega)
      have hm := Cal.ml_bd y (n + 1) (by omega) hk
      rw [Cal.cum]; omega
/-- The year, the month and the day of a day, as facts. -/
structure IsDate (d y : Int) (m : Nat) (t : Int) : Prop where
  y1 : 2000 ≤ y
  y2 : y ≤ 2273
  d1 : Cal.db y ≤ d
  d2 : d < Cal.db (y + 1)
  m1 : 1 ≤ m
  m2 : m ≤ 12
  r1 : Cal.cum y (m - 1) ≤ d - Cal.db y
  r2 : d - Cal.db y < Cal.cum y m
  t0 : t = d - Cal.db y - Cal.cum y (m - 1) + 1
theorem date_ex (d : Int) (h0 : 0 ≤ d) (h1 : d ≤ 99999) : ∃ y m t, IsDate d y m t := by
  obtain ⟨y, y1, y2, d1, d2⟩ := Cal.year_ex d h0 h1
  have hs := Cal.db_succ y
  obtain ⟨m, m1, m2, r1, r2⟩ := Cal.month_ex y (d - Cal.db y) (by omega) (by omega)
  exact ⟨y, m, _, y1, y2, d1, d2, m1, m2, r1, r2, rfl⟩
def dateVal (y : Int) (m : Nat) (t : Int) : Value := .agg #[.int .i64 y, .int .i64 m, .int .i64 t]
set_option maxRecDepth 100000 in
theorem dateOf_any (d y t : Int) (m : Nat) (w : World) (ht : HeldTab w) (h0 : 0 ≤ d) (h1 : d ≤ 99999) (hd : IsDate d y m t) :
    Calls Tryd.prog 67 #[.int .i64 d] w fun r w' => r = .returned (.agg #[.int .i64 y, .int .i64 m, .int .i64 t]) ∧ Below w.heap.size w w' := by
  obtain ⟨y1, y2, d1, d2, m1, m2, r1, r2, t0⟩ := hd
  have HT0 := Lib.hid t0
  clear t0
  have hdb := Cal.db_bd y y1 (by omega)
  have hs := Cal.db_succ y
  have hlv := Cal.lv_bd y
  have hbl : Below w.heap.size w (w.alloc (.cells #[.int .i64 0, .int .i64 0, .int .i64 0] 45)) := below_alloc w _
  have ht1 := ht.below hbl
  clear hbl
  go_enter Tryd.func67, Tryd.ntmps67
  go_wp2_with fail
  refine (yearOf_any d y _ h0 (by omega) d1 d2 y1 (by omega)).mono ?_
  rintro e w1 ⟨rfl, hw⟩
  rw [hw]
  clear hw
  go_wp2_with fail
  refine (daysBefore_any _ _ (by omega) (by omega)).mono ?_
  rintro e w1 ⟨rfl, hw⟩
  rw [hw]
  clear hw
  go_wp2_with fail
  go_loop [0, 4] (fun a b => ∃ k : Nat, 1 ≤ k ∧ k ≤ m ∧ b = .int .i64 k ∧ a = .int .i64 (d - Cal.db y - Cal.cum y (k - 1))) (fun _ b => m - (intOf b).toNat)
  case atStart => exact ⟨1, by omega, m1, rfl, by simp [Cal.cum]⟩
  case round =>
    obtain ⟨k, hk1, hk2, rfl, rfl⟩ := hrel
    have hcb := Cal.cum_bd y (k - 1) (by omega)
    have hml := Cal.ml_bd y k hk1 (by omega)
    have hck : Cal.cum y k = Cal.cum y (k - 1) + Cal.ml y k := by
      obtain ⟨j, rfl⟩ : ∃ j, k = j + 1 := ⟨k - 1, by omega⟩
      rfl
    by_cases hlt : k < m
    · have hcm := cum_le y k (m - 1) (by omega) (by omega)
      have hge : Cal.ml y k ≤ d - Cal.db y - Cal.cum y (k - 1) := by omega
      have HC := Lib.hid hck
      clear hck
      go_wp2_with fail
      refine (monthLength_any _ _ _ ht1 (by omega) (by omega) (by omega) (by omega)).mono ?_
      rintro e w1 ⟨rfl, hw⟩
      rw [hw, Int.toNat_natCast]
      clear hw
      go_wp2_with fail
      refine (monthLength_any _ _ _ ht1 (by omega) (by omega) (by omega) (by omega)).mono ?_
      rintro e w1 ⟨rfl, hw⟩
      rw [hw, Int.toNat_natCast]
      clear hw
      go_wp2_with fail
      go_round
      case rel => exact ⟨k + 1, by omega, by omega, by go_num, by rw [Nat.add_sub_cancel, HC.out]; go_num⟩
      case measure => simp [intOf]; omega
    · obtain rfl : k = m := by omega
      have hlt2 : d - Cal.db y - Cal.cum y (k - 1) < Cal.ml y k := by omega
      clear hck
      go_wp2_with fail
      refine (monthLength_any _ _ _ ht1 (by omega) (by omega) (by omega) (by omega)).mono ?_
      rintro e w1 ⟨rfl, hw⟩
      rw [hw, Int.toNat_natCast]
      clear hw
      go_wp2_with fail
      exact bodyPost_ret (v := .agg #[.int .i64 y, .int .i64 k, .int .i64 (d - Cal.db y - Cal.cum y (k - 1) + 1)]) (by simp [results, Tryd.results67, go_sem]) rfl ⟨by rw [HT0.out], below_alloc w _⟩
theorem res3 (w : World) (a b c : Int) (T : TypeId) : Res 3 w.heap.size (w.alloc (.cells #[.int .i64 a, .int .i64 b, .int .i64 c] T)) (w.alloc (.cells #[.int .i64 a, .int .i64 b, .int .i64 c] T)) :=
  ⟨fun i hi => by
    match i, hi with
    | 0, _ => exact ⟨.int .i64 a, by simp⟩
    | 1, _ => exact ⟨.int .i64 b, by simp⟩
    | 2, _ => exact ⟨.int .i64 c, by simp⟩, fun i hi => by
    match i, hi with
    | 0, _ => simp
    | 1, _ => simp
    | 2, _ => simp, Below.refl _ _⟩
set_option maxRecDepth 100000 in
theorem Date_ok (d y t : Int) (m : Nat) (w : World) (ht : HeldTab w) (h0 : 0 ≤ d) (h1 : d ≤ 99999) (hd : IsDate d y m t) :
    Calls Tryd.prog 25 #[.int .i64 d] w fun r w' => r = .returned (.tuple #[.agg #[.int .i64 y, .int .i64 m, .int .i64 t], .int .i64 0]) ∧ Below w.heap.size w w' := by
  have HR : Hid (rng d 0 99999 = 0) := Lib.hid (rng_ok h0 h1)
  obtain ⟨W, HW, hb0, R0⟩ : ∃ W, Hid (w.alloc (.cells #[.int .i64 0, .int .i64 0, .int .i64 0] 45) = W) ∧ Below w.heap.size w W ∧ Res 3 w.heap.size W W := ⟨_, Lib.hid rfl, below_alloc w _, res3 w 0 0 0 _⟩
  have htW := ht.below hb0
  go_enter Tryd.func25, Tryd.ntmps25
  go_wp2_with fail
  rw [HW.out]
  refine (checkDay_any _ _).mono ?_
  rintro e w1 ⟨rfl, hw⟩
  rw [hw, HR.out]
  clear hw
  go_wp2_with fail
  refine (dateOf_any d y t m _ htW h0 h1 hd).mono ?_
  rintro e w2 ⟨rfl, hb2⟩
  have R2 := R0.more hb0.size hb2
  obtain ⟨v0, q0⟩ := R2.cell 0 (by decide)
  obtain ⟨v1, q1⟩ := R2.cell 1 (by decide)
  obtain ⟨v2, q2⟩ := R2.cell 2 (by decide)
  have f0 := R2.frozen 0 (by decide)
  have f1 := R2.frozen 1 (by decide)
  have f2 := R2.frozen 2 (by decide)
  have RF := ((R2.set 0 (.int .i64 y)).set 1 (.int .i64 m)).set 2 (.int .i64 t)
  clear hb2
  go_wp2_with fail
  exact bodyPost_ret (v := .tuple #[.agg #[.int .i64 y, .int .i64 m, .int .i64 t], .int .i64 0]) (by simp [results, Tryd.results25, go_sem, q0, q1, q2]) rfl ⟨rfl, hb0.trans RF.below⟩
end Go.Proofs.YtoaimgfekbnijaaDoor
