/- Contracts: the reference's checks of ranges and days; arithmetic of years. -/
import Derived.Test.YtoaimgfekbnijaaDoorPrint2
namespace Go.Proofs.YtoaimgfekbnijaaDoor
open Go.RowKit
def IsTrue (w : World) (r : Ending) (w' : World) : Prop := r = .returned (.bool true) ∧ Below w.heap.size w w'
theorem qRange_any (n a b : Int) (w : World) :
    Calls Tryd.prog 18 #[.int .i64 n, .int .i64 a, .int .i64 b] w fun r w' => r = .returned (.int .i64 (rng n a b)) ∧ w' = w := by
  by_cases h1 : n < a
  · have H : Hid (rng n a b = 3) := Lib.hid (by unfold rng; rw [if_neg (by omega)])
    go_enter Tryd.func18, Tryd.ntmps18
    go_wp2_with fail
    go_ret
    exact ⟨by rw [H.out]; rfl, rfl⟩
  · by_cases h2 : b < n
    · have H : Hid (rng n a b = 3) := Lib.hid (by unfold rng; rw [if_neg (by omega)])
      go_enter Tryd.func18, Tryd.ntmps18
      go_wp2_with fail
      go_ret
      exact ⟨by rw [H.out]; rfl, rfl⟩
    · have H : Hid (rng n a b = 0) := Lib.hid (by unfold rng; rw [if_pos (by omega)])
      go_enter Tryd.func18, Tryd.ntmps18
      go_wp2_with fail
      go_ret
      exact ⟨by rw [H.out]; rfl, rfl⟩
theorem qCheckDay_any (d : Int) (w : World) :
    Calls Tryd.prog 24 #[.int .i64 d] w fun r w' => r = .returned (.int .i64 (rng d 0 99999)) ∧ w' = w := by
  go_enter Tryd.func24, Tryd.ntmps24
  go_wp2_with (go_at_call 18; refine (qRange_any _ _ _ _).mono ?_; rintro e w' ⟨rfl, rfl⟩)
  go_ret
  exact ⟨rfl, rfl⟩
theorem db28 (y : Int) (h1 : 2000 ≤ y) (h2 : y ≤ 2071) : Cal.db (y + 28) = Cal.db y + 10227 := by unfold Cal.db Cal.lp; omega
theorem leap28 (y : Int) (h1 : 2000 ≤ y) (h2 : y ≤ 2071) : Cal.leap (y + 28) = Cal.leap y := by
  unfold Cal.leap Cal.lp
  exact decide_eq_decide.2 (by omega)
theorem ml28 (y : Int) (m : Nat) (h1 : 2000 ≤ y) (h2 : y ≤ 2071) : Cal.ml (y + 28) m = Cal.ml y m := by unfold Cal.ml; rw [leap28 y h1 h2]
theorem cum28 (y : Int) (m : Nat) (h1 : 2000 ≤ y) (h2 : y ≤ 2071) : Cal.cum (y + 28) m = Cal.cum y m := by
  induction m with
  | zero => rfl
  | succ n ih => rw [Cal.cum, Cal.cum, ih, ml28 y _ h1 h2]
theorem date_dn {d y t : Int} {m : Nat} (h : IsDate d y m t) : Cal.dn y m t = d := by
  have := h.t0
  unfold Cal.dn; omega
theorem date_ml {d y t : Int} {m : Nat} (h : IsDate d y m t) : t ≤ Cal.ml y m := by
  obtain ⟨y1, y2, d1, d2, m1, m2, r1, r2, t0⟩ := h
  obtain ⟨k, rfl⟩ : ∃ k, m = k + 1 := ⟨m - 1, by omega⟩
  simp only [Nat.add_sub_cancel] at *
  rw [Cal.cum] at r2
  omega
theorem day28 {d y t : Int} {m : Nat} (h : IsDate d y m t) (hy : y ≤ 2071) : dayErr (y + 28) m t = 0 ∧ Cal.dn (y + 28) (m : Int).toNat t = d + 10227 := by
  have h1 := h.y1
  have hm := h.m1; have hm2 := h.m2
  have ht := date_t h
  have e : Cal.dn (y + 28) (m : Int).toNat t = d + 10227 := by
    rw [Int.toNat_natCast, ← date_dn h]
    unfold Cal.dn
    rw [db28 y h1 hy, cum28 y _ h1 hy]; omega
  refine ⟨?_, e⟩
  have hdm := Cal.db_mono (y + 1) 2072 (by omega)
  have h72 : Cal.db 2072 = 26298 := by decide
  have hd2 := h.d2
  unfold dayErr dayIn
  rw [rng_ok (by omega) (by omega), rng_ok (by omega) (by omega), rng_ok (by omega) (by omega), if_neg (by simp [fst]), e, Int.toNat_natCast, ml28 y m h1 hy, if_neg (by have := date_ml h; omega)]
theorem wd28 (d : Int) : Cal.wd (d + 10227) = Cal.wd d := by unfold Cal.wd; omega
theorem dayErr_month (y : Int) (k : Nat) (d : Int) (h1 : 2000 ≤ y) (h2 : y ≤ 2272) (hk1 : 1 ≤ k) (hk2 : k ≤ 12) (hd1 : 28 ≤ d) (hd2 : d ≤ 31) : dayErr y k d = if d ≤ Cal.ml y k then 0 else 7 := by
  have hm := Cal.ml_bd y k hk1 hk2
  unfold dayErr dayIn
  rw [rng_ok (by omega) (by omega), rng_ok (by omega) (by omega), rng_ok (by omega) (by omega), if_neg (by simp [fst]), Int.toNat_natCast]
  by_cases h : d ≤ Cal.ml y k
  · obtain ⟨j, rfl⟩ : ∃ j, k = j + 1 := ⟨k - 1, by omega⟩
    have hc := cum_le y (j + 1) 12 (by omega) (by omega)
    have h12 := Cal.cum_12 y
    have hs := Cal.db_succ y
    have hmo := Cal.db_mono (y + 1) 2273 (by omega)
    have h73 := Cal.db_2273
    have : Cal.dn y (j + 1) d ≤ 99999 := by
      unfold Cal.dn
      rw [Cal.cum] at hc
      simp only [Nat.add_sub_cancel]
      omega
    rw [if_neg (by omega), if_pos h]
  · rw [if_pos (by omega), if_neg h]
theorem err11 (y : Int) (h1 : 2000 ≤ y) (h2 : y ≤ 2273) : dayErr y 1 1 = 0 ∧ Cal.dn y (1 : Int).toNat 1 = Cal.db y := by
  have e : Cal.dn y (1 : Int).toNat 1 = Cal.db y := by
    show Cal.db y + 1 - 1 + Cal.cum y 0 = _
    simp [Cal.cum]
  refine ⟨?_, e⟩
  have hmo := Cal.db_mono y 2273 h2
  have h73 := Cal.db_2273
  have hm : Cal.ml y (1 : Int).toNat = 31 := by rw [show (1 : Int).toNat = 1 from rfl, Cal.ml_ne y 1 (by decide)]; rfl
  unfold dayErr dayIn
  rw [rng_ok (by omega) (by omega), rng_ok (by omega) (by omega), rng_ok (by omega) (by omega), if_neg (by simp [fst]), hm, e, if_neg (by omega)]
def lastOf (l : Int) (j : Nat) : Int := if j = 28 then 0 else if (j : Int) - 1 ≤ l then (j : Int) - 1 else l
theorem lastOf_28 (l : Int) : lastOf l 28 = 0 := by unfold lastOf; rw [if_pos rfl]
theorem lastOf_ok (l : Int) (j : Nat) (h : 28 ≤ j) (h2 : (j : Int) ≤ l) : lastOf l (j + 1) = j := by
  unfold lastOf; rw [if_neg (by omega), if_pos (by omega)]; omega
theorem lastOf_no (l : Int) (j : Nat) (h : 28 ≤ j) (hl : 28 ≤ l) (h2 : l < j) : lastOf l (j + 1) = lastOf l j := by
  unfold lastOf
  rw [if_neg (by omega), if_neg (by omega), if_neg (by omega)]
  by_cases h3 : (j : Int) - 1 ≤ l
  · rw [if_pos h3]; omega
  · rw [if_neg h3]
theorem lastOf_end (l : Int) (h : l ≤ 31) : lastOf l 32 = l := by
  unfold lastOf; rw [if_neg (by omega)]; split <;> omega
end Go.Proofs.YtoaimgfekbnijaaDoor
