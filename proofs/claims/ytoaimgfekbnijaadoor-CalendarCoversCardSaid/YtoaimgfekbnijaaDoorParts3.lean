/- Contracts: the reference's Shift. -/
import Derived.Test.YtoaimgfekbnijaaDoorParts2
namespace Go.Proofs.YtoaimgfekbnijaaDoor
open Go Go.RowKit
theorem tm7f (x : Int) : (x.tmod 7) % 7 = x % 7 := by
  have := tm7e x
  omega
theorem two_per (w : World) (a b m : Int) : ∃ W, Hid ((w.alloc (.cells #[.int .i64 a, .int .i64 b, .int .i64 m] 23)).alloc (.cells #[.int .i64 0, .int .i64 0, .int .i64 0] 23) = W) ∧ Below w.heap.size w W ∧
      W.cell? ⟨w.heap.size, 0, none⟩ = some (.int .i64 a) ∧ W.cell? ⟨w.heap.size, 1, none⟩ = some (.int .i64 b) ∧ W.cell? ⟨w.heap.size, 2, none⟩ = some (.int .i64 m) ∧ Res 3 (w.heap.size + 1) W W ∧ w.heap.size + 2 ≤ W.heap.size :=
    ⟨_, Lib.hid rfl, below_alloc2 w _ _, by simp, by simp, by simp, ⟨fun i hi => by
        match i, hi with
        | 0, _ => exact ⟨.int .i64 0, by simp⟩
        | 1, _ => exact ⟨.int .i64 0, by simp⟩
        | 2, _ => exact ⟨.int .i64 0, by simp⟩, fun i hi => by
        match i, hi with
        | 0, _ => simp
        | 1, _ => simp
        | 2, _ => simp, Below.refl _ _⟩, by simp⟩
set_option maxRecDepth 100000 in
set_option maxHeartbeats 1000000 in
theorem qShift_ok (a b d : Int) (n s : Nat) (w : World) (ha1 : -200000 ≤ a) (ha2 : a ≤ 200000) (hb1 : -200000 ≤ b) (hb2 : b ≤ 200000) (hd1 : -200000 ≤ d) (hd2 : d ≤ 200000) (hn : n ≤ 127) (hs : d % 7 = (s : Int)) :
    Calls Tryd.prog 19 #[.agg #[.int .i64 a, .int .i64 b, .int .i64 n], .int .i64 d] w fun r w' => r = .returned (.agg #[.int .i64 (a + d), .int .i64 (b + d), .int .i64 (refN n s 7 : Nat)]) ∧ Below w.heap.size w w' := by
  obtain ⟨W, HW, hb0, hc0, hc1, hc2, R0, hsz⟩ := two_per w a b n
  have HS := Lib.hid hs
  clear hs
  go_enter Tryd.func19, Tryd.ntmps19
  go_wp2_with fail
  rw [HW.out]
  go_loop [5, 6, 7] (fun x b i => ∃ k : Nat, k ≤ 7 ∧ i = .int .i64 k ∧ b = .int .i64 ((2 ^ k : Nat) : Int) ∧ x = .int .i64 (refN n s k : Nat)) (fun _ _ i => 7 - (intOf i).toNat)
  case atStart => exact ⟨0, by omega, rfl, rfl, rfl⟩
  case round =>
    obtain ⟨k, hk, rfl, rfl, rfl⟩ := hrel
    have hr := refN_bd n s k
    by_cases hlt : k < 7
    · have hp : 2 ^ k ≤ 64 := Nat.le_trans (Nat.pow_le_pow_right (by decide) (show k ≤ 6 by omega)) (by decide)
      have HP : Hid (2 ^ (k + 1) = 2 ^ k * 2) := Lib.hid (Nat.pow_succ _ _)
      have HR : Hid (refN n s (k + 1) = refN n s k + (if bitN n ((k + 7 - s) % 7) = true then 2 ^ k else 0)) := Lib.hid rfl
      have hx1 := (tm7_bd ((k : Int) - d)).1
      have hx2 := (tm7_bd ((k : Int) - d)).2
      have hq : ((k : Int) - d) % 7 = (((k + 7 - s) % 7 : Nat) : Int) := by have := HS.out; omega
      have HE1 : Hid ((((k : Int) - d).tmod 7 + 7).tmod 7 = (((k + 7 - s) % 7 : Nat) : Int)) := Lib.hid (by rw [tm7]; exact hq)
      have HE2 : Hid ((((k : Int) - d).tmod 7 + 7) % 7 = (((k + 7 - s) % 7 : Nat) : Int)) := Lib.hid (by rw [tm7e]; exact hq)
      have HE3 : Hid (((k : Int) - d).tmod 7 % 7 = (((k + 7 - s) % 7 : Nat) : Int)) := Lib.hid (by rw [tm7f]; exact hq)
      generalize 2 ^ k = p at *
      generalize refN n s k = x at *
      generalize hj : (k + 7 - s) % 7 = j at *
      have hj7 : j < 7 := by omega
      clear hj hq
      cases hbit : bitN n j
      · have HR0 : Hid (refN n s (k + 1) = x) := Lib.hid (by rw [HR.out, hbit]; rfl)
        have HB := Lib.hid hbit
        clear hbit HR
        go_wp2_with fail
        first | rw [HE1.out] | rw [HE2.out] | rw [HE3.out]
        refine (InMask_nat n j _ (by omega) (by omega)).mono ?_
        rintro e w2 ⟨rfl, hw⟩
        rw [hw, HB.out]
        clear hw
        go_wp2_with fail
        go_round
        case rel => exact ⟨k + 1, by omega, by go_num, by rw [HP.out]; go_num, by rw [HR0.out]⟩
        case measure => simp [intOf]; omega
      · have HR0 : Hid (refN n s (k + 1) = x + p) := Lib.hid (by rw [HR.out, hbit]; rfl)
        have HB := Lib.hid hbit
        clear hbit HR
        go_wp2_with fail
        first | rw [HE1.out] | rw [HE2.out] | rw [HE3.out]
        refine (InMask_nat n j _ (by omega) (by omega)).mono ?_
        rintro e w2 ⟨rfl, hw⟩
        rw [hw, HB.out]
        clear hw
        go_wp2_with fail
        go_round
        case rel => exact ⟨k + 1, by omega, by go_num, by rw [HP.out]; go_num, by rw [HR0.out]; go_num⟩
        case measure => simp [intOf]; omega
    · obtain rfl : k = 7 := by omega
      obtain ⟨v0, q0⟩ := R0.cell 0 (by decide)
      obtain ⟨v1, q1⟩ := R0.cell 1 (by decide)
      obtain ⟨v2, q2⟩ := R0.cell 2 (by decide)
      have qf0 := R0.frozen 0 (by decide)
      have qf1 := R0.frozen 1 (by decide)
      have qf2 := R0.frozen 2 (by decide)
      go_wp2_with fail
      exact bodyPost_ret (v := .agg #[.int .i64 (a + d), .int .i64 (b + d), .int .i64 (refN n s 7 : Nat)]) (by simp [results, Tryd.results19, go_sem, q0, q1, q2]) rfl ⟨rfl, hb0.trans ((((R0.set 0 _).set 1 _).set 2 _).below.mono (by omega))⟩
end Go.Proofs.YtoaimgfekbnijaaDoor
