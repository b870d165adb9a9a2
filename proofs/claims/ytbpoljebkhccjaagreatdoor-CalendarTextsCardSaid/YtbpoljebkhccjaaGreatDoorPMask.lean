/- Contracts: PrintMask, of package calendar and of the reference. -/
import Derived.Test.YtbpoljebkhccjaaGreatDoorMaskM
import Derived.Test.YtbpoljebkhccjaaGreatDoorRef2
import Derived.Test.YtbpoljebkhccjaaGreatDoorKept
import Derived.Laws.IdiomStrings
namespace Go.Proofs.YtbpoljebkhccjaaGreatDoor
open Go Go.RowKit
theorem addr_add (b j : Nat) : (⟨b, 0, none⟩ : Addr).add j = ⟨b, j, none⟩ := by
  unfold Addr.add
  by_cases h : j = 0 <;> simp [h]
theorem PrintMask_bad (m : Int) (w : World) (h : ¬ (1 ≤ m ∧ m ≤ 127)) :
    Calls Tryz.prog 26 #[.int .i64 m] w fun r w' => r = .returned (.tuple #[.string ⟨#[]⟩, .int .i64 3]) ∧ w' = w := by
  have HR : Hid (rng m 1 127 = 3) := Lib.hid (rng_bad h)
  clear h
  go_enter Tryz.func26, Tryz.ntmps26
  go_wp2_with fail
  refine (checkMask_any _ _).mono ?_
  rintro e w1 ⟨rfl, hw⟩
  rw [hw, HR.out]
  clear hw
  go_wp2_with fail
  exact bodyPost_ret (v := .tuple #[.string ⟨#[]⟩, .int .i64 3]) (by simp [results, Tryz.results26, go_sem]) rfl ⟨rfl, rfl⟩
set_option maxRecDepth 100000 in
set_option maxHeartbeats 1000000 in
theorem PrintMask_ok (n : Nat) (w : World) (h1 : 1 ≤ n) (h2 : n ≤ 127) :
    Calls Tryz.prog 26 #[.int .i64 n] w fun r w' => r = .returned (.tuple #[.string (maskT n), .int .i64 0]) ∧ Below w.heap.size w w' := by
  have HR : Hid (rng n 1 127 = 0) := Lib.hid (rng_ok (by omega) (by omega))
  go_enter Tryz.func26, Tryz.ntmps26
  go_wp2_with fail
  refine (checkMask_any _ _).mono ?_
  rintro e w1 ⟨rfl, hw⟩
  rw [hw, HR.out]
  clear hw
  go_wp2_with fail
  obtain ⟨W, hW, hbW, R0⟩ : ∃ W, w.alloc (.cells #[.int .u8 0, .int .u8 0, .int .u8 0, .int .u8 0, .int .u8 0, .int .u8 0, .int .u8 0] 115) = W ∧ Below w.heap.size w W ∧ Res 7 w.heap.size W W :=
    ⟨_, rfl, below_alloc _ _, ⟨fun i hi => by
      match i, hi with
      | 0, _ | 1, _ | 2, _ | 3, _ | 4, _ | 5, _ | 6, _ => exact ⟨_, by simp; rfl⟩, fun i hi => by
      match i, hi with
      | 0, _ | 1, _ | 2, _ | 3, _ | 4, _ | 5, _ | 6, _ => simp, Below.refl _ _⟩⟩
  rw [hW]
  clear hW
  go_loopw [6, 12] (fun _ i wr => ∃ k : Nat, k ≤ 7 ∧ i = .int .i64 k ∧ Res 7 w.heap.size W wr ∧ Hid (∀ j, j < k → wr.cell? ⟨w.heap.size, j, none⟩ = some (.int .u8 (mb n j : Nat)))) (fun _ i _ => 7 - (intOf i).toNat)
  case atStart => exact ⟨0, by omega, rfl, R0, Lib.hid (fun j hj => absurd hj (Nat.not_lt_zero _))⟩
  case round =>
    obtain ⟨k, hk, rfl, hr, hc⟩ := hrel
    by_cases hlt : k < 7
    · obtain ⟨v, hv⟩ := hr.cell k hlt
      have hf := hr.frozen k hlt
      have hr2 := hr.set k (.int .u8 48)
      have hv2 := set_same (u := .int .u8 48) hv
      have hf2 := hr2.frozen k hlt
      have HST : Hid (∀ (V : World), (∀ j, j < k → V.cell? ⟨w.heap.size, j, none⟩ = some (.int .u8 (mb n j : Nat))) → V.cell? ⟨w.heap.size, k, none⟩ = some (.int .u8 (mb n k : Nat)) → ∀ j, j < k + 1 → V.cell? ⟨w.heap.size, j, none⟩ = some (.int .u8 (mb n j : Nat))) := Lib.hid (fun V ha hb j hj => by
        rcases Nat.lt_or_ge j k with h | h
        · exact ha j h
        · obtain rfl : j = k := by omega
          exact hb)
      have HK1 : Hid (∀ j, j < k → (wr.setCell ⟨w.heap.size, k, none⟩ (.int .u8 48)).cell? ⟨w.heap.size, j, none⟩ = some (.int .u8 (mb n j : Nat))) := Lib.hid (fun j hj => set_other (hc.out j hj) (by simp <;> omega))
      have hbit := and_bit n k h2
      cases hbb : bitN n k
      · rw [hbb] at hbit
        have HM : Hid (mb n k = 48) := Lib.hid (by unfold mb; rw [hbb]; rfl)
        have HF := Lib.hid (HST.out _ HK1.out (by rw [HM.out]; exact hv2))
        clear HST HK1 hbb hc
        go_wp2_with fail
        go_roundw
        case rel => exact ⟨k + 1, by omega, by go_num, hr2, HF⟩
        case measure => simp [intOf]; omega
      · rw [hbb] at hbit
        have HM : Hid (mb n k = 49 + k) := Lib.hid (by unfold mb; rw [hbb]; rfl)
        have hr3 := hr2.set k (.int .u8 (49 + (k : Int)))
        have HF := Lib.hid (HST.out ((wr.setCell ⟨w.heap.size, k, none⟩ (.int .u8 48)).setCell ⟨w.heap.size, k, none⟩ (.int .u8 (49 + (k : Int)))) (fun j hj => set_other (HK1.out j hj) (by simp <;> omega)) (by rw [HM.out]; exact set_same hv2))
        clear HST HK1 hbb hc
        go_wp2_with fail
        go_roundw
        case rel => exact ⟨k + 1, by omega, by go_num, hr3, HF⟩
        case measure => simp [intOf]; omega
    · obtain rfl : k = 7 := by omega
      have hb := hbW.trans hr.below
      have hcv : (convert 116 9 (.slice (some ⟨w.heap.size, 0, none⟩) 7 7)).run Tryz.prog wr = .ok (.string (maskT n)) wr :=
        run_convert_bytes_back wr 116 9 5 ⟨w.heap.size, 0, none⟩ 7 (maskL n) Tryz.underlying116 Tryz.underlying5 Tryz.underlying9 (fun j hj => by
          rw [maskL_get n j hj, addr_add]
          exact hc.out j hj)
      clear hc
      go_wp2_with fail
      exact bodyPost_ret (v := .tuple #[.string (maskT n), .int .i64 0]) (by simp [results, Tryz.results26, go_sem]) rfl ⟨rfl, hb⟩
def qmL (n : Nat) : Nat → List UInt8
  | 0 => []
  | k + 1 => qmL n k ++ [UInt8.ofNat (mb n k)]
theorem qmL_len (n k : Nat) : (qmL n k).length = k := by
  induction k with
  | zero => rfl
  | succ k ih => simp [qmL, ih]
theorem qmL_7 (n : Nat) : qmL n 7 = maskL n := rfl
theorem dig_mb (k : Nat) : (dig (k + 1)) = UInt8.ofNat (49 + k) := by
  unfold dig
  rw [show 48 + (k + 1) = 49 + k by omega]
set_option maxRecDepth 100000 in
set_option maxHeartbeats 1000000 in
theorem qPrintMask_any (n : Nat) (w : World) (h2 : n ≤ 127) :
    Calls Tryz.prog 28 #[.int .i64 n] w fun r w' => r = .returned (.string (maskT n)) ∧ w' = w := by
  go_enter Tryz.func28, Tryz.ntmps28
  go_wp2_with fail
  go_loop [3, 4] (fun s i => ∃ k : Nat, k ≤ 7 ∧ i = .int .i64 k ∧ s = .string ⟨(qmL n k).toArray⟩) (fun _ i => 7 - (intOf i).toNat)
  case atStart => exact ⟨0, by omega, rfl, rfl⟩
  case round =>
    obtain ⟨k, hk, rfl, rfl⟩ := hrel
    by_cases hlt : k < 7
    · have HL := Lib.hid (qmL_len n k)
      cases hbb : bitN n k
      · have HB := Lib.hid hbb
        have HT : Hid ((⟨(qmL n k).toArray⟩ : ByteArray) ++ ⟨#[48]⟩ = ⟨(qmL n (k + 1)).toArray⟩) := Lib.hid (by rw [cat_lists _ [48], qmL]; unfold mb; rw [hbb]; rfl)
        clear hbb
        generalize qmL n k = l at *
        have hl := HL.out
        go_wp2_with fail
        refine (InMask_nat n k _ (by omega) (by omega)).mono ?_
        rintro e w2 ⟨rfl, hw⟩
        rw [hw, HB.out]
        clear hw
        go_wp2_with fail
        go_round
        case rel => exact ⟨k + 1, by omega, by go_num, by rw [← HT.out]⟩
        case measure => simp [intOf]; omega
      · have HB := Lib.hid hbb
        have HT : Hid ((⟨(qmL n k).toArray⟩ : ByteArray) ++ ⟨#[dig (k + 1)]⟩ = ⟨(qmL n (k + 1)).toArray⟩) := Lib.hid (by rw [cat_lists _ [dig (k + 1)], dig_mb]; rw [qmL]; unfold mb; rw [hbb]; rfl)
        have HD : Hid (∀ w, Calls Tryz.prog 88 #[.int .i64 ((k : Int) + 1)] w fun r w' => r = .returned (.string ⟨#[dig (k + 1)]⟩) ∧ w' = w) := Lib.hid (fun w => by
          have := qdigit_any (k + 1) w (by omega)
          rwa [Int.natCast_add] at this)
        clear hbb
        generalize qmL n k = l at *
        have hl := HL.out
        go_wp2_with fail
        refine (InMask_nat n k _ (by omega) (by omega)).mono ?_
        rintro e w2 ⟨rfl, hw⟩
        rw [hw, HB.out]
        clear hw
        go_wp2_with fail
        refine (HD.out _).mono ?_
        rintro e w2 ⟨rfl, hw⟩
        rw [hw]
        clear hw
        go_wp2_with fail
        go_round
        case rel => exact ⟨k + 1, by omega, by go_num, by rw [← HT.out]⟩
        case measure => simp [intOf]; omega
    · obtain rfl : k = 7 := by omega
      go_wp2_with fail
      go_ret
      exact ⟨rfl, rfl⟩
end Go.Proofs.YtbpoljebkhccjaaGreatDoor
