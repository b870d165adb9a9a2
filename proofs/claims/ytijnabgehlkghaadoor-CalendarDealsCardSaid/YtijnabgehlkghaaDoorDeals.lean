/- The walk of CalendarDeals. -/
import Derived.Test.YtijnabgehlkghaaDoorDraw2
import Derived.Test.YtijnabgehlkghaaDoorAwake
namespace Go.Proofs.YtijnabgehlkghaaDoor
open Go Go.RowKit
/-- Each of the numbers below n once. -/
structure IsPerm (n : Nat) (g : Nat → Int) : Prop where
  lo : ∀ i, i < n → 0 ≤ g i
  hi : ∀ i, i < n → g i < n
  inj : ∀ i j, i < n → j < n → g i = g j → i = j
theorem perm_up (n : Nat) : IsPerm n upF := ⟨fun i _ => by unfold upF; omega, fun i h => by unfold upF; omega, fun i j _ _ h => by unfold upF at h; omega⟩
theorem swapF_eq (g : Nat → Int) (i k j : Nat) : swapF g i k j = g (if j = k then i else if j = i then k else j) := by
  unfold swapF
  by_cases h1 : j = k
  · rw [if_pos h1, if_pos h1]
  · rw [if_neg h1, if_neg h1]
    by_cases h2 : j = i
    · rw [if_pos h2, if_pos h2]
    · rw [if_neg h2, if_neg h2]
theorem perm_swap {n : Nat} {g : Nat → Int} (h : IsPerm n g) {i k : Nat} (hi : i < n) (hk : k < n) : IsPerm n (swapF g i k) := by
  have hs : ∀ j, j < n → (if j = k then i else if j = i then k else j) < n := fun j hj => by split <;> (try split) <;> omega
  refine ⟨fun j hj => ?_, fun j hj => ?_, fun a b ha hb e => ?_⟩
  · rw [swapF_eq]; exact h.lo _ (hs j hj)
  · rw [swapF_eq]; exact h.hi _ (hs j hj)
  · rw [swapF_eq, swapF_eq] at e
    have := h.inj _ _ (hs a ha) (hs b hb) e
    split at this <;> split at this <;> (try split at this) <;> (try split at this) <;> omega
theorem deal_k (m : Nat) (x : Int) : (nextX x % ((m : Int) + 1 + 1)).toNat < m + 2 := by
  have h1 := Int.emod_nonneg (nextX x) (show (m : Int) + 1 + 1 ≠ 0 by omega)
  have h2 := Int.emod_lt_of_pos (nextX x) (show 0 < (m : Int) + 1 + 1 by omega)
  omega
theorem perm_deal {n : Nat} : ∀ (m : Nat) (x : Int) (g : Nat → Int), m < n → IsPerm n g → IsPerm n (deal m x g)
  | 0, _, _, _, h => h
  | m + 1, x, g, hm, h => by
    have := deal_k m x
    exact perm_deal m (nextX x) _ (by omega) (perm_swap h (by omega) (by omega))
theorem deal_hi : ∀ (m : Nat) (x : Int) (g : Nat → Int) (q : Nat), m < q → deal m x g q = g q
  | 0, _, _, _, _ => rfl
  | m + 1, x, g, q, h => by
    have hk := deal_k m x
    show deal m (nextX x) (swapF g (m + 1) _) q = g q
    rw [deal_hi m _ _ q (by omega)]
    unfold swapF
    rw [if_neg (by omega), if_neg (by omega)]
theorem perm_draw (key : Int) (n : Nat) : IsPerm n (drawF key n) := by
  cases n with
  | zero => exact ⟨fun i h => absurd h (Nat.not_lt_zero _), fun i h => absurd h (Nat.not_lt_zero _), fun i j h => absurd h (Nat.not_lt_zero _)⟩
  | succ n => exact perm_deal _ _ _ (by omega) (perm_up _)
theorem draw_last (key : Int) (m : Nat) : drawF key (m + 2) (m + 1) = nextX key % ((m : Int) + 1 + 1) := by
  have hk := deal_k m key
  have h1 := Int.emod_nonneg (nextX key) (show (m : Int) + 1 + 1 ≠ 0 by omega)
  show deal m (nextX key) (swapF upF (m + 1) _) (m + 1) = _
  rw [deal_hi m _ _ _ (by omega)]
  generalize hq : nextX key % ((m : Int) + 1 + 1) = z at *
  unfold swapF upF
  split
  · omega
  · rw [if_pos rfl]; omega
set_option maxRecDepth 100000 in
set_option maxHeartbeats 1000000 in
theorem IsOrder_ok (n b : Nat) (g : Nat → Int) (w0 w : World) (hn : n ≤ 100000) (hr : Row w0 b n g w) (hp : IsPerm n g) :
    Calls Tryd.prog 48 #[.slice (some ⟨b, 0, none⟩) n n] w fun r w' => r = .returned (.bool true) ∧ ∃ q, w' = w.drewN q := by
  have HR := Lib.hid hr
  have HP := Lib.hid hp
  clear hr hp
  go_enter Tryd.func48, Tryd.ntmps48
  go_wp2_with fail
  go_loopw [3, 4] (fun i _ wr => ∃ j : Nat, j ≤ n ∧ i = .int .i64 j ∧ ∃ q, wr = w.drewN q) (fun i _ _ => n - (intOf i).toNat)
  case atStart => exact ⟨0, Nat.zero_le _, rfl, 0, rfl⟩
  case round =>
    obtain ⟨j, hj, rfl, q, rfl⟩ := hrel
    by_cases hlt : j < n
    · have hc := HR.out.c j hlt
      have g1 := HP.out.lo j hlt
      have g2 := HP.out.hi j hlt
      go_wp2_with fail
      go_loopw [4] (fun k wr => ∃ i : Nat, i ≤ j ∧ k = .int .i64 i ∧ ∃ q, wr = w.drewN q) (fun k _ => j - (intOf k).toNat)
      case atStart => exact ⟨0, Nat.zero_le _, rfl, q, rfl⟩
      case round =>
        obtain ⟨i, hi, rfl, q2, rfl⟩ := hrel
        by_cases hlt2 : i < j
        · have hd := HR.out.c i (by omega)
          have hne : (g i == g j) = false := by
            rw [beq_eq_false_iff_ne]
            intro e
            have := HP.out.inj i j (by omega) hlt e
            omega
          go_wp2_with fail
          go_quiet (fail)
          go_wp2_with fail
          go_roundw
          case rel => exact ⟨i + 1, by omega, by go_num, q2 + nq, by first | rfl | rw [World.drewN_drewN]⟩
          case measure => simp [intOf]; omega
        · obtain rfl : i = j := by omega
          go_wp2_with fail
          go_roundw
          case rel => exact ⟨i + 1, by omega, by go_num, q2, rfl⟩
          case measure => simp [intOf]; omega
    · obtain rfl : j = n := by omega
      go_wp2_with fail
      go_ret
      exact ⟨rfl, q, rfl⟩
end Go.Proofs.YtijnabgehlkghaaDoor
