/- The texts of masks. -/
import Derived.Test.YtbpoljebkhccjaaGreatDoorNextB
import Derived.Test.YtbpoljebkhccjaaGreatDoorParts1
namespace Go.Proofs.YtbpoljebkhccjaaGreatDoor
open Go Go.RowKit
def mb (n i : Nat) : Nat := if bitN n i = true then 49 + i else 48
theorem mb_bd (n i : Nat) (h : i < 7) : mb n i < 256 := by unfold mb; split <;> omega
def maskL (n : Nat) : List UInt8 := [UInt8.ofNat (mb n 0), UInt8.ofNat (mb n 1), UInt8.ofNat (mb n 2), UInt8.ofNat (mb n 3), UInt8.ofNat (mb n 4), UInt8.ofNat (mb n 5), UInt8.ofNat (mb n 6)]
def maskT (n : Nat) : ByteArray := ⟨(maskL n).toArray⟩
theorem maskL_get (n j : Nat) (h : j < (maskL n).length) : (((maskL n)[j]'h).toNat : Int) = (mb n j : Nat) := by
  have h7 : j < 7 := h
  have e : (maskL n)[j]'h = UInt8.ofNat (mb n j) := by
    match j, h7 with
    | 0, _ | 1, _ | 2, _ | 3, _ | 4, _ | 5, _ | 6, _ => rfl
  rw [e, UInt8.toNat_ofNat']
  have := mb_bd n j h7
  omega
def mk (s : ByteArray) : Nat → Nat
  | 0 => 0
  | k + 1 => mk s k + (if byteAt s k = 49 + k then 2 ^ k else 0)
theorem mk_bd (s : ByteArray) (k : Nat) : mk s k < 2 ^ k := by
  induction k with
  | zero => simp [mk]
  | succ k ih => rw [mk, Nat.pow_succ]; split <;> omega
def maskForm (s : ByteArray) : Prop := s.size = 7 ∧ ∀ i, i < 7 → byteAt s i = 48 ∨ byteAt s i = 49 + i
instance (s : ByteArray) : Decidable (maskForm s) := by unfold maskForm; infer_instance
def pmV (s : ByteArray) : Nat := if maskForm s then mk s 7 else 0
theorem pmV_lt (s : ByteArray) : pmV s < 128 := by
  unfold pmV
  split
  · exact mk_bd s 7
  · decide
theorem pmV_T : ∀ n, n < 128 → pmV (maskT n) = n := by decide +kernel
theorem T_pmV {s : ByteArray} (h : maskForm s) : maskT (mk s 7) = s := by
  obtain ⟨hs, hb⟩ := h
  obtain ⟨⟨l⟩⟩ := s
  have hl : l.length = 7 := hs
  match l, hl with
  | [c0, c1, c2, c3, c4, c5, c6], _ =>
    have k0 : c0.toNat = 48 ∨ c0.toNat = 49 := hb 0 (by decide)
    have k1 : c1.toNat = 48 ∨ c1.toNat = 50 := hb 1 (by decide)
    have k2 : c2.toNat = 48 ∨ c2.toNat = 51 := hb 2 (by decide)
    have k3 : c3.toNat = 48 ∨ c3.toNat = 52 := hb 3 (by decide)
    have k4 : c4.toNat = 48 ∨ c4.toNat = 53 := hb 4 (by decide)
    have k5 : c5.toNat = 48 ∨ c5.toNat = 54 := hb 5 (by decide)
    have k6 : c6.toNat = 48 ∨ c6.toNat = 55 := hb 6 (by decide)
    have e : ∀ (c : UInt8) (a b : Nat), a < 256 → b < 256 → (c.toNat = a ∨ c.toNat = b) → c = UInt8.ofNat a ∨ c = UInt8.ofNat b := fun c a b ha hb h => by
      rcases h with h | h
      · left; rw [← UInt8.toNat_inj, h, UInt8.toNat_ofNat']; omega
      · right; rw [← UInt8.toNat_inj, h, UInt8.toNat_ofNat']; omega
    clear hb hs
    rcases e _ _ _ (by decide) (by decide) k0 with rfl | rfl <;> rcases e _ _ _ (by decide) (by decide) k1 with rfl | rfl <;> rcases e _ _ _ (by decide) (by decide) k2 with rfl | rfl <;> rcases e _ _ _ (by decide) (by decide) k3 with rfl | rfl <;> rcases e _ _ _ (by decide) (by decide) k4 with rfl | rfl <;> rcases e _ _ _ (by decide) (by decide) k5 with rfl | rfl <;> rcases e _ _ _ (by decide) (by decide) k6 with rfl | rfl <;> rfl
theorem mask_same (s : ByteArray) (n : Nat) (h1 : 1 ≤ n) (h : n < 128) : maskT n = s ↔ pmV s = n := by
  constructor
  · rintro rfl; exact pmV_T n h
  · intro e
    unfold pmV at e
    split at e
    · rename_i hf; rw [← e]; exact T_pmV hf
    · omega
theorem mask_eq (s : ByteArray) (n : Nat) (h1 : 1 ≤ n) (h : n < 128) : ((maskT n).toList == s.toList) = decide (pmV s = n) := by
  rw [Bool.eq_iff_iff, beq_iff_eq, decide_eq_true_eq, ← mask_same s n h1 h, Lib.toList_data, Lib.toList_data]
  constructor
  · intro e; obtain ⟨⟨l⟩⟩ := s; simp only at e; show (⟨(maskL n).toArray⟩ : ByteArray) = _; simp [maskT] at e; rw [← e]
  · rintro rfl; rfl
theorem pmV_none {s : ByteArray} (h : ∀ m, 1 ≤ m → m < 128 → pmV s ≠ m) : pmV s = 0 := by
  have := pmV_lt s
  rcases Nat.eq_zero_or_pos (pmV s) with h0 | h0
  · exact h0
  · exact absurd rfl (h _ h0 this)
theorem or_bit : ∀ k : Nat, k < 7 → ∀ m : Nat, m < 2 ^ k → bits BinOp.or IntKind.i64 (m : Int) ((2 ^ k : Nat) : Int) = ((m + 2 ^ k : Nat) : Int) := by decide +kernel
theorem and_bit (n k : Nat) (h : n ≤ 127) : (bits BinOp.and IntKind.i64 ((n : Int) / 2 ^ k) 1 == 1) = bitN n k := by
  have e : (n : Int) / 2 ^ k = ((n / 2 ^ k : Nat) : Int) := by simp
  have hle : n / 2 ^ k ≤ n := Nat.div_le_self _ _
  rw [e]
  unfold bitN
  generalize n / 2 ^ k = q at *
  rw [and1 (q : Int) (by omega) (by omega), Bool.eq_iff_iff, beq_iff_eq, beq_iff_eq]
  omega
end Go.Proofs.YtbpoljebkhccjaaGreatDoor
