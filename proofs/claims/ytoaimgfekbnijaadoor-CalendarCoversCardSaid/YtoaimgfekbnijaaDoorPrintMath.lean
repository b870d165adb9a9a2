/- The texts of dates, and their order. -/
import Derived.Test.YtoaimgfekbnijaaDoorDate
import Derived.Lib.ItoaNum
import Derived.Lib.Repeat
import Derived.Lib.Strings
import Derived.Laws.Concat
import Derived.Sort.Walk0
namespace Go.Proofs.YtoaimgfekbnijaaDoor
def dig (n : Nat) : UInt8 := UInt8.ofNat (48 + n)
def pad2 (n : Nat) : List UInt8 := [dig (n / 10), dig (n % 10)]
def pad4 (y : Nat) : List UInt8 := pad2 (y / 100) ++ pad2 (y % 100)
def dateL (y m t : Nat) : List UInt8 := pad4 y ++ 45 :: (pad2 m ++ 45 :: pad2 t)
theorem dec1 (n : Nat) (h : n < 10) : Lib.decDigits n = [dig n] := by rw [Lib.decDigits, dif_pos h]; rfl
theorem dec2 (n : Nat) (h1 : 10 ≤ n) (h : n < 100) : Lib.decDigits n = pad2 n := by
  rw [Lib.decDigits, dif_neg (by omega), dec1 _ (by omega)]; rfl
theorem dec4 (n : Nat) (h1 : 1000 ≤ n) (h : n < 10000) : Lib.decDigits n = pad4 n := by
  rw [Lib.decDigits, dif_neg (by omega), Lib.decDigits, dif_neg (by omega), dec2 _ (by omega) (by omega)]
  have e1 : n / 10 / 10 = n / 100 := by omega
  have e2 : n / 10 % 10 = n % 100 / 10 := by omega
  have e3 : n % 10 = n % 100 % 10 := by omega
  rw [e1, e2, e3]
  rfl
theorem dig_toNat (a : Nat) (h : a < 10) : (dig a).toNat = 48 + a := by
  unfold dig
  rw [UInt8.toNat_ofNat']
  omega
theorem dig_lt (a b : Nat) (ha : a < 10) (hb : b < 10) : dig a < dig b ↔ a < b := by
  rw [UInt8.lt_iff_toNat_lt, dig_toNat a ha, dig_toNat b hb]; omega
theorem dig_eq (a b : Nat) (ha : a < 10) (hb : b < 10) : dig a = dig b ↔ a = b := by
  rw [← UInt8.toNat_inj, dig_toNat a ha, dig_toNat b hb]; omega
theorem pad2_lt (a b : Nat) (l r : List UInt8) (ha : a < 100) (hb : b < 100) : pad2 a ++ l < pad2 b ++ r ↔ a < b ∨ a = b ∧ l < r := by
  unfold pad2
  simp only [List.cons_append, List.nil_append, List.cons_lt_cons_iff]
  rw [dig_lt _ _ (by omega) (by omega), dig_lt _ _ (by omega) (by omega), dig_eq _ _ (by omega) (by omega), dig_eq _ _ (by omega) (by omega)]
  constructor
  · rintro (h | ⟨h1, h | ⟨h2, h3⟩⟩)
    · left; omega
    · left; omega
    · right; exact ⟨by omega, h3⟩
  · rintro (h | ⟨h1, h3⟩)
    · by_cases e : a / 10 = b / 10
      · right; exact ⟨e, .inl (by omega)⟩
      · left; omega
    · subst h1; right; exact ⟨rfl, .inr ⟨rfl, h3⟩⟩
theorem cons_lt (x : UInt8) (l r : List UInt8) : x :: l < x :: r ↔ l < r := by
  rw [List.cons_lt_cons_iff]
  constructor
  · rintro (h | h)
    · exact absurd h (by simp)
    · exact h.2
  · exact fun h => .inr ⟨rfl, h⟩
theorem pad2_lt' (a b : Nat) (ha : a < 100) (hb : b < 100) : pad2 a < pad2 b ↔ a < b := by
  have := pad2_lt a b [] [] ha hb
  simp only [List.append_nil] at this
  rw [this]
  constructor
  · rintro (h | h)
    · exact h
    · exact absurd h.2 (by simp)
  · exact .inl
theorem dateL_lt (y m t y' m' t' : Nat) (hy : y < 10000) (hm : m < 100) (ht : t < 100) (hy' : y' < 10000) (hm' : m' < 100) (ht' : t' < 100) :
    dateL y m t < dateL y' m' t' ↔ y < y' ∨ y = y' ∧ (m < m' ∨ m = m' ∧ t < t') := by
  unfold dateL pad4
  rw [List.append_assoc, List.append_assoc, pad2_lt _ _ _ _ (by omega) (by omega), pad2_lt _ _ _ _ (by omega) (by omega), cons_lt, pad2_lt _ _ _ _ hm hm', cons_lt, pad2_lt' _ _ ht ht']
  omega
theorem dateL_inj (y m t y' m' t' : Nat) (hy : y < 10000) (hm : m < 100) (ht : t < 100) (hy' : y' < 10000) (hm' : m' < 100) (ht' : t' < 100) :
    dateL y m t = dateL y' m' t' ↔ y = y' ∧ m = m' ∧ t = t' := by
  constructor
  · intro h
    have a := not_congr (dateL_lt y m t y' m' t' hy hm ht hy' hm' ht')
    have b := not_congr (dateL_lt y' m' t' y m t hy' hm' ht' hy hm ht)
    rw [h] at a
    rw [← h] at b
    have irr : ∀ l : List UInt8, ¬ l < l := fun l => List.lt_irrefl l
    have a' := a.1 (irr _)
    have b' := b.1 (irr _)
    omega
  · rintro ⟨rfl, rfl, rfl⟩; rfl
theorem db_step (a b : Int) (h : a < b) : Cal.db (a + 1) ≤ Cal.db b := Cal.db_mono _ _ (by omega)
theorem date_t {d y t : Int} {m : Nat} (h : IsDate d y m t) : 1 ≤ t ∧ t ≤ 31 := by
  obtain ⟨y1, y2, d1, d2, m1, m2, r1, r2, t0⟩ := h
  obtain ⟨k, rfl⟩ : ∃ k, m = k + 1 := ⟨m - 1, by omega⟩
  have := Cal.ml_bd y (k + 1) (by omega) m2
  simp only [Nat.add_sub_cancel] at *
  rw [Cal.cum] at r2
  omega
theorem date_lt {d y t d' y' t' : Int} {m m' : Nat} (h : IsDate d y m t) (h' : IsDate d' y' m' t') (hl : y < y' ∨ y = y' ∧ (m < m' ∨ m = m' ∧ t < t')) : d < d' := by
  obtain ⟨y1, y2, d1, d2, m1, m2, r1, r2, t0⟩ := h
  obtain ⟨y1', y2', d1', d2', m1', m2', r1', r2', t0'⟩ := h'
  rcases hl with h | ⟨rfl, h | ⟨rfl, h⟩⟩
  · have := db_step y y' h; omega
  · have := cum_le y m (m' - 1) (by omega) (by omega); omega
  · omega
theorem date_lt_iff {d y t d' y' t' : Int} {m m' : Nat} (h : IsDate d y m t) (h' : IsDate d' y' m' t') : (y < y' ∨ y = y' ∧ (m < m' ∨ m = m' ∧ t < t')) ↔ d < d' := by
  constructor
  · exact date_lt h h'
  · intro hd
    by_cases e : y' < y ∨ y' = y ∧ (m' < m ∨ m' = m ∧ t' < t)
    · have := date_lt h' h e; omega
    · by_cases e2 : y = y' ∧ m = m' ∧ t = t'
      · obtain ⟨rfl, rfl, rfl⟩ := e2
        have := h.t0; have := h'.t0; omega
      · omega
theorem date_eq_iff {d y t d' y' t' : Int} {m m' : Nat} (h : IsDate d y m t) (h' : IsDate d' y' m' t') : (y = y' ∧ m = m' ∧ t = t') ↔ d = d' := by
  constructor
  · rintro ⟨rfl, rfl, rfl⟩
    have := h.t0; have := h'.t0; omega
  · rintro rfl
    have a := (not_congr (date_lt_iff h h')).2 (by omega)
    have b := (not_congr (date_lt_iff h' h)).2 (by omega)
    omega
/-- The text of a date. -/
def dateT (y : Int) (m : Nat) (t : Int) : ByteArray := ⟨(dateL y.toNat m t.toNat).toArray⟩
theorem dateT_less {d y t d' y' t' : Int} {m m' : Nat} (h : IsDate d y m t) (h' : IsDate d' y' m' t') : Op.bytesLess (dateT y m t).toList (dateT y' m' t').toList = decide (d < d') := by
  rw [bytesLess_eq, Lib.toList_data, Lib.toList_data]
  have a := date_t h
  have b := date_t h'
  have := h.y1; have := h.y2; have := h.m2; have := h'.y1; have := h'.y2; have := h'.m2
  have e : dateL y.toNat m t.toNat < dateL y'.toNat m' t'.toNat ↔ d < d' := by
    rw [dateL_lt _ _ _ _ _ _ (by omega) (by omega) (by omega) (by omega) (by omega) (by omega), ← date_lt_iff h h']
    omega
  exact decide_eq_decide.2 e
theorem dateT_same {d y t d' y' t' : Int} {m m' : Nat} (h : IsDate d y m t) (h' : IsDate d' y' m' t') : ((dateT y m t).toList == (dateT y' m' t').toList) = decide (d = d') := by
  rw [Lib.toList_data, Lib.toList_data]
  have a := date_t h
  have b := date_t h'
  have := h.y1; have := h.y2; have := h.m2; have := h'.y1; have := h'.y2; have := h'.m2
  have e : dateL y.toNat m t.toNat = dateL y'.toNat m' t'.toNat ↔ d = d' := by
    rw [dateL_inj _ _ _ _ _ _ (by omega) (by omega) (by omega) (by omega) (by omega) (by omega), ← date_eq_iff h h']
    omega
  rw [Bool.eq_iff_iff, beq_iff_eq, decide_eq_true_eq]
  exact e
end Go.Proofs.YtoaimgfekbnijaaDoor
