
/- Contracts: the reference's IsName. -/
import Derived.Test.YtnakmgeompjhpaaGreatIsName
namespace Go.Proofs.YtnakmgeompjhpaaGreat
open Go Go.RowKit
/-- How the reference's test of a byte goes. -/
inductive NC (i : Nat) (c : Int) : Bool → Prop
  | low (h1 : decide (97 ≤ c) = true) (h2 : decide (c ≤ 122) = true) : NC i c true
  | up (h1 : decide (97 ≤ c) = false) (h3 : decide (65 ≤ c) = true) (h4 : decide (c ≤ 90) = true) : NC i c true
  | head1 (h : ((i : Int) == 0) = true) (h1 : decide (97 ≤ c) = true) (h2 : decide (c ≤ 122) = false) (h3 : decide (65 ≤ c) = true) (h4 : decide (c ≤ 90) = false) : NC i c false
  | head2 (h : ((i : Int) == 0) = true) (h1 : decide (97 ≤ c) = false) (h3 : decide (65 ≤ c) = true) (h4 : decide (c ≤ 90) = false) : NC i c false
  | head3 (h : ((i : Int) == 0) = true) (h1 : decide (97 ≤ c) = false) (h3 : decide (65 ≤ c) = false) : NC i c false
  | high (h : ((i : Int) == 0) = false) (h1 : decide (97 ≤ c) = true) (h2 : decide (c ≤ 122) = false) (h3 : decide (65 ≤ c) = true) (h4 : decide (c ≤ 90) = false) (h9 : (c != 95) = true) (h5 : decide (c < 48) = false) (h6 : decide (57 < c) = true) : NC i c false
  | line (h : ((i : Int) == 0) = false) (h1 : decide (97 ≤ c) = false) (h3 : decide (65 ≤ c) = true) (h4 : decide (c ≤ 90) = false) (h9 : (c != 95) = false) : NC i c true
  | mid (h : ((i : Int) == 0) = false) (h1 : decide (97 ≤ c) = false) (h3 : decide (65 ≤ c) = true) (h4 : decide (c ≤ 90) = false) (h9 : (c != 95) = true) (h5 : decide (c < 48) = false) (h6 : decide (57 < c) = true) : NC i c false
  | less (h : ((i : Int) == 0) = false) (h1 : decide (97 ≤ c) = false) (h3 : decide (65 ≤ c) = false) (h9 : (c != 95) = true) (h5 : decide (c < 48) = true) : NC i c false
  | gap (h : ((i : Int) == 0) = false) (h1 : decide (97 ≤ c) = false) (h3 : decide (65 ≤ c) = false) (h9 : (c != 95) = true) (h5 : decide (c < 48) = false) (h6 : decide (57 < c) = true) : NC i c false
  | digit (h : ((i : Int) == 0) = false) (h1 : decide (97 ≤ c) = false) (h3 : decide (65 ≤ c) = false) (h9 : (c != 95) = true) (h5 : decide (c < 48) = false) (h6 : decide (57 < c) = false) : NC i c true
theorem nc_of (i c : Nat) : NC i (c : Int) (nameC i c) := by
  have e : ∀ b, (b = nameC i c) → NC i (c : Int) b → NC i (c : Int) (nameC i c) := fun b h k => h ▸ k
  have z1 : i = 0 → ((i : Int) == 0) = true := fun h => by simp [h]
  have z0 : i ≠ 0 → ((i : Int) == 0) = false := fun h => by rw [beq_eq_false_iff_ne]; omega
  have n1 : c ≠ 95 → ((c : Int) != 95) = true := fun h => by rw [bne_iff_ne]; omega
  by_cases h1 : 97 ≤ c
  · by_cases h2 : c ≤ 122
    · exact e _ (by unfold nameC letN; rw [decide_eq_true (show (97 : Int) ≤ c by omega), decide_eq_true (show (c : Int) ≤ 122 by omega)]; simp) (.low (decide_eq_true (by omega)) (decide_eq_true (by omega)))
    · by_cases h : i = 0
      · exact e _ (by unfold nameC letN; rw [decide_eq_false (show ¬ (c : Int) ≤ 122 by omega), decide_eq_false (show ¬ (c : Int) ≤ 90 by omega)]; simp [h]) (.head1 (z1 h) (decide_eq_true (by omega)) (decide_eq_false (by omega)) (decide_eq_true (by omega)) (decide_eq_false (by omega)))
      · exact e _ (by unfold nameC letN digN; rw [decide_eq_false (show ¬ (c : Int) ≤ 122 by omega), decide_eq_false (show ¬ (c : Int) ≤ 90 by omega), decide_eq_false (show ¬ (c : Int) ≤ 57 by omega), decide_eq_false (show ¬ c = 95 by omega)]; simp) (.high (z0 h) (decide_eq_true (by omega)) (decide_eq_false (by omega)) (decide_eq_true (by omega)) (decide_eq_false (by omega)) (n1 (by omega)) (decide_eq_false (by omega)) (decide_eq_true (by omega)))
  · by_cases h3 : 65 ≤ c
    · by_cases h4 : c ≤ 90
      · exact e _ (by unfold nameC letN; rw [decide_eq_true (show (65 : Int) ≤ c by omega), decide_eq_true (show (c : Int) ≤ 90 by omega)]; simp) (.up (decide_eq_false (by omega)) (decide_eq_true (by omega)) (decide_eq_true (by omega)))
      · by_cases h : i = 0
        · exact e _ (by unfold nameC letN; rw [decide_eq_false (show ¬ (97 : Int) ≤ c by omega), decide_eq_false (show ¬ (c : Int) ≤ 90 by omega)]; simp [h]) (.head2 (z1 h) (decide_eq_false (by omega)) (decide_eq_true (by omega)) (decide_eq_false (by omega)))
        · by_cases h5 : c = 95
          · exact e _ (by unfold nameC; rw [decide_eq_true h5, decide_eq_true h]; simp) (.line (z0 h) (decide_eq_false (by omega)) (decide_eq_true (by omega)) (decide_eq_false (by omega)) (by simp [h5]))
          · exact e _ (by unfold nameC letN digN; rw [decide_eq_false (show ¬ (97 : Int) ≤ c by omega), decide_eq_false (show ¬ (c : Int) ≤ 90 by omega), decide_eq_false (show ¬ (c : Int) ≤ 57 by omega), decide_eq_false h5]; simp) (.mid (z0 h) (decide_eq_false (by omega)) (decide_eq_true (by omega)) (decide_eq_false (by omega)) (n1 h5) (decide_eq_false (by omega)) (decide_eq_true (by omega)))
    · by_cases h : i = 0
      · exact e _ (by unfold nameC letN; rw [decide_eq_false (show ¬ (97 : Int) ≤ c by omega), decide_eq_false (show ¬ (65 : Int) ≤ c by omega)]; simp [h]) (.head3 (z1 h) (decide_eq_false (by omega)) (decide_eq_false (by omega)))
      · by_cases h5 : c < 48
        · exact e _ (by unfold nameC letN digN; rw [decide_eq_false (show ¬ (97 : Int) ≤ c by omega), decide_eq_false (show ¬ (65 : Int) ≤ c by omega), decide_eq_false (show ¬ (48 : Int) ≤ c by omega), decide_eq_false (show ¬ c = 95 by omega)]; simp) (.less (z0 h) (decide_eq_false (by omega)) (decide_eq_false (by omega)) (n1 (by omega)) (decide_eq_true (by omega)))
        · by_cases h6 : c ≤ 57
          · exact e _ (by unfold nameC digN; rw [decide_eq_true (show (48 : Int) ≤ c by omega), decide_eq_true (show (c : Int) ≤ 57 by omega), decide_eq_true h]; simp) (.digit (z0 h) (decide_eq_false (by omega)) (decide_eq_false (by omega)) (n1 (by omega)) (decide_eq_false (by omega)) (decide_eq_false (by omega)))
          · exact e _ (by unfold nameC letN digN; rw [decide_eq_false (show ¬ (97 : Int) ≤ c by omega), decide_eq_false (show ¬ (65 : Int) ≤ c by omega), decide_eq_false (show ¬ (c : Int) ≤ 57 by omega), decide_eq_false (show ¬ c = 95 by omega)]; simp) (.gap (z0 h) (decide_eq_false (by omega)) (decide_eq_false (by omega)) (n1 (by omega)) (decide_eq_false (by omega)) (decide_eq_true (by omega)))
set_option maxRecDepth 100000 in
set_option maxHeartbeats 2000000 in
theorem qIsName_any (s : ByteArray) (w : World) :
    Calls Tryz.prog 38 #[.string s] w fun e w' => e = .returned (.bool (decide (isName s))) ∧ Below w.heap.size w w' := by
  by_cases h0 : s.size = 0
  · have HN : Hid (decide (isName s) = false) := Lib.hid (decide_eq_false fun h => h.1 h0)
    have hb : ((s.size : Int) == 0) = true := by simp [h0]
    clear h0
    go_enter Tryz.func38, Tryz.ntmps38
    go_wp2_with fail
    go_ret
    exact ⟨by rw [HN.out]; rfl, Below.refl _ _⟩
  · have hb : ((s.size : Int) == 0) = false := by rw [beq_eq_false_iff_ne]; omega
    by_cases h24 : s.size ≤ 24
    · have hb2 : decide ((24 : Int) < s.size) = false := decide_eq_false (by omega)
      have HS : Hid (s.size ≠ 0 ∧ s.size ≤ 24) := Lib.hid ⟨h0, h24⟩
      clear h0
      go_enter Tryz.func38, Tryz.ntmps38
      go_wp2_with fail
      go_loop [3] (fun i => ∃ pos : Nat, pos ≤ s.size ∧ i = .int .i64 pos ∧ Hid (∀ i, i < pos → nameC i (byteAt s i) = true)) (fun i => s.size - (intOf i).toNat)
      case atStart => exact ⟨0, Nat.zero_le _, rfl, Lib.hid (fun i hi => absurd hi (Nat.not_lt_zero _))⟩
      case round =>
        obtain ⟨pos, hps, rfl, HP⟩ := hrel
        by_cases hp : pos < s.size
        · have hnc := nc_of pos (byteAt s pos)
          have HOK : Hid (nameC pos (byteAt s pos) = true → ∀ i, i < pos + 1 → nameC i (byteAt s i) = true) := Lib.hid (fun hok i hi => by
            rcases Nat.lt_or_ge i pos with h | h
            · exact HP.out i h
            · obtain rfl : i = pos := by omega
              exact hok)
          have HBD : Hid (nameC pos (byteAt s pos) = false → decide (isName s) = false) := Lib.hid (fun h => name_bad hp h)
          generalize nameC pos (byteAt s pos) = bb at *
          rw [byteAt_eq hp] at hnc
          cases hnc
          all_goals
            first
            | (have HB := Lib.hid (HBD.out rfl)
               clear HBD HOK
               go_wp2_with fail
               go_ret
               exact ⟨by rw [HB.out]; rfl, Below.refl _ _⟩)
            | (have HP2 := Lib.hid (HOK.out rfl)
               clear HBD HOK
               go_wp2_with fail
               go_round
               case rel => exact ⟨pos + 1, by omega, by go_num, HP2⟩
               case measure => simp [intOf]; omega)
        · obtain rfl : pos = s.size := by omega
          have HB : Hid (decide (isName s) = true) := Lib.hid (decide_eq_true ⟨HS.out.1, HS.out.2, HP.out⟩)
          go_wp2_with fail
          go_ret
          exact ⟨by rw [HB.out]; rfl, Below.refl _ _⟩
    · have HN : Hid (decide (isName s) = false) := Lib.hid (decide_eq_false fun h => h24 h.2.1)
      have hb2 : decide ((24 : Int) < s.size) = true := decide_eq_true (by omega)
      clear h24 h0
      go_enter Tryz.func38, Tryz.ntmps38
      go_wp2_with fail
      go_ret
      exact ⟨by rw [HN.out]; rfl, Below.refl _ _⟩
end Go.Proofs.YtnakmgeompjhpaaGreat
