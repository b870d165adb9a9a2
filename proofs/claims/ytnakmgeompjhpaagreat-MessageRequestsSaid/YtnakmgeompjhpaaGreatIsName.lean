
/- Contracts: names (package check, package calendar and the reference). -/
import Derived.Test.YtnakmgeompjhpaaGreatNextB
namespace Go.Proofs.YtnakmgeompjhpaaGreat
open Go Go.RowKit
def digN (c : Int) : Bool := decide (48 ≤ c) && decide (c ≤ 57)
def letN (c : Int) : Bool := (decide (65 ≤ c) && decide (c ≤ 90)) || (decide (97 ≤ c) && decide (c ≤ 122))
def nameC (i c : Nat) : Bool := letN c || (decide (i ≠ 0) && (digN c || decide (c = 95)))
def isName (s : ByteArray) : Prop := s.size ≠ 0 ∧ s.size ≤ 24 ∧ ∀ i, i < s.size → nameC i (byteAt s i) = true
instance (s : ByteArray) : Decidable (isName s) := by unfold isName; infer_instance
theorem name_bad {s : ByteArray} {i : Nat} (h : i < s.size) (hn : nameC i (byteAt s i) = false) : decide (isName s) = false :=
  decide_eq_false fun ⟨_, _, h3⟩ => by rw [h3 i h] at hn; cases hn
theorem nameC_true {i c : Nat} (h : nameC i c = true) : letN c = true ∨ (letN c = false ∧ i ≠ 0 ∧ (digN c = true ∨ (digN c = false ∧ c = 95))) := by
  unfold nameC at h
  cases h1 : letN c
  · right
    rw [h1] at h
    simp only [Bool.false_or, Bool.and_eq_true, decide_eq_true_eq, Bool.or_eq_true] at h
    refine ⟨rfl, h.1, ?_⟩
    cases h2 : digN c
    · right; rw [h2] at h; exact ⟨rfl, h.2.resolve_left (by simp)⟩
    · exact .inl rfl
  · exact .inl rfl
theorem nameC_false {i c : Nat} (h : nameC i c = false) : letN c = false ∧ (i = 0 ∨ (i ≠ 0 ∧ digN c = false ∧ c ≠ 95)) := by
  unfold nameC at h
  rw [Bool.or_eq_false_iff] at h
  refine ⟨h.1, ?_⟩
  by_cases hi : i = 0
  · exact .inl hi
  · right
    have h2 := h.2
    rw [decide_eq_true hi, Bool.true_and, Bool.or_eq_false_iff] at h2
    exact ⟨hi, h2.1, of_decide_eq_false h2.2⟩
theorem name_high {c r : Nat} (i : Nat) (hc : 128 ≤ c) (hr : 128 ≤ r) : nameC i c = false ∧ letN r = false ∧ digN r = false ∧ r ≠ 95 := by
  refine ⟨?_, ?_, ?_, by omega⟩
  · unfold nameC letN digN
    rw [decide_eq_false (show ¬ ((c : Int) ≤ 90) by omega), decide_eq_false (show ¬ ((c : Int) ≤ 122) by omega), decide_eq_false (show ¬ ((c : Int) ≤ 57) by omega), decide_eq_false (show ¬ (c = 95) by omega)]
    simp
  · unfold letN
    rw [decide_eq_false (show ¬ ((r : Int) ≤ 90) by omega), decide_eq_false (show ¬ ((r : Int) ≤ 122) by omega)]
    simp
  · unfold digN
    rw [decide_eq_false (show ¬ ((r : Int) ≤ 57) by omega)]
    simp
theorem isLetter_any (r : Int) (w : World) :
    Calls Tryz.prog 127 #[.int .i32 r] w fun e w' => e = .returned (.bool (letN r)) ∧ w' = w := by
  have HL : Hid (letN r = ((decide (65 ≤ r) && decide (r ≤ 90)) || (decide (97 ≤ r) && decide (r ≤ 122)))) := Lib.hid rfl
  cases h1 : decide (65 ≤ r) <;> cases h2 : decide (r ≤ 90) <;> cases h3 : decide (97 ≤ r) <;> cases h4 : decide (r ≤ 122)
  all_goals
    have HB : Hid (letN r = _) := Lib.hid (by rw [HL.out, h1, h2, h3, h4])
    go_enter Tryz.func127, Tryz.ntmps127
    go_wp2
    go_ret
    exact ⟨by rw [HB.out]; rfl, rfl⟩
theorem isDig_any (r : Int) (w : World) :
    Calls Tryz.prog 128 #[.int .i32 r] w fun e w' => e = .returned (.bool (digN r)) ∧ w' = w := by
  have HL : Hid (digN r = (decide (48 ≤ r) && decide (r ≤ 57))) := Lib.hid rfl
  cases h1 : decide (48 ≤ r) <;> cases h2 : decide (r ≤ 57)
  all_goals
    have HB : Hid (digN r = _) := Lib.hid (by rw [HL.out, h1, h2])
    go_enter Tryz.func128, Tryz.ntmps128
    go_wp2
    go_ret
    exact ⟨by rw [HB.out]; rfl, rfl⟩
theorem letter_is {r : Int} {b : Bool} (h : letN r = b) (w : World) : Calls Tryz.prog 127 #[.int .i32 r] w fun e w' => e = .returned (.bool b) ∧ w' = w := h ▸ isLetter_any r w
theorem dig_is {r : Int} {b : Bool} (h : digN r = b) (w : World) : Calls Tryz.prog 128 #[.int .i32 r] w fun e w' => e = .returned (.bool b) ∧ w' = w := h ▸ isDig_any r w
set_option maxRecDepth 100000 in
set_option maxHeartbeats 1000000 in
theorem isName_any (s : ByteArray) (w : World) :
    Calls Tryz.prog 72 #[.string s] w fun e w' => e = .returned (.bool (decide (isName s))) ∧ Below w.heap.size w w' := by
  by_cases h0 : s.size = 0
  · have HN : Hid (decide (isName s) = false) := Lib.hid (decide_eq_false fun h => h.1 h0)
    have hb : ((s.size : Int) == 0) = true := by simp [h0]
    clear h0
    go_enter Tryz.func72, Tryz.ntmps72
    go_wp2_with fail
    go_ret
    exact ⟨by rw [HN.out]; rfl, Below.refl _ _⟩
  · have hb : ((s.size : Int) == 0) = false := by rw [beq_eq_false_iff_ne]; omega
    by_cases h24 : s.size ≤ 24
    · have hb2 : decide ((24 : Int) < s.size) = false := decide_eq_false (by omega)
      have HS : Hid (s.size ≠ 0 ∧ s.size ≤ 24) := Lib.hid ⟨h0, h24⟩
      clear h0 h24
      go_enter Tryz.func72, Tryz.ntmps72
      go_wp2_with fail
      obtain ⟨W, hW, hb0, hit0⟩ : ∃ W, w.iter s 0 = W ∧ Below w.heap.size w W ∧ W.heap[w.heap.size]? = some (.stringIter s 0) := ⟨_, rfl, below_alloc _ _, World.iter_heap w s 0⟩
      rw [hW]
      clear hW
      go_loopw [] (fun wr => ∃ pos : Nat, pos ≤ s.size ∧ Hid (∀ i, i < pos → nameC i (byteAt s i) = true) ∧ Below w.heap.size w wr ∧ wr.heap[w.heap.size]? = some (.stringIter s pos)) (fun wr => s.size - wr.iterPos w.heap.size)
      case atStart => exact ⟨0, Nat.zero_le _, Lib.hid (fun i hi => absurd hi (Nat.not_lt_zero _)), hb0, hit0⟩
      case round =>
        obtain ⟨pos, hps, HP, hbr, hit⟩ := hrel
        by_cases hp : pos < s.size
        · obtain ⟨r, p2, hnx0, hlo, hhi, hr2⟩ := next_byte (P := Tryz.prog) wr w.heap.size pos s hit hp
          obtain ⟨W2, hnx, hb2', hit2⟩ : ∃ W2, (∀ ty, (Instr.next (.pointer (some ⟨w.heap.size, 0, none⟩)) true ty).run Tryz.prog wr = .ok (.tuple #[.bool true, .int .i64 pos, .int .i32 r]) W2) ∧ Below w.heap.size w W2 ∧ W2.heap[w.heap.size]? = some (.stringIter s p2) :=
            ⟨_, hnx0, hbr.trans (nb_below _ _ _ _), Lib.iterAt_heap _ _ _ _ _ hit⟩
          clear hnx0
          have hmu : wr.iterPos w.heap.size = pos := by simp [World.iterPos, hit]
          have hmu2 : W2.iterPos w.heap.size = p2 := by simp [World.iterPos, hit2]
          have HMU := Lib.hid hmu; have HMU2 := Lib.hid hmu2
          clear hmu hmu2 hit
          cases hok : nameC pos (byteAt s pos)
          · have HB : Hid (decide (isName s) = false) := Lib.hid (name_bad hp hok)
            have hbad : letN r = false ∧ (pos = 0 ∨ (pos ≠ 0 ∧ digN r = false ∧ r ≠ 95)) := by
              by_cases hc : byteAt s pos < 128
              · rw [(hlo hc).1]; exact nameC_false hok
              · obtain ⟨-, a, b, c⟩ := name_high pos (show 128 ≤ byteAt s pos by omega) (hhi (by omega))
                refine ⟨a, ?_⟩
                by_cases h : pos = 0
                · exact .inl h
                · exact .inr ⟨h, b, c⟩
            obtain ⟨HL, h | ⟨h, HD, h95⟩⟩ := hbad
            · subst h
              have HL := Lib.hid HL
              clear hlo hhi hok
              go_wp2_with (go_at_call 127; refine (letter_is HL.out _).mono ?_; rintro e w' ⟨rfl, hw⟩; rw [hw]; clear hw)
              go_ret
              exact ⟨by rw [HB.out]; rfl, hb2'⟩
            · have HL := Lib.hid HL
              have HD := Lib.hid HD
              have hz : ((pos : Int) == 0) = false := by rw [beq_eq_false_iff_ne]; omega
              have hq : ((r : Int) == 95) = false := by rw [beq_eq_false_iff_ne]; omega
              clear hlo hhi hok h h95
              go_wp2_with (first | (go_at_call 127; refine (letter_is HL.out _).mono ?_; rintro e w' ⟨rfl, hw⟩; rw [hw]; clear hw) | (go_at_call 128; refine (dig_is HD.out _).mono ?_; rintro e w' ⟨rfl, hw⟩; rw [hw]; clear hw))
              go_ret
              exact ⟨by rw [HB.out]; rfl, hb2'⟩
          · have hc : byteAt s pos < 128 := by
              rcases Nat.lt_or_ge (byteAt s pos) 128 with h | h
              · exact h
              · rw [(name_high pos h (hhi h)).1] at hok; cases hok
            obtain ⟨hr, hp2⟩ := hlo hc
            subst hr hp2
            have HP2 : Hid (∀ i, i < pos + 1 → nameC i (byteAt s i) = true) := Lib.hid (fun i hi => by
              rcases Nat.lt_or_ge i pos with h | h
              · exact HP.out i h
              · obtain rfl : i = pos := by omega
                exact hok)
            have hcs := nameC_true hok
            generalize byteAt s pos = r at *
            clear hlo hhi hok hc
            rcases hcs with HL | ⟨HL, h, HD | ⟨HD, h95⟩⟩
            · have HL := Lib.hid HL
              go_wp2_with (go_at_call 127; refine (letter_is HL.out _).mono ?_; rintro e w' ⟨rfl, hw⟩; rw [hw]; clear hw)
              go_roundw
              case rel => exact ⟨pos + 1, by omega, HP2, hb2', hit2⟩
              case measure => rw [HMU.out, HMU2.out]; omega
            · have HL := Lib.hid HL
              have HD := Lib.hid HD
              have hz : ((pos : Int) == 0) = false := by rw [beq_eq_false_iff_ne]; omega
              clear h
              go_wp2_with (first | (go_at_call 127; refine (letter_is HL.out _).mono ?_; rintro e w' ⟨rfl, hw⟩; rw [hw]; clear hw) | (go_at_call 128; refine (dig_is HD.out _).mono ?_; rintro e w' ⟨rfl, hw⟩; rw [hw]; clear hw))
              go_roundw
              case rel => exact ⟨pos + 1, by omega, HP2, hb2', hit2⟩
              case measure => rw [HMU.out, HMU2.out]; omega
            · have HL := Lib.hid HL
              have HD := Lib.hid HD
              have hz : ((pos : Int) == 0) = false := by rw [beq_eq_false_iff_ne]; omega
              have hq : ((r : Int) == 95) = true := by simp [h95]
              clear h h95
              go_wp2_with (first | (go_at_call 127; refine (letter_is HL.out _).mono ?_; rintro e w' ⟨rfl, hw⟩; rw [hw]; clear hw) | (go_at_call 128; refine (dig_is HD.out _).mono ?_; rintro e w' ⟨rfl, hw⟩; rw [hw]; clear hw))
              go_roundw
              case rel => exact ⟨pos + 1, by omega, HP2, hb2', hit2⟩
              case measure => rw [HMU.out, HMU2.out]; omega
        · obtain rfl : pos = s.size := by omega
          have HB : Hid (decide (isName s) = true) := Lib.hid (decide_eq_true ⟨HS.out.1, HS.out.2, HP.out⟩)
          have hnx : ∀ ty, (Instr.next (.pointer (some ⟨w.heap.size, 0, none⟩)) true ty).run Tryz.prog wr = _ := fun ty => Lib.run_next_end_at wr w.heap.size s s.size ty hit hp
          go_wp2_with fail
          go_ret
          exact ⟨by rw [HB.out]; rfl, hbr⟩
    · have HN : Hid (decide (isName s) = false) := Lib.hid (decide_eq_false fun h => h24 h.2.1)
      have hb2 : decide ((24 : Int) < s.size) = true := decide_eq_true (by omega)
      clear h24 h0
      go_enter Tryz.func72, Tryz.ntmps72
      go_wp2_with fail
      go_ret
      exact ⟨by rw [HN.out]; rfl, Below.refl _ _⟩
theorem cIsName_any (s : ByteArray) (w : World) :
    Calls Tryz.prog 84 #[.string s] w fun e w' => e = .returned (.bool (decide (isName s))) ∧ Below w.heap.size w w' := by
  go_enter Tryz.func84, Tryz.ntmps84
  go_wp2_with fail
  refine (isName_any _ _).mono ?_
  rintro e w1 ⟨rfl, hb⟩
  go_wp2_with fail
  go_ret
  exact ⟨rfl, hb⟩
end Go.Proofs.YtnakmgeompjhpaaGreat
