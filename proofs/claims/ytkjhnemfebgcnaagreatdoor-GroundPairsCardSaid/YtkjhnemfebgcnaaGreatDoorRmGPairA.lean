/- Contracts of package ground and of the reference of chapter 4: terminals that agree, suits, overlap, fit, buffers. -/
import Derived.Test.YtkjhnemfebgcnaaGreatDoorGc1
import Derived.Test.YtkjhnemfebgcnaaGreatDoorGc3
namespace Go.Proofs.YtkjhnemfebgcnaaGreatDoor
open Go Go.RowKit
def agreeV (a b : ByteArray) : Bool := a.toList == b.toList || a.toList == [] || b.toList == []
theorem agree_any (a b : ByteArray) (w : World) : Calls Tryz.prog 135 #[.string a, .string b] w fun r w' => r = .returned (.bool (agreeV a b)) ∧ w' = w := by
  cases h1 : (a.toList == b.toList)
  · cases h2 : (a.toList == [])
    · have HO : Hid (agreeV a b = b.toList.isEmpty) := Lib.hid (by unfold agreeV; rw [h1, h2]; cases b.toList <;> rfl)
      go_enter Tryz.func135, Tryz.ntmps135
      go_wp2_with fail
      go_ret
      exact ⟨by rw [HO.out]; rfl, rfl⟩
    · have HO : Hid (agreeV a b = true) := Lib.hid (by unfold agreeV; rw [h1, h2]; rfl)
      go_enter Tryz.func135, Tryz.ntmps135
      go_wp2_with fail
      go_ret
      exact ⟨by rw [HO.out]; rfl, rfl⟩
  · have HO : Hid (agreeV a b = true) := Lib.hid (by unfold agreeV; rw [h1]; rfl)
    go_enter Tryz.func135, Tryz.ntmps135
    go_wp2_with fail
    go_ret
    exact ⟨by rw [HO.out]; rfl, rfl⟩
theorem alike_any (a b : ByteArray) (w : World) : Calls Tryz.prog 100 #[.string a, .string b] w fun r w' => r = .returned (.bool (agreeV a b)) ∧ w' = w := by
  cases h1 : (a.toList == b.toList)
  · cases h2 : (a.toList == [])
    · have HO : Hid (agreeV a b = b.toList.isEmpty) := Lib.hid (by unfold agreeV; rw [h1, h2]; cases b.toList <;> rfl)
      go_enter Tryz.func100, Tryz.ntmps100
      go_wp2_with fail
      go_ret
      exact ⟨by rw [HO.out]; rfl, rfl⟩
    · have HO : Hid (agreeV a b = true) := Lib.hid (by unfold agreeV; rw [h1, h2]; rfl)
      go_enter Tryz.func100, Tryz.ntmps100
      go_wp2_with fail
      go_ret
      exact ⟨by rw [HO.out]; rfl, rfl⟩
  · have HO : Hid (agreeV a b = true) := Lib.hid (by unfold agreeV; rw [h1]; rfl)
    go_enter Tryz.func100, Tryz.ntmps100
    go_wp2_with fail
    go_ret
    exact ⟨by rw [HO.out]; rfl, rfl⟩
def suitsV (s : StandV) (t : TurnV) : Bool := decide (t.size ≤ s.size) && agreeV s.terminal t.terminal
set_option maxRecDepth 100000 in
theorem suits_any (s : StandV) (t : TurnV) (w : World) : Calls Tryz.prog 101 #[.agg s.cells, .agg t.cells] w fun r w' => r = .returned (.bool (suitsV s t)) ∧ Below w.heap.size w w' := by
  obtain ⟨W, HW, hb0, R0⟩ := Stand_new w s 54
  obtain ⟨W1, HW1, hb1, R⟩ := Turn_new W t 56
  obtain ⟨s0, s1, s2⟩ := R0
  have s1 := b_old hb1 s1
  have s2 := b_old hb1 s2
  obtain ⟨r0, r1, r2, r3, r4⟩ := R
  have hB := b_then hb0 hb1
  by_cases h : t.size ≤ s.size
  · have HO : Hid (suitsV s t = agreeV s.terminal t.terminal) := Lib.hid (by unfold suitsV; simp [h])
    obtain ⟨name, start, fin, size, terminal⟩ := t
    obtain ⟨sname, ssize, sterminal⟩ := s
    simp only [TurnV.cells, StandV.cells] at *
    go_enter Tryz.func101, Tryz.ntmps101
    go_wp2_with fail
    rw [HW.out, HW1.out]
    refine (agree_any _ _ _).mono ?_
    rintro e w1 ⟨rfl, rfl⟩
    go_wp2_with fail
    go_ret
    exact ⟨by rw [HO.out]; rfl, hB⟩
  · have HO : Hid (suitsV s t = false) := Lib.hid (by unfold suitsV; simp [h])
    obtain ⟨name, start, fin, size, terminal⟩ := t
    obtain ⟨sname, ssize, sterminal⟩ := s
    simp only [TurnV.cells, StandV.cells] at *
    go_enter Tryz.func101, Tryz.ntmps101
    go_wp2_with fail
    rw [HW.out, HW1.out]
    go_ret
    exact ⟨by rw [HO.out]; rfl, hB⟩
set_option maxRecDepth 100000 in
theorem refSuits_any (s : StandV) (t : TurnV) (w : World) : Calls Tryz.prog 35 #[.agg s.cells, .agg t.cells] w fun r w' => r = .returned (.bool (suitsV s t)) ∧ Below w.heap.size w w' := by
  obtain ⟨W, HW, hb0, R0⟩ := Stand_new w s 67
  obtain ⟨W1, HW1, hb1, R⟩ := Turn_new W t 61
  obtain ⟨s0, s1, s2⟩ := R0
  have s1 := b_old hb1 s1
  have s2 := b_old hb1 s2
  obtain ⟨r0, r1, r2, r3, r4⟩ := R
  have hB := b_then hb0 hb1
  by_cases h : t.size ≤ s.size
  · have HO : Hid (suitsV s t = agreeV s.terminal t.terminal) := Lib.hid (by unfold suitsV; simp [h])
    obtain ⟨name, start, fin, size, terminal⟩ := t
    obtain ⟨sname, ssize, sterminal⟩ := s
    simp only [TurnV.cells, StandV.cells] at *
    go_enter Tryz.func35, Tryz.ntmps35
    go_wp2_with fail
    rw [HW.out, HW1.out]
    refine (alike_any _ _ _).mono ?_
    rintro e w1 ⟨rfl, rfl⟩
    go_wp2_with fail
    go_ret
    exact ⟨by rw [HO.out]; rfl, hB⟩
  · have HO : Hid (suitsV s t = false) := Lib.hid (by unfold suitsV; simp [h])
    obtain ⟨name, start, fin, size, terminal⟩ := t
    obtain ⟨sname, ssize, sterminal⟩ := s
    simp only [TurnV.cells, StandV.cells] at *
    go_enter Tryz.func35, Tryz.ntmps35
    go_wp2_with fail
    rw [HW.out, HW1.out]
    go_ret
    exact ⟨by rw [HO.out]; rfl, hB⟩
def overlapV (a b : TurnV) (n : Int) : Bool := decide (max a.start b.start < min a.fin b.fin + n)
structure TurnB (a : TurnV) : Prop where
  a0 : 0 ≤ a.start
  a1 : a.start ≤ 400000000
  a2 : 0 ≤ a.fin
  a3 : a.fin ≤ 400000000
set_option maxRecDepth 100000 in
theorem overlap_any (a b : TurnV) (n : Int) (w : World) (ha : TurnB a) (hb : TurnB b) (h0 : 0 ≤ n) (h1 : n ≤ 240) :
    Calls Tryz.prog 103 #[.agg a.cells, .agg b.cells, .int .i64 n] w fun r w' => r = .returned (.bool (overlapV a b n)) ∧ Below w.heap.size w w' := by
  obtain ⟨W, HW, hb0, R0⟩ := Turn_new w a 56
  obtain ⟨W1, HW1, hb1, R⟩ := Turn_new W b 56
  obtain ⟨s0, s1, s2, s3, s4⟩ := R0
  have s1 := b_old hb1 s1
  have s2 := b_old hb1 s2
  obtain ⟨r0, r1, r2, r3, r4⟩ := R
  have hB := b_then hb0 hb1
  obtain ⟨a0, a1, a2, a3⟩ := ha
  obtain ⟨b0, b1, b2, b3⟩ := hb
  have HO : Hid (overlapV a b n = decide (max a.start b.start < min a.fin b.fin + n)) := Lib.hid rfl
  obtain ⟨name, start, fin, size, terminal⟩ := a
  obtain ⟨sname, sstart, sfin, ssize, sterminal⟩ := b
  simp only [TurnV.cells] at *
  go_enter Tryz.func103, Tryz.ntmps103
  go_wp2_with fail
  all_goals
    rw [HW.out, HW1.out]
    go_ret
    first
      | exact ⟨by rw [HO.out, show max start sstart = start by omega, show min fin sfin = fin by omega]; rfl, hB⟩
      | exact ⟨by rw [HO.out, show max start sstart = start by omega, show min fin sfin = sfin by omega]; rfl, hB⟩
      | exact ⟨by rw [HO.out, show max start sstart = sstart by omega, show min fin sfin = fin by omega]; rfl, hB⟩
      | exact ⟨by rw [HO.out, show max start sstart = sstart by omega, show min fin sfin = sfin by omega]; rfl, hB⟩
def occV (a : TurnV) (n m : Int) : Bool := decide (a.start ≤ m) && decide (m < a.fin + n)
set_option maxRecDepth 100000 in
theorem occ_any (a : TurnV) (n m : Int) (w : World) (ha : TurnB a) (h0 : 0 ≤ n) (h1 : n ≤ 240) :
    Calls Tryz.prog 104 #[.agg a.cells, .int .i64 n, .int .i64 m] w fun r w' => r = .returned (.bool (occV a n m)) ∧ Below w.heap.size w w' := by
  obtain ⟨W, HW, hB, R⟩ := Turn_new w a 61
  obtain ⟨r0, r1, r2, r3, r4⟩ := R
  obtain ⟨a0, a1, a2, a3⟩ := ha
  by_cases h : a.start ≤ m
  · have HO : Hid (occV a n m = decide (m < a.fin + n)) := Lib.hid (by unfold occV; simp [h])
    obtain ⟨name, start, fin, size, terminal⟩ := a
    simp only [TurnV.cells] at *
    go_enter Tryz.func104, Tryz.ntmps104
    go_wp2_with fail
    rw [HW.out]
    go_ret
    exact ⟨by rw [HO.out]; rfl, hB⟩
  · have HO : Hid (occV a n m = false) := Lib.hid (by unfold occV; simp [h])
    obtain ⟨name, start, fin, size, terminal⟩ := a
    simp only [TurnV.cells] at *
    go_enter Tryz.func104, Tryz.ntmps104
    go_wp2_with fail
    rw [HW.out]
    go_ret
    exact ⟨by rw [HO.out]; rfl, hB⟩
theorem overlap_occ (a b : TurnV) (n : Int) : overlapV a b n = (occV a n (max a.start b.start) && occV b n (max a.start b.start)) := by
  unfold overlapV occV
  have e1 : a.start ≤ max a.start b.start := by omega
  have e2 : b.start ≤ max a.start b.start := by omega
  rw [decide_eq_true e1, decide_eq_true e2, Bool.true_and, Bool.true_and, ← Bool.decide_and]
  exact decide_eq_decide.2 (by omega)
theorem gBuf_any (n : Int) (w : World) : Calls Tryz.prog 102 #[.int .i64 n] w fun r w' => r = .returned (.int .i64 (rng n 0 240)) ∧ w' = w := by
  go_enter Tryz.func102, Tryz.ntmps102
  go_wp2_with fail
  refine (checkRange_any _ _ _ _).mono ?_
  rintro e w' ⟨rfl, rfl⟩
  go_wp2_with fail
  go_ret
  exact ⟨rfl, rfl⟩
end Go.Proofs.YtkjhnemfebgcnaaGreatDoor
