/- The walk of CalendarParts. -/
import Derived.Test.YtijnabgehlkghaaDoorAwake
import Derived.Test.YtijnabgehlkghaaDoorSplit2
import Derived.Test.YtijnabgehlkghaaDoorShift2
import Derived.Test.YtijnabgehlkghaaDoorPerEq
import Derived.Test.YtijnabgehlkghaaDoorQFirst
import Derived.Test.YtijnabgehlkghaaDoorYears0
namespace Go.Proofs.YtijnabgehlkghaaDoor
open Go Go.RowKit
theorem run_eqIn_per (a b c a' b' c' : Int) (w : World) :
    (Op.equalIn 10000 23 (.agg #[.int .i64 a, .int .i64 b, .int .i64 c]) (.agg #[.int .i64 a', .int .i64 b', .int .i64 c'])).run Tryd.prog w = .ok (a == a' && (b == b' && c == c')) w := eqIn_per 9998 a b c a' b' c' w
theorem fst2 (x y : Int) : fst [x, y] = if x = 0 then y else x := by
  by_cases h : x = 0
  · by_cases h2 : y = 0 <;> simp [fst, h, h2]
  · simp [fst, h]
theorem Split_any (a b m day : Int) : ∃ x0 x1 x2 x3 x4 x5 e : Int,
    (∀ w, Calls Tryd.prog 14 #[.agg #[.int .i64 a, .int .i64 b, .int .i64 m], .int .i64 day] w fun r w' => r = .returned (.tuple #[.agg #[.int .i64 x0, .int .i64 x1, .int .i64 x2, .int .i64 x3, .int .i64 x4, .int .i64 x5], .int .i64 e]) ∧ Below w.heap.size w w') ∧
    ((perErr a b m ≠ 0 ∧ e = perErr a b m ∧ x0 = 0 ∧ x1 = 0 ∧ x2 = 0 ∧ x3 = 0 ∧ x4 = 0 ∧ x5 = 0) ∨ (perErr a b m = 0 ∧ ¬ (a < day ∧ day ≤ b) ∧ e = 30 ∧ x0 = 0 ∧ x1 = 0 ∧ x2 = 0 ∧ x3 = 0 ∧ x4 = 0 ∧ x5 = 0) ∨
      (perErr a b m = 0 ∧ (a < day ∧ day ≤ b) ∧ e = 0 ∧ a = x0 ∧ x1 = day - 1 ∧ m = x2 ∧ day = x3 ∧ b = x4 ∧ m = x5)) := by
  have hS : splitErr a b m day = if perErr a b m = 0 then unl (inSplit a b day) 30 else perErr a b m := fst2 _ _
  by_cases hp : perErr a b m = 0
  · rw [if_pos hp] at hS
    by_cases hd : a < day ∧ day ≤ b
    · obtain ⟨⟨ha1, ha2⟩, ⟨hb1, hb2⟩, _⟩ : (0 ≤ a ∧ a ≤ 99999) ∧ (0 ≤ b ∧ b ≤ 99999) ∧ True := by
        obtain ⟨h1, h⟩ := fst_cons_zero hp
        obtain ⟨h2, h⟩ := fst_cons_zero h
        exact ⟨rng_zero h1, rng_zero h2, trivial⟩
      exact ⟨_, _, _, _, _, _, _, fun w => Split_ok a b m day w hp hd.1 hd.2 ha1 hb2, .inr (.inr ⟨hp, hd, rfl, rfl, rfl, rfl, rfl, rfl, rfl⟩)⟩
    · have hu : inSplit a b day = false := by unfold inSplit; simp; omega
      rw [hu] at hS
      have h30 : splitErr a b m day = 30 := hS
      refine ⟨_, _, _, _, _, _, _, fun w => ?_, .inr (.inl ⟨hp, hd, rfl, rfl, rfl, rfl, rfl, rfl, rfl⟩)⟩
      have := Split_err a b m day w (by rw [h30]; decide)
      rw [h30] at this
      exact this
  · rw [if_neg hp] at hS
    refine ⟨_, _, _, _, _, _, _, fun w => ?_, .inl ⟨hp, rfl, rfl, rfl, rfl, rfl, rfl, rfl⟩⟩
    have := Split_err a b m day w (by rw [hS]; exact hp)
    rw [hS] at this
    exact this
theorem Shift_any (a b d : Int) (m : Int) : ∃ y0 y1 y2 e : Int,
    (∀ w, Calls Tryd.prog 15 #[.agg #[.int .i64 a, .int .i64 b, .int .i64 m], .int .i64 d] w fun r w' => r = .returned (.tuple #[.agg #[.int .i64 y0, .int .i64 y1, .int .i64 y2], .int .i64 e]) ∧ Below w.heap.size w w') ∧
    ((shiftErr a b m d ≠ 0 ∧ e = shiftErr a b m d ∧ y0 = 0 ∧ y1 = 0 ∧ y2 = 0) ∨
      (shiftErr a b m d = 0 ∧ (∃ u0 u1 u : Int, (u0 < 0 ∨ (0 ≤ u0 ∧ 99999 < u1)) ∧ ∀ w, Calls Tryd.prog 19 #[.agg #[.int .i64 a, .int .i64 b, .int .i64 m], .int .i64 d] w fun r w' => r = .returned (.agg #[.int .i64 u0, .int .i64 u1, .int .i64 u]) ∧ Below w.heap.size w w') ∧ e = 30 ∧ y0 = 0 ∧ y1 = 0 ∧ y2 = 0) ∨
      (shiftErr a b m d = 0 ∧ (∀ w, Calls Tryd.prog 19 #[.agg #[.int .i64 a, .int .i64 b, .int .i64 m], .int .i64 d] w fun r w' => r = .returned (.agg #[.int .i64 y0, .int .i64 y1, .int .i64 y2]) ∧ Below w.heap.size w w') ∧ (0 ≤ a + d ∧ b + d ≤ 99999) ∧ e = 0 ∧ y0 = a + d ∧ y1 = b + d)) := by
  by_cases hz : shiftErr a b m d = 0
  · obtain ⟨hp, h⟩ := fst_cons_zero hz
    obtain ⟨hr, _⟩ := fst_cons_zero h
    obtain ⟨hd1, hd2⟩ := rng_zero hr
    obtain ⟨h1, h⟩ := fst_cons_zero hp
    obtain ⟨h2, h⟩ := fst_cons_zero h
    obtain ⟨_, h⟩ := fst_cons_zero h
    obtain ⟨_, h⟩ := fst_cons_zero h
    obtain ⟨h5, _⟩ := fst_cons_zero h
    obtain ⟨ha1, ha2⟩ := rng_zero h1
    obtain ⟨hb1, hb2⟩ := rng_zero h2
    obtain ⟨hm1, hm2⟩ := rng_zero h5
    obtain ⟨n, rfl⟩ := Int.eq_ofNat_of_zero_le (show 0 ≤ m by omega)
    obtain ⟨s, hs⟩ := Int.eq_ofNat_of_zero_le (show 0 ≤ d % 7 by omega)
    by_cases hin : 0 ≤ a + d ∧ b + d ≤ 99999
    · refine ⟨_, _, _, _, fun w => ?_, .inr (.inr ⟨hz, fun w => qShift_ok a b d n s w (by omega) (by omega) (by omega) (by omega) (by omega) (by omega) (by omega) hs, hin, rfl, rfl, rfl⟩)⟩
      have := Shift_in a b d n s w hp ha1 ha2 hb1 hb2 hd1 hd2 (by omega) hs
      rw [if_pos hin] at this
      exact this
    · refine ⟨_, _, _, _, fun w => ?_, .inr (.inl ⟨hz, ⟨a + d, b + d, _, by omega, fun w => qShift_ok a b d n s w (by omega) (by omega) (by omega) (by omega) (by omega) (by omega) (by omega) hs⟩, rfl, rfl, rfl, rfl⟩)⟩
      have := Shift_in a b d n s w hp ha1 ha2 hb1 hb2 hd1 hd2 (by omega) hs
      rw [if_neg hin] at this
      exact this
  · exact ⟨_, _, _, _, fun w => Shift_err a b m d w hz, .inl ⟨hz, rfl, rfl, rfl, rfl⟩⟩
theorem set3 {w W : World} {p : Nat} {a b c x y z : Value} (h : ((w.setCell ⟨p, 0, none⟩ x).setCell ⟨p, 1, none⟩ y).setCell ⟨p, 2, none⟩ z = W) (h0 : w.cell? ⟨p, 0, none⟩ = some a) (h1 : w.cell? ⟨p, 1, none⟩ = some b) (h2 : w.cell? ⟨p, 2, none⟩ = some c)
    (f0 : w.frozen? ⟨p, 0, none⟩ = false) (f1 : w.frozen? ⟨p, 1, none⟩ = false) (f2 : w.frozen? ⟨p, 2, none⟩ = false) :
    W.cell? ⟨p, 0, none⟩ = some x ∧ W.cell? ⟨p, 1, none⟩ = some y ∧ W.cell? ⟨p, 2, none⟩ = some z ∧ W.frozen? ⟨p, 0, none⟩ = false ∧ W.frozen? ⟨p, 1, none⟩ = false ∧ W.frozen? ⟨p, 2, none⟩ = false ∧ Below p w W := by
  subst h
  have n01 : (⟨p, 0, none⟩ : Addr) ≠ ⟨p, 1, none⟩ := by simp
  have n02 : (⟨p, 0, none⟩ : Addr) ≠ ⟨p, 2, none⟩ := by simp
  have n12 : (⟨p, 1, none⟩ : Addr) ≠ ⟨p, 2, none⟩ := by simp
  have a0 : (w.setCell ⟨p, 0, none⟩ x).cell? ⟨p, 0, none⟩ = some x := World.cell?_setCell_same _ _ _ h0
  have a1 : (w.setCell ⟨p, 0, none⟩ x).cell? ⟨p, 1, none⟩ = some b := (World.cell?_setCell_other _ _ _ _ n01).trans h1
  have a2 : (w.setCell ⟨p, 0, none⟩ x).cell? ⟨p, 2, none⟩ = some c := (World.cell?_setCell_other _ _ _ _ n02).trans h2
  have b0 : ((w.setCell ⟨p, 0, none⟩ x).setCell ⟨p, 1, none⟩ y).cell? ⟨p, 0, none⟩ = some x := (World.cell?_setCell_other _ _ _ _ n01.symm).trans a0
  have b1 : ((w.setCell ⟨p, 0, none⟩ x).setCell ⟨p, 1, none⟩ y).cell? ⟨p, 1, none⟩ = some y := World.cell?_setCell_same _ _ _ a1
  have b2 : ((w.setCell ⟨p, 0, none⟩ x).setCell ⟨p, 1, none⟩ y).cell? ⟨p, 2, none⟩ = some c := (World.cell?_setCell_other _ _ _ _ n12).trans a2
  refine ⟨(World.cell?_setCell_other _ _ _ _ n02.symm).trans b0, (World.cell?_setCell_other _ _ _ _ n12.symm).trans b1, World.cell?_setCell_same _ _ _ b2, by simp [f0], by simp [f1], by simp [f2], ?_⟩
  exact (((Below.refl _ _).setCell (p := ⟨p, 0, none⟩) (Nat.le_refl _) x).setCell (p := ⟨p, 1, none⟩) (Nat.le_refl _) y).setCell (p := ⟨p, 2, none⟩) (Nat.le_refl _) z
attribute [local go_sem] run_eqIn_per2 run_eqIn_per
set_option maxRecDepth 100000 in
set_option maxHeartbeats 8000000 in
theorem Parts_true (a b c day d : Int) (w : World) (hl : Ev.Reads lst w) :
    Calls Tryd.prog 3 #[.agg #[.int .i64 a, .int .i64 b, .int .i64 c], .int .i64 day, .int .i64 d] w (IsTrue w) := by
  have HL := Lib.hid hl
  clear hl
  obtain ⟨x0, x1, x2, x3, x4, x5, e1, hS, hx⟩ := Split_any a b c day
  obtain ⟨y0, y1, y2, e2, hT, hy⟩ := Shift_any a b d c
  have HS := Lib.hid hS
  have HT := Lib.hid hT
  have HX := Lib.hid hx
  have HY := Lib.hid hy
  clear hS hT hx hy
  obtain ⟨W, HW, hb0, c0, c1, c2⟩ : ∃ W, Hid (w.alloc (.cells #[.int .i64 a, .int .i64 b, .int .i64 c] 23) = W) ∧ Below w.heap.size w W ∧ W.cell? ⟨w.heap.size, 0, none⟩ = some (.int .i64 a) ∧ W.cell? ⟨w.heap.size, 1, none⟩ = some (.int .i64 b) ∧ W.cell? ⟨w.heap.size, 2, none⟩ = some (.int .i64 c) :=
    ⟨_, Lib.hid rfl, below_alloc w _, by simp, by simp, by simp⟩
  go_enter Tryd.func3, Tryd.ntmps3
  go_wp2_with fail
  rw [HW.out]
  refine (awake_true _ (reads_below HL.out hb0)).mono ?_
  rintro e w1 ⟨rfl, hb⟩
  replace c0 := b_old hb c0; replace c1 := b_old hb c1; replace c2 := b_old hb c2
  have hb1 := b_then hb0 hb
  clear hb hb0
  go_wp2_with fail
  refine (HS.out _).mono ?_
  rintro e w2 ⟨rfl, hb⟩
  replace c0 := b_old hb c0; replace c1 := b_old hb c1; replace c2 := b_old hb c2
  have hb2 := b_then hb1 hb
  clear hb hb1
  obtain ⟨W2, HW2, hbW, p0, p1, p2, p3, p4, p5⟩ : ∃ W2, Hid (w2.alloc (.cells #[.int .i64 x0, .int .i64 x1, .int .i64 x2, .int .i64 x3, .int .i64 x4, .int .i64 x5] 25) = W2) ∧ Below w2.heap.size w2 W2 ∧
      W2.cell? ⟨w2.heap.size, 0, none⟩ = some (.int .i64 x0) ∧ W2.cell? ⟨w2.heap.size, 1, none⟩ = some (.int .i64 x1) ∧ W2.cell? ⟨w2.heap.size, 2, none⟩ = some (.int .i64 x2) ∧ W2.cell? ⟨w2.heap.size, 3, none⟩ = some (.int .i64 x3) ∧ W2.cell? ⟨w2.heap.size, 4, none⟩ = some (.int .i64 x4) ∧ W2.cell? ⟨w2.heap.size, 5, none⟩ = some (.int .i64 x5) :=
    ⟨_, Lib.hid rfl, below_alloc _ _, by simp, by simp, by simp, by simp, by simp, by simp⟩
  have q0 := b_old (below_alloc w2 (.cells #[.int .i64 x0, .int .i64 x1, .int .i64 x2, .int .i64 x3, .int .i64 x4, .int .i64 x5] 25)) c0
  have q1 := b_old (below_alloc w2 (.cells #[.int .i64 x0, .int .i64 x1, .int .i64 x2, .int .i64 x3, .int .i64 x4, .int .i64 x5] 25)) c1
  have q2 := b_old (below_alloc w2 (.cells #[.int .i64 x0, .int .i64 x1, .int .i64 x2, .int .i64 x3, .int .i64 x4, .int .i64 x5] 25)) c2
  replace c0 := b_old hbW c0; replace c1 := b_old hbW c1; replace c2 := b_old hbW c2
  replace hb2 := b_then hb2 hbW
  clear hbW
  go_wp2_with fail
  rw [HW2.out]
  clear q0 q1 q2 HW2
  refine (HT.out _).mono ?_
  rintro e w3 ⟨rfl, hb⟩
  replace c0 := b_old hb c0; replace c1 := b_old hb c1; replace c2 := b_old hb c2
  replace p0 := b_old hb p0; replace p1 := b_old hb p1; replace p2 := b_old hb p2; replace p3 := b_old hb p3; replace p4 := b_old hb p4; replace p5 := b_old hb p5
  have hb3 := b_then hb2 hb
  clear hb hb2
  obtain ⟨W3, HW3, hbW, r0, r1, r2⟩ : ∃ W3, Hid (w3.alloc (.cells #[.int .i64 y0, .int .i64 y1, .int .i64 y2] 23) = W3) ∧ Below w3.heap.size w3 W3 ∧
      W3.cell? ⟨w3.heap.size, 0, none⟩ = some (.int .i64 y0) ∧ W3.cell? ⟨w3.heap.size, 1, none⟩ = some (.int .i64 y1) ∧ W3.cell? ⟨w3.heap.size, 2, none⟩ = some (.int .i64 y2) :=
    ⟨_, Lib.hid rfl, below_alloc _ _, by simp, by simp, by simp⟩
  have q0 := b_old (below_alloc w3 (.cells #[.int .i64 y0, .int .i64 y1, .int .i64 y2] 23)) c0
  have q1 := b_old (below_alloc w3 (.cells #[.int .i64 y0, .int .i64 y1, .int .i64 y2] 23)) c1
  have q2 := b_old (below_alloc w3 (.cells #[.int .i64 y0, .int .i64 y1, .int .i64 y2] 23)) c2
  replace c0 := b_old hbW c0; replace c1 := b_old hbW c1; replace c2 := b_old hbW c2
  replace p0 := b_old hbW p0; replace p1 := b_old hbW p1; replace p2 := b_old hbW p2; replace p3 := b_old hbW p3; replace p4 := b_old hbW p4; replace p5 := b_old hbW p5
  replace hb3 := b_then hb3 hbW
  clear hbW
  go_wp2_with fail
  rw [HW3.out]
  clear q0 q1 q2 HW3
  refine (qCheckPeriod_any _ _ _ _).mono ?_
  rintro e w4 ⟨rfl, hb⟩
  replace c0 := b_old hb c0; replace c1 := b_old hb c1; replace c2 := b_old hb c2
  replace p0 := b_old hb p0; replace p1 := b_old hb p1; replace p2 := b_old hb p2; replace p3 := b_old hb p3; replace p4 := b_old hb p4; replace p5 := b_old hb p5
  replace r0 := b_old hb r0; replace r1 := b_old hb r1; replace r2 := b_old hb r2
  have hb4 := b_then hb3 hb
  clear hb hb3
  go_wp2_with fail
  refine (qRange_any _ _ _ _).mono ?_
  rintro e w5 ⟨rfl, hw⟩
  rw [hw]
  clear hw
  go_wp2_with fail
  refine (first_new [_, _] _ _ _ _ _ rfl rfl (by simp)).mono ?_
  rintro e w6 ⟨rfl, hw⟩
  have hb : Below w4.heap.size w4 w6 := by rw [hw]; exact below_alloc _ _
  replace c0 := b_old hb c0; replace c1 := b_old hb c1; replace c2 := b_old hb c2
  replace p0 := b_old hb p0; replace p1 := b_old hb p1; replace p2 := b_old hb p2; replace p3 := b_old hb p3; replace p4 := b_old hb p4; replace p5 := b_old hb p5
  replace r0 := b_old hb r0; replace r1 := b_old hb r1; replace r2 := b_old hb r2
  have hb6 := b_then hb4 hb
  rw [show fst [perErr a b c, rng d (-99999) 99999] = shiftErr a b c d from rfl]
  clear hb hb4 hw HS HT
  have hn0 : w.heap.size ≠ w6.heap.size := by have := cell_in c0; simp at this; omega
  have hn0' : w6.heap.size ≠ w.heap.size := fun e => hn0 e.symm
  have hn2 : w2.heap.size ≠ w6.heap.size := by have := cell_in p0; simp at this; omega
  have hl2 : w2.heap.size < w6.heap.size := by have := cell_in p0; simpa using this
  have hl3 : w3.heap.size < w6.heap.size := by have := cell_in r0; simpa using this
  have hn2' : w6.heap.size ≠ w2.heap.size := fun e => hn2 e.symm
  have hn3 : w3.heap.size ≠ w6.heap.size := by have := cell_in r0; simp at this; omega
  have hn3' : w6.heap.size ≠ w3.heap.size := fun e => hn3 e.symm
  have c0' := b_old (below_alloc2 w6 (.cells #[.int .i64 0, .int .i64 0, .int .i64 0, .int .i64 0, .int .i64 0, .int .i64 0] 25) (.cells #[.int .i64 0, .int .i64 0, .int .i64 0] 23)) c0
  have c1' := b_old (below_alloc2 w6 (.cells #[.int .i64 0, .int .i64 0, .int .i64 0, .int .i64 0, .int .i64 0, .int .i64 0] 25) (.cells #[.int .i64 0, .int .i64 0, .int .i64 0] 23)) c1
  have c2' := b_old (below_alloc2 w6 (.cells #[.int .i64 0, .int .i64 0, .int .i64 0, .int .i64 0, .int .i64 0, .int .i64 0] 25) (.cells #[.int .i64 0, .int .i64 0, .int .i64 0] 23)) c2
  have p0' := b_old (below_alloc2 w6 (.cells #[.int .i64 0, .int .i64 0, .int .i64 0, .int .i64 0, .int .i64 0, .int .i64 0] 25) (.cells #[.int .i64 0, .int .i64 0, .int .i64 0] 23)) p0
  have p1' := b_old (below_alloc2 w6 (.cells #[.int .i64 0, .int .i64 0, .int .i64 0, .int .i64 0, .int .i64 0, .int .i64 0] 25) (.cells #[.int .i64 0, .int .i64 0, .int .i64 0] 23)) p1
  have p2' := b_old (below_alloc2 w6 (.cells #[.int .i64 0, .int .i64 0, .int .i64 0, .int .i64 0, .int .i64 0, .int .i64 0] 25) (.cells #[.int .i64 0, .int .i64 0, .int .i64 0] 23)) p2
  have p3' := b_old (below_alloc2 w6 (.cells #[.int .i64 0, .int .i64 0, .int .i64 0, .int .i64 0, .int .i64 0, .int .i64 0] 25) (.cells #[.int .i64 0, .int .i64 0, .int .i64 0] 23)) p3
  have p4' := b_old (below_alloc2 w6 (.cells #[.int .i64 0, .int .i64 0, .int .i64 0, .int .i64 0, .int .i64 0, .int .i64 0] 25) (.cells #[.int .i64 0, .int .i64 0, .int .i64 0] 23)) p4
  have p5' := b_old (below_alloc2 w6 (.cells #[.int .i64 0, .int .i64 0, .int .i64 0, .int .i64 0, .int .i64 0, .int .i64 0] 25) (.cells #[.int .i64 0, .int .i64 0, .int .i64 0] 23)) p5
  have r0' := b_old (below_alloc2 w6 (.cells #[.int .i64 0, .int .i64 0, .int .i64 0, .int .i64 0, .int .i64 0, .int .i64 0] 25) (.cells #[.int .i64 0, .int .i64 0, .int .i64 0] 23)) r0
  have r1' := b_old (below_alloc2 w6 (.cells #[.int .i64 0, .int .i64 0, .int .i64 0, .int .i64 0, .int .i64 0, .int .i64 0] 25) (.cells #[.int .i64 0, .int .i64 0, .int .i64 0] 23)) r1
  have r2' := b_old (below_alloc2 w6 (.cells #[.int .i64 0, .int .i64 0, .int .i64 0, .int .i64 0, .int .i64 0, .int .i64 0] 25) (.cells #[.int .i64 0, .int .i64 0, .int .i64 0] 23)) r2
  have hbx := b_then hb6 (below_alloc2 w6 (.cells #[.int .i64 0, .int .i64 0, .int .i64 0, .int .i64 0, .int .i64 0, .int .i64 0] 25) (.cells #[.int .i64 0, .int .i64 0, .int .i64 0] 23))
  have hle : w.heap.size ≤ w6.heap.size := hb6.size
  rcases HX.out with ⟨hp, rfl, rfl, rfl, rfl, rfl, rfl, rfl⟩ | ⟨hp, hd, rfl, rfl, rfl, rfl, rfl, rfl, rfl⟩ | ⟨hp, hd, rfl, rfl, rfl, rfl, rfl, rfl, rfl⟩
  · have hs : shiftErr a b c d = perErr a b c := by show fst [_, _] = _; rw [fst2, if_neg hp]
    rcases HY.out with ⟨hs2, rfl, rfl, rfl, rfl⟩ | ⟨hs2, _⟩ | ⟨hs2, _⟩
    · rw [hs] at *
      have hb1 : (perErr a b c == 0) = false := by simpa using hp
      generalize perErr a b c = bad at *
      clear HX HY hs hs2 hp
      go_wp2_with fail
      go_ret
      exact ⟨rfl, hbx⟩
    · rw [hs] at hs2; exact absurd hs2 hp
    · rw [hs] at hs2; exact absurd hs2 hp
  · have HP := Lib.hid hp
    rw [hp]
    have hd' : day ≤ a ∨ (a < day ∧ b < day) := by omega
    clear hd hp HX
    rcases HY.out with ⟨hs2, rfl, rfl, rfl, rfl⟩ | ⟨hs2, ⟨u0, u1, u, hin', hq⟩, rfl, rfl, rfl, rfl⟩ | ⟨hs2, hq, hin, rfl, rfl, rfl⟩
    · have hb1 : (shiftErr a b c d == 0) = false := by simpa using hs2
      generalize shiftErr a b c d = bad at *
      clear HY hs2
      rcases hd' with h1 | ⟨h1, h2⟩
      all_goals
        go_wp2_with fail
        go_ret
        exact ⟨rfl, hbx⟩
    · rw [hs2]
      have HQ := Lib.hid hq
      clear HY hs2 hq
      rcases hd' with h1 | ⟨h1, h2⟩
      all_goals
        go_wp2_with fail
        refine (HQ.out _).mono ?_
        rintro e w7 ⟨rfl, hb7⟩
        have hx67 := below_alloc2 w6 (.cells #[.int .i64 0, .int .i64 0, .int .i64 0, .int .i64 0, .int .i64 0, .int .i64 0] 25) (.cells #[.int .i64 0, .int .i64 0, .int .i64 0] 23)
        have h67 := b_then hx67 hb7
        have p07 := b_old h67 p0
        have p17 := b_old h67 p1
        have p27 := b_old h67 p2
        have p37 := b_old h67 p3
        have p47 := b_old h67 p4
        have p57 := b_old h67 p5
        have r07 := b_old h67 r0
        have r17 := b_old h67 r1
        have r27 := b_old h67 r2
        have z0 : w7.cell? ⟨w6.heap.size, 0, none⟩ = some (.int .i64 0) := b_old hb7 (by simp)
        have z1 : w7.cell? ⟨w6.heap.size, 1, none⟩ = some (.int .i64 0) := b_old hb7 (by simp)
        have z2 : w7.cell? ⟨w6.heap.size, 2, none⟩ = some (.int .i64 0) := b_old hb7 (by simp)
        have z3 : w7.cell? ⟨w6.heap.size, 3, none⟩ = some (.int .i64 0) := b_old hb7 (by simp)
        have z4 : w7.cell? ⟨w6.heap.size, 4, none⟩ = some (.int .i64 0) := b_old hb7 (by simp)
        have z5 : w7.cell? ⟨w6.heap.size, 5, none⟩ = some (.int .i64 0) := b_old hb7 (by simp)
        have cu0 : w7.cell? ⟨w6.heap.size + 1, 0, none⟩ = some (.int .i64 0) := b_old hb7 (by simp)
        have cf0 : w7.frozen? ⟨w6.heap.size + 1, 0, none⟩ = false := (hb7.frozen (p := ⟨w6.heap.size + 1, 0, none⟩) (by simp)).trans (by simp)
        have cu1 : w7.cell? ⟨w6.heap.size + 1, 1, none⟩ = some (.int .i64 0) := b_old hb7 (by simp)
        have cf1 : w7.frozen? ⟨w6.heap.size + 1, 1, none⟩ = false := (hb7.frozen (p := ⟨w6.heap.size + 1, 1, none⟩) (by simp)).trans (by simp)
        have cu2 : w7.cell? ⟨w6.heap.size + 1, 2, none⟩ = some (.int .i64 0) := b_old hb7 (by simp)
        have cf2 : w7.frozen? ⟨w6.heap.size + 1, 2, none⟩ = false := (hb7.frozen (p := ⟨w6.heap.size + 1, 2, none⟩) (by simp)).trans (by simp)
        have hb17 := b_then hb6 h67
        clear hb7 hx67 h67 c0 c1 c2 p0 p1 p2 p3 p4 p5 r0 r1 r2 hbx hn0 hn0' hn2 hn2' hn3 hn3' c0' c1' c2' p0' p1' p2' p3' p4' p5' r0' r1' r2'
        go_upto_region 15 with (fail)
        go_name_world W8 h8w
        obtain ⟨t0, t1, t2, g0, g1, g2, hbn⟩ := set3 h8w cu0 cu1 cu2 cf0 cf1 cf2
        replace p07 := b_keep hbn (by omega) p07
        replace p17 := b_keep hbn (by omega) p17
        replace p27 := b_keep hbn (by omega) p27
        replace p37 := b_keep hbn (by omega) p37
        replace p47 := b_keep hbn (by omega) p47
        replace p57 := b_keep hbn (by omega) p57
        replace r07 := b_keep hbn (by omega) r07
        replace r17 := b_keep hbn (by omega) r17
        replace r27 := b_keep hbn (by omega) r27
        replace z0 := b_keep hbn (by omega) z0
        replace z1 := b_keep hbn (by omega) z1
        replace z2 := b_keep hbn (by omega) z2
        replace z3 := b_keep hbn (by omega) z3
        replace z4 := b_keep hbn (by omega) z4
        replace z5 := b_keep hbn (by omega) z5
        replace hb17 := hb17.trans (hbn.mono (by omega))
        clear cu0 cu1 cu2 cf0 cf1 cf2 h8w hbn
        rcases hin' with v1 | ⟨v1, v2⟩
        all_goals
          go_upto_region 17 with (fail)
          go_name_world W9 h9w
          obtain ⟨s0, s1, s2, q0, q1, q2, hbn⟩ := set3 h9w t0 t1 t2 g0 g1 g2
          replace p07 := b_keep hbn (by omega) p07
          replace p17 := b_keep hbn (by omega) p17
          replace p27 := b_keep hbn (by omega) p27
          replace p37 := b_keep hbn (by omega) p37
          replace p47 := b_keep hbn (by omega) p47
          replace p57 := b_keep hbn (by omega) p57
          replace r07 := b_keep hbn (by omega) r07
          replace r17 := b_keep hbn (by omega) r17
          replace r27 := b_keep hbn (by omega) r27
          replace z0 := b_keep hbn (by omega) z0
          replace z1 := b_keep hbn (by omega) z1
          replace z2 := b_keep hbn (by omega) z2
          replace z3 := b_keep hbn (by omega) z3
          replace z4 := b_keep hbn (by omega) z4
          replace z5 := b_keep hbn (by omega) z5
          replace hb17 := hb17.trans (hbn.mono (by omega))
          clear t0 t1 t2 g0 g1 g2 h9w hbn
          go_wp2_with fail
          go_ret
          exact ⟨rfl, hb17⟩
    · rw [hs2]
      have HQ := Lib.hid hq
      obtain ⟨g1, g2⟩ := hin
      clear HY hs2 hq
      rcases hd' with h1 | ⟨h1, h2⟩
      all_goals
        go_wp2_with fail
        refine (HQ.out _).mono ?_
        rintro e w7 ⟨rfl, hb7⟩
        have hx67 := below_alloc2 w6 (.cells #[.int .i64 0, .int .i64 0, .int .i64 0, .int .i64 0, .int .i64 0, .int .i64 0] 25) (.cells #[.int .i64 0, .int .i64 0, .int .i64 0] 23)
        have h67 := b_then hx67 hb7
        have p07 := b_old h67 p0
        have p17 := b_old h67 p1
        have p27 := b_old h67 p2
        have p37 := b_old h67 p3
        have p47 := b_old h67 p4
        have p57 := b_old h67 p5
        have r07 := b_old h67 r0
        have r17 := b_old h67 r1
        have r27 := b_old h67 r2
        have z0 : w7.cell? ⟨w6.heap.size, 0, none⟩ = some (.int .i64 0) := b_old hb7 (by simp)
        have z1 : w7.cell? ⟨w6.heap.size, 1, none⟩ = some (.int .i64 0) := b_old hb7 (by simp)
        have z2 : w7.cell? ⟨w6.heap.size, 2, none⟩ = some (.int .i64 0) := b_old hb7 (by simp)
        have z3 : w7.cell? ⟨w6.heap.size, 3, none⟩ = some (.int .i64 0) := b_old hb7 (by simp)
        have z4 : w7.cell? ⟨w6.heap.size, 4, none⟩ = some (.int .i64 0) := b_old hb7 (by simp)
        have z5 : w7.cell? ⟨w6.heap.size, 5, none⟩ = some (.int .i64 0) := b_old hb7 (by simp)
        have cu0 : w7.cell? ⟨w6.heap.size + 1, 0, none⟩ = some (.int .i64 0) := b_old hb7 (by simp)
        have cf0 : w7.frozen? ⟨w6.heap.size + 1, 0, none⟩ = false := (hb7.frozen (p := ⟨w6.heap.size + 1, 0, none⟩) (by simp)).trans (by simp)
        have cu1 : w7.cell? ⟨w6.heap.size + 1, 1, none⟩ = some (.int .i64 0) := b_old hb7 (by simp)
        have cf1 : w7.frozen? ⟨w6.heap.size + 1, 1, none⟩ = false := (hb7.frozen (p := ⟨w6.heap.size + 1, 1, none⟩) (by simp)).trans (by simp)
        have cu2 : w7.cell? ⟨w6.heap.size + 1, 2, none⟩ = some (.int .i64 0) := b_old hb7 (by simp)
        have cf2 : w7.frozen? ⟨w6.heap.size + 1, 2, none⟩ = false := (hb7.frozen (p := ⟨w6.heap.size + 1, 2, none⟩) (by simp)).trans (by simp)
        have hb17 := b_then hb6 h67
        clear hb7 hx67 h67 c0 c1 c2 p0 p1 p2 p3 p4 p5 r0 r1 r2 hbx hn0 hn0' hn2 hn2' hn3 hn3' c0' c1' c2' p0' p1' p2' p3' p4' p5' r0' r1' r2'
        go_upto_region 15 with (fail)
        go_name_world W8 h8w
        obtain ⟨t0, t1, t2, g0, g1, g2, hbn⟩ := set3 h8w cu0 cu1 cu2 cf0 cf1 cf2
        replace p07 := b_keep hbn (by omega) p07
        replace p17 := b_keep hbn (by omega) p17
        replace p27 := b_keep hbn (by omega) p27
        replace p37 := b_keep hbn (by omega) p37
        replace p47 := b_keep hbn (by omega) p47
        replace p57 := b_keep hbn (by omega) p57
        replace r07 := b_keep hbn (by omega) r07
        replace r17 := b_keep hbn (by omega) r17
        replace r27 := b_keep hbn (by omega) r27
        replace z0 := b_keep hbn (by omega) z0
        replace z1 := b_keep hbn (by omega) z1
        replace z2 := b_keep hbn (by omega) z2
        replace z3 := b_keep hbn (by omega) z3
        replace z4 := b_keep hbn (by omega) z4
        replace z5 := b_keep hbn (by omega) z5
        replace hb17 := hb17.trans (hbn.mono (by omega))
        clear cu0 cu1 cu2 cf0 cf1 cf2 h8w hbn
        go_wp2_with fail
        go_ret
        exact ⟨rfl, hb17⟩
  · have HP := Lib.hid hp
    obtain ⟨⟨ha1, ha2⟩, hb1, hb2⟩ : (0 ≤ a ∧ a ≤ 99999) ∧ (0 ≤ b ∧ b ≤ 99999) := by
      obtain ⟨h1, h⟩ := fst_cons_zero hp
      obtain ⟨h2, h⟩ := fst_cons_zero h
      exact ⟨rng_zero h1, rng_zero h2⟩
    rw [hp]
    have c0s := b_old (below_alloc2 w6 (.cells #[.int .i64 a, .int .i64 (day - 1), .int .i64 c, .int .i64 day, .int .i64 b, .int .i64 c] 25) (.cells #[.int .i64 0, .int .i64 0, .int .i64 0] 23)) c0
    have c1s := b_old (below_alloc2 w6 (.cells #[.int .i64 a, .int .i64 (day - 1), .int .i64 c, .int .i64 day, .int .i64 b, .int .i64 c] 25) (.cells #[.int .i64 0, .int .i64 0, .int .i64 0] 23)) c1
    have c2s := b_old (below_alloc2 w6 (.cells #[.int .i64 a, .int .i64 (day - 1), .int .i64 c, .int .i64 day, .int .i64 b, .int .i64 c] 25) (.cells #[.int .i64 0, .int .i64 0, .int .i64 0] 23)) c2
    have p0s := b_old (below_alloc2 w6 (.cells #[.int .i64 a, .int .i64 (day - 1), .int .i64 c, .int .i64 day, .int .i64 b, .int .i64 c] 25) (.cells #[.int .i64 0, .int .i64 0, .int .i64 0] 23)) p0
    have p1s := b_old (below_alloc2 w6 (.cells #[.int .i64 a, .int .i64 (day - 1), .int .i64 c, .int .i64 day, .int .i64 b, .int .i64 c] 25) (.cells #[.int .i64 0, .int .i64 0, .int .i64 0] 23)) p1
    have p2s := b_old (below_alloc2 w6 (.cells #[.int .i64 a, .int .i64 (day - 1), .int .i64 c, .int .i64 day, .int .i64 b, .int .i64 c] 25) (.cells #[.int .i64 0, .int .i64 0, .int .i64 0] 23)) p2
    have p3s := b_old (below_alloc2 w6 (.cells #[.int .i64 a, .int .i64 (day - 1), .int .i64 c, .int .i64 day, .int .i64 b, .int .i64 c] 25) (.cells #[.int .i64 0, .int .i64 0, .int .i64 0] 23)) p3
    have p4s := b_old (below_alloc2 w6 (.cells #[.int .i64 a, .int .i64 (day - 1), .int .i64 c, .int .i64 day, .int .i64 b, .int .i64 c] 25) (.cells #[.int .i64 0, .int .i64 0, .int .i64 0] 23)) p4
    have p5s := b_old (below_alloc2 w6 (.cells #[.int .i64 a, .int .i64 (day - 1), .int .i64 c, .int .i64 day, .int .i64 b, .int .i64 c] 25) (.cells #[.int .i64 0, .int .i64 0, .int .i64 0] 23)) p5
    have r0s := b_old (below_alloc2 w6 (.cells #[.int .i64 a, .int .i64 (day - 1), .int .i64 c, .int .i64 day, .int .i64 b, .int .i64 c] 25) (.cells #[.int .i64 0, .int .i64 0, .int .i64 0] 23)) r0
    have r1s := b_old (below_alloc2 w6 (.cells #[.int .i64 a, .int .i64 (day - 1), .int .i64 c, .int .i64 day, .int .i64 b, .int .i64 c] 25) (.cells #[.int .i64 0, .int .i64 0, .int .i64 0] 23)) r1
    have r2s := b_old (below_alloc2 w6 (.cells #[.int .i64 a, .int .i64 (day - 1), .int .i64 c, .int .i64 day, .int .i64 b, .int .i64 c] 25) (.cells #[.int .i64 0, .int .i64 0, .int .i64 0] 23)) r2
    have hbs := b_then hb6 (below_alloc2 w6 (.cells #[.int .i64 a, .int .i64 (day - 1), .int .i64 c, .int .i64 day, .int .i64 b, .int .i64 c] 25) (.cells #[.int .i64 0, .int .i64 0, .int .i64 0] 23))
    obtain ⟨h1, h2⟩ := hd
    clear hp HX
    rcases HY.out with ⟨hs2, rfl, rfl, rfl, rfl⟩ | ⟨hs2, ⟨u0, u1, u, hin', hq⟩, rfl, rfl, rfl, rfl⟩ | ⟨hs2, hq, hin, rfl, rfl, rfl⟩
    · have hbad : (shiftErr a b c d == 0) = false := by simpa using hs2
      generalize shiftErr a b c d = bad at *
      clear HY hs2
      go_wp2_with fail
      go_ret
      exact ⟨rfl, by repeat (first | exact hbs | refine Below.setCell ?_ (by show _ ≤ _; omega) _)⟩
    · rw [hs2]
      have HQ := Lib.hid hq
      clear HY hs2 hq
      go_wp2_with fail
      refine (HQ.out _).mono ?_
      rintro e w7 ⟨rfl, hb7⟩
      have hx67 := below_alloc2 w6 (.cells #[.int .i64 a, .int .i64 (day - 1), .int .i64 c, .int .i64 day, .int .i64 b, .int .i64 c] 25) (.cells #[.int .i64 0, .int .i64 0, .int .i64 0] 23)
      have h67 := b_then hx67 hb7
      have p07 := b_old h67 p0
      have p17 := b_old h67 p1
      have p27 := b_old h67 p2
      have p37 := b_old h67 p3
      have p47 := b_old h67 p4
      have p57 := b_old h67 p5
      have r07 := b_old h67 r0
      have r17 := b_old h67 r1
      have r27 := b_old h67 r2
      have z0 : w7.cell? ⟨w6.heap.size, 0, none⟩ = some (.int .i64 a) := b_old hb7 (by simp)
      have z1 : w7.cell? ⟨w6.heap.size, 1, none⟩ = some (.int .i64 (day - 1)) := b_old hb7 (by simp)
      have z2 : w7.cell? ⟨w6.heap.size, 2, none⟩ = some (.int .i64 c) := b_old hb7 (by simp)
      have z3 : w7.cell? ⟨w6.heap.size, 3, none⟩ = some (.int .i64 day) := b_old hb7 (by simp)
      have z4 : w7.cell? ⟨w6.heap.size, 4, none⟩ = some (.int .i64 b) := b_old hb7 (by simp)
      have z5 : w7.cell? ⟨w6.heap.size, 5, none⟩ = some (.int .i64 c) := b_old hb7 (by simp)
      have cu0 : w7.cell? ⟨w6.heap.size + 1, 0, none⟩ = some (.int .i64 0) := b_old hb7 (by simp)
      have cf0 : w7.frozen? ⟨w6.heap.size + 1, 0, none⟩ = false := (hb7.frozen (p := ⟨w6.heap.size + 1, 0, none⟩) (by simp)).trans (by simp)
      have cu1 : w7.cell? ⟨w6.heap.size + 1, 1, none⟩ = some (.int .i64 0) := b_old hb7 (by simp)
      have cf1 : w7.frozen? ⟨w6.heap.size + 1, 1, none⟩ = false := (hb7.frozen (p := ⟨w6.heap.size + 1, 1, none⟩) (by simp)).trans (by simp)
      have cu2 : w7.cell? ⟨w6.heap.size + 1, 2, none⟩ = some (.int .i64 0) := b_old hb7 (by simp)
      have cf2 : w7.frozen? ⟨w6.heap.size + 1, 2, none⟩ = false := (hb7.frozen (p := ⟨w6.heap.size + 1, 2, none⟩) (by simp)).trans (by simp)
      have hb17 := b_then hb6 h67
      clear hb7 hx67 h67 c0s c1s c2s p0s p1s p2s p3s p4s p5s r0s r1s r2s hbs c0 c1 c2 p0 p1 p2 p3 p4 p5 r0 r1 r2 hbx hn0 hn0' hn2 hn2' hn3 hn3' c0' c1' c2' p0' p1' p2' p3' p4' p5' r0' r1' r2'
      go_upto_region 15 with (fail)
      go_name_world W8 h8w
      obtain ⟨t0, t1, t2, g0, g1, g2, hbn⟩ := set3 h8w cu0 cu1 cu2 cf0 cf1 cf2
      replace p07 := b_keep hbn (by omega) p07
      replace p17 := b_keep hbn (by omega) p17
      replace p27 := b_keep hbn (by omega) p27
      replace p37 := b_keep hbn (by omega) p37
      replace p47 := b_keep hbn (by omega) p47
      replace p57 := b_keep hbn (by omega) p57
      replace r07 := b_keep hbn (by omega) r07
      replace r17 := b_keep hbn (by omega) r17
      replace r27 := b_keep hbn (by omega) r27
      replace z0 := b_keep hbn (by omega) z0
      replace z1 := b_keep hbn (by omega) z1
      replace z2 := b_keep hbn (by omega) z2
      replace z3 := b_keep hbn (by omega) z3
      replace z4 := b_keep hbn (by omega) z4
      replace z5 := b_keep hbn (by omega) z5
      replace hb17 := hb17.trans (hbn.mono (by omega))
      clear cu0 cu1 cu2 cf0 cf1 cf2 h8w hbn
      rcases hin' with v1 | ⟨v1, v2⟩
      all_goals
        go_upto_region 17 with (fail)
        go_name_world W9 h9w
        obtain ⟨s0, s1, s2, q0, q1, q2, hbn⟩ := set3 h9w t0 t1 t2 g0 g1 g2
        replace p07 := b_keep hbn (by omega) p07
        replace p17 := b_keep hbn (by omega) p17
        replace p27 := b_keep hbn (by omega) p27
        replace p37 := b_keep hbn (by omega) p37
        replace p47 := b_keep hbn (by omega) p47
        replace p57 := b_keep hbn (by omega) p57
        replace r07 := b_keep hbn (by omega) r07
        replace r17 := b_keep hbn (by omega) r17
        replace r27 := b_keep hbn (by omega) r27
        replace z0 := b_keep hbn (by omega) z0
        replace z1 := b_keep hbn (by omega) z1
        replace z2 := b_keep hbn (by omega) z2
        replace z3 := b_keep hbn (by omega) z3
        replace z4 := b_keep hbn (by omega) z4
        replace z5 := b_keep hbn (by omega) z5
        replace hb17 := hb17.trans (hbn.mono (by omega))
        clear t0 t1 t2 g0 g1 g2 h9w hbn
        go_wp2_with fail
        go_ret
        exact ⟨rfl, hb17⟩
    · rw [hs2]
      have HQ := Lib.hid hq
      obtain ⟨g1, g2⟩ := hin
      clear HY hs2 hq
      go_wp2_with fail
      refine (HQ.out _).mono ?_
      rintro e w7 ⟨rfl, hb7⟩
      have hx67 := below_alloc2 w6 (.cells #[.int .i64 a, .int .i64 (day - 1), .int .i64 c, .int .i64 day, .int .i64 b, .int .i64 c] 25) (.cells #[.int .i64 0, .int .i64 0, .int .i64 0] 23)
      have h67 := b_then hx67 hb7
      have p07 := b_old h67 p0
      have p17 := b_old h67 p1
      have p27 := b_old h67 p2
      have p37 := b_old h67 p3
      have p47 := b_old h67 p4
      have p57 := b_old h67 p5
      have r07 := b_old h67 r0
      have r17 := b_old h67 r1
      have r27 := b_old h67 r2
      have z0 : w7.cell? ⟨w6.heap.size, 0, none⟩ = some (.int .i64 a) := b_old hb7 (by simp)
      have z1 : w7.cell? ⟨w6.heap.size, 1, none⟩ = some (.int .i64 (day - 1)) := b_old hb7 (by simp)
      have z2 : w7.cell? ⟨w6.heap.size, 2, none⟩ = some (.int .i64 c) := b_old hb7 (by simp)
      have z3 : w7.cell? ⟨w6.heap.size, 3, none⟩ = some (.int .i64 day) := b_old hb7 (by simp)
      have z4 : w7.cell? ⟨w6.heap.size, 4, none⟩ = some (.int .i64 b) := b_old hb7 (by simp)
      have z5 : w7.cell? ⟨w6.heap.size, 5, none⟩ = some (.int .i64 c) := b_old hb7 (by simp)
      have cu0 : w7.cell? ⟨w6.heap.size + 1, 0, none⟩ = some (.int .i64 0) := b_old hb7 (by simp)
      have cf0 : w7.frozen? ⟨w6.heap.size + 1, 0, none⟩ = false := (hb7.frozen (p := ⟨w6.heap.size + 1, 0, none⟩) (by simp)).trans (by simp)
      have cu1 : w7.cell? ⟨w6.heap.size + 1, 1, none⟩ = some (.int .i64 0) := b_old hb7 (by simp)
      have cf1 : w7.frozen? ⟨w6.heap.size + 1, 1, none⟩ = false := (hb7.frozen (p := ⟨w6.heap.size + 1, 1, none⟩) (by simp)).trans (by simp)
      have cu2 : w7.cell? ⟨w6.heap.size + 1, 2, none⟩ = some (.int .i64 0) := b_old hb7 (by simp)
      have cf2 : w7.frozen? ⟨w6.heap.size + 1, 2, none⟩ = false := (hb7.frozen (p := ⟨w6.heap.size + 1, 2, none⟩) (by simp)).trans (by simp)
      have hb17 := b_then hb6 h67
      clear hb7 hx67 h67 c0s c1s c2s p0s p1s p2s p3s p4s p5s r0s r1s r2s hbs c0 c1 c2 p0 p1 p2 p3 p4 p5 r0 r1 r2 hbx hn0 hn0' hn2 hn2' hn3 hn3' c0' c1' c2' p0' p1' p2' p3' p4' p5' r0' r1' r2'
      go_upto_region 15 with (fail)
      go_name_world W8 h8w
      obtain ⟨t0, t1, t2, g0, g1, g2, hbn⟩ := set3 h8w cu0 cu1 cu2 cf0 cf1 cf2
      replace p07 := b_keep hbn (by omega) p07
      replace p17 := b_keep hbn (by omega) p17
      replace p27 := b_keep hbn (by omega) p27
      replace p37 := b_keep hbn (by omega) p37
      replace p47 := b_keep hbn (by omega) p47
      replace p57 := b_keep hbn (by omega) p57
      replace r07 := b_keep hbn (by omega) r07
      replace r17 := b_keep hbn (by omega) r17
      replace r27 := b_keep hbn (by omega) r27
      replace z0 := b_keep hbn (by omega) z0
      replace z1 := b_keep hbn (by omega) z1
      replace z2 := b_keep hbn (by omega) z2
      replace z3 := b_keep hbn (by omega) z3
      replace z4 := b_keep hbn (by omega) z4
      replace z5 := b_keep hbn (by omega) z5
      replace hb17 := hb17.trans (hbn.mono (by omega))
      clear cu0 cu1 cu2 cf0 cf1 cf2 h8w hbn
      go_wp2_with fail
      go_ret
      exact ⟨rfl, hb17⟩
end Go.Proofs.YtijnabgehlkghaaDoor
