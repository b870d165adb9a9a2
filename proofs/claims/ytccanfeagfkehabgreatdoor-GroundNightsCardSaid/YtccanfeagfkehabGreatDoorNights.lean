
/- The walk of GroundNights. -/
import Derived.Test.YtccanfeagfkehabGreatDoorNight5
import Derived.Test.YtccanfeagfkehabGreatDoorAwG6
namespace Go.Proofs.YtccanfeagfkehabGreatDoor
open Go Go.RowKit Ev
def IsTrue (r : Ending) (w w' : World) : Prop := r = .returned (.bool true) ∧ Below w.heap.size w w'
theorem reads_below {l : Lst} {w w' : World} (h : Reads l w) (hb : Below w.heap.size w w') : Reads l w' := fun x hx => by
  obtain ⟨t, fr, e⟩ := h x hx
  exact ⟨t, fr, by rw [hb.block _ (Array.getElem?_eq_some_iff.1 e).1]; exact e⟩
theorem six_cells (w : World) (a0 a1 a2 a3 a4 a5 : Value) (T : TypeId) : ∃ W, Hid (w.alloc (.cells #[a0, a1, a2, a3, a4, a5] T) = W) ∧ Below w.heap.size w W ∧
      (W.cell? ⟨w.heap.size, 0, none⟩ = some a0 ∧ W.cell? ⟨w.heap.size, 1, none⟩ = some a1 ∧ W.cell? ⟨w.heap.size, 2, none⟩ = some a2 ∧ W.cell? ⟨w.heap.size, 3, none⟩ = some a3 ∧ W.cell? ⟨w.heap.size, 4, none⟩ = some a4 ∧ W.cell? ⟨w.heap.size, 5, none⟩ = some a5) :=
    ⟨_, Lib.hid rfl, below_alloc w _, by simp, by simp, by simp, by simp, by simp, by simp⟩
set_option maxRecDepth 100000 in
set_option maxHeartbeats 1000000 in
theorem Nights_true (f t y : Int) (s : ByteArray) (c p m : Int) (w : World) (hr : Reads lst4 w) :
    Calls Tryz.prog 3 #[.agg #[.int .i64 f, .int .i64 t, .int .i64 y, .string s, .int .i64 c, .int .i64 p], .int .i64 m] w fun r w' => IsTrue r w w' := by
  have HR := Lib.hid hr
  clear hr
  obtain ⟨W, HW, hb0, hc0, hc1, hc2, hc3, hc4, hc5⟩ := six_cells w (.int .i64 f) (.int .i64 t) (.int .i64 y) (.string s) (.int .i64 c) (.int .i64 p) 27
  have start : ∀ {K : Act → World → Prop}, True := trivial
  clear start
  by_cases hs : 60 < s.size
  · have hs' : (60 : Int) < (s.size : Int) := by omega
    clear hs
    go_enter Tryz.func3, Tryz.ntmps3
    go_wp2_with fail
    rw [HW.out]
    refine (awake4_true _ (reads_below HR.out hb0)).mono ?_
    rintro e w1 ⟨rfl, hb1⟩
    have d3 := b_old hb1 hc3
    have hb1' := b_then hb0 hb1
    go_wp2_with fail
    refine (awake4_true _ (reads_below HR.out hb1')).mono ?_
    rintro e w2 ⟨rfl, hb2⟩
    have hb2' := b_then hb1' hb2
    go_wp2_with fail
    go_ret
    exact ⟨rfl, hb2'⟩
  · have hs' : ¬ (60 : Int) < (s.size : Int) := by omega
    clear hs
    have hcase : (momErr f t m = 0 ∧ nIs f t m = true ∧ nOut f t m = .tuple #[.int .i64 (nDay f t m), .int .i64 0]) ∨ (momErr f t m = 0 ∧ nIs f t m = false ∧ nOut f t m = .tuple #[.int .i64 0, .int .i64 7]) ∨ (momErr f t m ≠ 0 ∧ nOut f t m = .tuple #[.int .i64 0, .int .i64 (momErr f t m)]) := by
      by_cases h1 : momErr f t m = 0
      · cases h2 : nIs f t m
        · exact .inr (.inl ⟨h1, rfl, by simp [nOut, h1, h2]⟩)
        · exact .inl ⟨h1, rfl, by simp [nOut, h1, h2]⟩
      · exact .inr (.inr ⟨h1, by simp [nOut, h1]⟩)
    go_enter Tryz.func3, Tryz.ntmps3
    go_wp2_with fail
    rw [HW.out]
    refine (awake4_true _ (reads_below HR.out hb0)).mono ?_
    rintro e w1 ⟨rfl, hb1⟩
    have d0 := b_old hb1 hc0
    have d1 := b_old hb1 hc1
    have d2 := b_old hb1 hc2
    have d3 := b_old hb1 hc3
    have d4 := b_old hb1 hc4
    have d5 := b_old hb1 hc5
    have hb1' := b_then hb0 hb1
    clear hb1 hc0 hc1 hc2 hc3 hc4 hc5 hb0
    go_wp2_with fail
    have k0 : ∀ x : KeptW w1, x.v.cell? ⟨w.heap.size, 0, none⟩ = some (.int .i64 f) := fun x => x.cell d0
    have k1 : ∀ x : KeptW w1, x.v.cell? ⟨w.heap.size, 1, none⟩ = some (.int .i64 t) := fun x => x.cell d1
    have k2 : ∀ x : KeptW w1, x.v.cell? ⟨w.heap.size, 2, none⟩ = some (.int .i64 y) := fun x => x.cell d2
    have k3 : ∀ x : KeptW w1, x.v.cell? ⟨w.heap.size, 3, none⟩ = some (.string s) := fun x => x.cell d3
    have k4 : ∀ x : KeptW w1, x.v.cell? ⟨w.heap.size, 4, none⟩ = some (.int .i64 c) := fun x => x.cell d4
    have k5 : ∀ x : KeptW w1, x.v.cell? ⟨w.heap.size, 5, none⟩ = some (.int .i64 p) := fun x => x.cell d5
    have hne : Nonempty (KeptW w1) := ⟨⟨w1, Below.refl _ _⟩⟩
    refine region_kept (by kernel_rfl) (by kernel_rfl) ?_
    go_big_quiet_step (fail)
    go_big_quiet_step (exact KeptW.calls (CheckQuota_any _ _ _ _ _ _ _))
    go_big_quiet_step (fail)
    go_big_quiet_step (exact KeptW.calls (gquota_any _ _ _ _ _ _ _))
    go_big_quiet_step (exact KeptW.calls (gCheckQuota_any _ _ _ _ _ _ _))
    go_big_quiet_step (fail)
    refine wpQuiet_nil ?_
    rintro _ ⟨x, rfl⟩
    have hbx := b_then hb1' x.below
    have e0 := k0 x
    have e1 := k1 x
    clear k0 k1 k2 k3 k4 k5 d0 d1 d2 d3 d4 d5 hb1'
    go_wp2_with fail
    refine (NightOf_any _ _ _ _).mono ?_
    rintro e w2 ⟨rfl, hb2⟩
    have g0 := b_old hb2 e0
    have g1 := b_old hb2 e1
    have hb2' := b_then hbx hb2
    clear hb2 e0 e1 hbx
    rcases hcase with ⟨z1, z2, z3⟩ | ⟨z1, z2, z3⟩ | ⟨z1, z3⟩
    · have hbd := momErr_bd z1
      rw [z3]
      have Z1 := Lib.hid z1
      have Z2 := Lib.hid z2
      clear z1 z2 z3
      go_wp2_with fail
      refine (gCheckNight_any _ _ _).mono ?_
      rintro e w3 ⟨rfl, hb3⟩
      have i0 := b_old hb3 g0
      have i1 := b_old hb3 g1
      have hb3' := b_then hb2' hb3
      clear hb3 g0 g1 hb2'
      go_wp2_with fail
      refine (gMoment_any _ _).mono ?_
      rintro e w4 ⟨rfl, rfl⟩
      go_wp2_with fail
      refine (gfirst_new [_, _] _ _ _ _ _ rfl rfl (by simp)).mono ?_
      rintro e w5 ⟨rfl, hw⟩
      have hb5 : Below w4.heap.size w4 w5 := by rw [hw]; exact below_alloc _ _
      have j0 := b_old hb5 i0
      have j1 := b_old hb5 i1
      have hb5' := b_then hb3' hb5
      clear hw hb5 i0 i1 hb3'
      rw [show fst [nightErr f t, rng m 0 143999999] = momErr f t m from rfl, Z1.out]
      go_wp2_with fail
      refine (qNightOf_any _ _ _ _ hbd).mono ?_
      rintro e w6 ⟨rfl, hb6⟩
      have hb6' := b_then hb5' hb6
      rw [Z2.out]
      clear hb6 hb5' hbd
      generalize nDay f t m = day
      go_wp2_with fail
      refine (gwhen_any _ _ _).mono ?_
      rintro e w7 ⟨rfl, rfl⟩
      go_wp2_with fail
      go_ret
      exact ⟨by simp, hb6'⟩
    · have hbd := momErr_bd z1
      rw [z3]
      have Z1 := Lib.hid z1
      have Z2 := Lib.hid z2
      clear z1 z2 z3
      go_wp2_with fail
      refine (gCheckNight_any _ _ _).mono ?_
      rintro e w3 ⟨rfl, hb3⟩
      have i0 := b_old hb3 g0
      have i1 := b_old hb3 g1
      have hb3' := b_then hb2' hb3
      clear hb3 g0 g1 hb2'
      go_wp2_with fail
      refine (gMoment_any _ _).mono ?_
      rintro e w4 ⟨rfl, rfl⟩
      go_wp2_with fail
      refine (gfirst_new [_, _] _ _ _ _ _ rfl rfl (by simp)).mono ?_
      rintro e w5 ⟨rfl, hw⟩
      have hb5 : Below w4.heap.size w4 w5 := by rw [hw]; exact below_alloc _ _
      have j0 := b_old hb5 i0
      have j1 := b_old hb5 i1
      have hb5' := b_then hb3' hb5
      clear hw hb5 i0 i1 hb3'
      rw [show fst [nightErr f t, rng m 0 143999999] = momErr f t m from rfl, Z1.out]
      go_wp2_with fail
      refine (qNightOf_any _ _ _ _ hbd).mono ?_
      rintro e w6 ⟨rfl, hb6⟩
      have hb6' := b_then hb5' hb6
      rw [Z2.out]
      clear hb6 hb5' hbd
      generalize nDay f t m = day
      go_wp2_with fail
      refine (gwhen_any _ _ _).mono ?_
      rintro e w7 ⟨rfl, rfl⟩
      go_wp2_with fail
      go_ret
      exact ⟨by simp, hb6'⟩
    · rw [z3]
      have Z1 : Hid ((momErr f t m == 0) = false ∧ (momErr f t m != 0) = true) := Lib.hid ⟨by simpa using z1, by simpa using z1⟩
      clear z1 z3
      go_wp2_with fail
      refine (gCheckNight_any _ _ _).mono ?_
      rintro e w3 ⟨rfl, hb3⟩
      have hb3' := b_then hb2' hb3
      clear hb3 g0 g1 hb2'
      go_wp2_with fail
      refine (gMoment_any _ _).mono ?_
      rintro e w4 ⟨rfl, rfl⟩
      go_wp2_with fail
      refine (gfirst_new [_, _] _ _ _ _ _ rfl rfl (by simp)).mono ?_
      rintro e w5 ⟨rfl, hw⟩
      have hb5 : Below w4.heap.size w4 w5 := by rw [hw]; exact below_alloc _ _
      have hb5' := b_then hb3' hb5
      clear hw hb5 hb3'
      rw [show fst [nightErr f t, rng m 0 143999999] = momErr f t m from rfl]
      obtain ⟨b1, b2⟩ := Z1.out
      clear Z1
      generalize momErr f t m = bad at *
      go_wp2_with fail
      go_ret
      exact ⟨by simp, hb5'⟩
end Go.Proofs.YtccanfeagfkehabGreatDoor
