
/- Contracts: NightOf; of the reference: CheckNight, CheckQuota, CheckMoment; of the statement: first, when, quota. -/
import Derived.Test.YtccanfeagfkehabGreatDoorNight3
import Derived.Test.YtccanfeagfkehabGreatDoorQFirst
import Derived.Test.YtccanfeagfkehabGreatDoorQSea
namespace Go.Proofs.YtccanfeagfkehabGreatDoor
open Go Go.RowKit
def momErr (f t m : Int) : Int := fst [nightErr f t, rng m 0 143999999]
theorem fst_zero2 {a b : Int} (h : fst [a, b] = 0) : a = 0 ∧ b = 0 := by
  simp only [fst] at h
  by_cases h1 : a = 0
  · rw [if_pos h1] at h
    by_cases h2 : b = 0
    · exact ⟨h1, h2⟩
    · rw [if_neg h2] at h; exact absurd h h2
  · rw [if_neg h1] at h; exact absurd h h1
theorem fst_zero3 {a b c : Int} (h : fst [a, b, c] = 0) : a = 0 ∧ b = 0 ∧ c = 0 := by
  by_cases h1 : a = 0
  · have : fst [b, c] = 0 := by rw [show fst [a, b, c] = if a = 0 then fst [b, c] else a from rfl, if_pos h1] at h; exact h
    exact ⟨h1, fst_zero2 this⟩
  · rw [show fst [a, b, c] = if a = 0 then fst [b, c] else a from rfl, if_neg h1] at h; exact absurd h h1
theorem momErr_bd {f t m : Int} (h : momErr f t m = 0) : nBd f t m := by
  obtain ⟨h1, h2⟩ := fst_zero2 h
  obtain ⟨h3, h4, _⟩ := fst_zero3 h1
  have a1 := rng_zero h3
  have a2 := rng_zero h4
  have a3 := rng_zero h2
  exact ⟨a1.1, a1.2, a2.1, a2.2, a3.1, a3.2⟩
def nOut (f t m : Int) : Value := if momErr f t m = 0 then (if nIs f t m = true then .tuple #[.int .i64 (nDay f t m), .int .i64 0] else .tuple #[.int .i64 0, .int .i64 7]) else .tuple #[.int .i64 0, .int .i64 (momErr f t m)]
set_option maxRecDepth 100000 in
theorem NightOf_any (f t m : Int) (w : World) :
    Calls Tryz.prog 8 #[.agg #[.int .i64 f, .int .i64 t], .int .i64 m] w fun r w' => r = .returned (nOut f t m) ∧ Below w.heap.size w w' := by
  obtain ⟨W, HW, hb0, hc0, hc1⟩ : ∃ W, Hid (w.alloc (.cells #[.int .i64 f, .int .i64 t] 23) = W) ∧ Below w.heap.size w W ∧ W.cell? ⟨w.heap.size, 0, none⟩ = some (.int .i64 f) ∧ W.cell? ⟨w.heap.size, 1, none⟩ = some (.int .i64 t) := ⟨_, Lib.hid rfl, below_alloc w _, by simp, by simp⟩
  by_cases hz : momErr f t m = 0
  · have hbd := momErr_bd hz
    have HZ := Lib.hid hz
    cases hi : nIs f t m
    · have HO : Hid (nOut f t m = .tuple #[.int .i64 0, .int .i64 7]) := Lib.hid (by simp [nOut, hz, hi])
      clear hz
      go_enter Tryz.func8, Tryz.ntmps8
      go_wp2_with fail
      rw [HW.out]
      refine (checkNight_any _ _ _).mono ?_
      rintro e w1 ⟨rfl, hb1⟩
      have c0 := b_old hb1 hc0
      have c1 := b_old hb1 hc1
      have hb1' := b_then hb0 hb1
      clear hb1 hc0 hc1
      go_wp2_with fail
      refine (checkMoment_any _ _).mono ?_
      rintro e w2 ⟨rfl, rfl⟩
      go_wp2_with fail
      refine (fe_new [_, _] _ _ _ _ _ rfl rfl (by simp)).mono ?_
      rintro e w3 ⟨rfl, hw⟩
      have hb3 : Below w2.heap.size w2 w3 := by rw [hw]; exact below_alloc _ _
      have d0 := b_old hb3 c0
      have d1 := b_old hb3 c1
      have hb3' := b_then hb1' hb3
      clear hw hb3 c0 c1 hb1'
      rw [show fst [nightErr f t, rng m 0 143999999] = momErr f t m from rfl, HZ.out]
      go_wp2_with fail
      refine (nightOf_any _ _ _ _ hbd).mono ?_
      rintro e w4 ⟨rfl, hb4⟩
      have hb4' := b_then hb3' hb4
      rw [hi]
      go_wp2_with fail
      go_ret2
      exact ⟨by rw [HO.out]; rfl, hb4'⟩
    · have HO : Hid (nOut f t m = .tuple #[.int .i64 (nDay f t m), .int .i64 0]) := Lib.hid (by simp [nOut, hz, hi])
      clear hz
      go_enter Tryz.func8, Tryz.ntmps8
      go_wp2_with fail
      rw [HW.out]
      refine (checkNight_any _ _ _).mono ?_
      rintro e w1 ⟨rfl, hb1⟩
      have c0 := b_old hb1 hc0
      have c1 := b_old hb1 hc1
      have hb1' := b_then hb0 hb1
      clear hb1 hc0 hc1
      go_wp2_with fail
      refine (checkMoment_any _ _).mono ?_
      rintro e w2 ⟨rfl, rfl⟩
      go_wp2_with fail
      refine (fe_new [_, _] _ _ _ _ _ rfl rfl (by simp)).mono ?_
      rintro e w3 ⟨rfl, hw⟩
      have hb3 : Below w2.heap.size w2 w3 := by rw [hw]; exact below_alloc _ _
      have d0 := b_old hb3 c0
      have d1 := b_old hb3 c1
      have hb3' := b_then hb1' hb3
      clear hw hb3 c0 c1 hb1'
      rw [show fst [nightErr f t, rng m 0 143999999] = momErr f t m from rfl, HZ.out]
      go_wp2_with fail
      refine (nightOf_any _ _ _ _ hbd).mono ?_
      rintro e w4 ⟨rfl, hb4⟩
      have hb4' := b_then hb3' hb4
      rw [hi]
      go_wp2_with fail
      go_ret2
      exact ⟨by rw [HO.out]; rfl, hb4'⟩
  · have HO : Hid (nOut f t m = .tuple #[.int .i64 0, .int .i64 (momErr f t m)]) := Lib.hid (by simp [nOut, hz])
    have HN : Hid ((momErr f t m != 0) = true) := Lib.hid (by simpa using hz)
    clear hz
    go_enter Tryz.func8, Tryz.ntmps8
    go_wp2_with fail
    rw [HW.out]
    refine (checkNight_any _ _ _).mono ?_
    rintro e w1 ⟨rfl, hb1⟩
    have c0 := b_old hb1 hc0
    have c1 := b_old hb1 hc1
    have hb1' := b_then hb0 hb1
    clear hb1 hc0 hc1
    go_wp2_with fail
    refine (checkMoment_any _ _).mono ?_
    rintro e w2 ⟨rfl, rfl⟩
    go_wp2_with fail
    refine (fe_new [_, _] _ _ _ _ _ rfl rfl (by simp)).mono ?_
    rintro e w3 ⟨rfl, hw⟩
    have hb3 : Below w2.heap.size w2 w3 := by rw [hw]; exact below_alloc _ _
    have hb3' := b_then hb1' hb3
    clear hw hb3 c0 c1 hb1'
    rw [show fst [nightErr f t, rng m 0 143999999] = momErr f t m from rfl]
    have hn := HN.out
    generalize momErr f t m = bad at *
    go_wp2_with fail
    go_ret2
    exact ⟨by rw [HO.out]; rfl, hb3'⟩
end Go.Proofs.YtccanfeagfkehabGreatDoor
