/- Contracts for CalendarTiles: the last season has no next one; the season before the next one; the reference's checks. -/
import Derived.Test.YtoaimgfekbnijaaDoorEqui
import Derived.Test.YtoaimgfekbnijaaDoorYears0
namespace Go.Proofs.YtoaimgfekbnijaaDoor
open Go.RowKit
theorem ne_7 : fst [0, 7] = 7 := rfl
set_option maxRecDepth 100000 in
set_option maxHeartbeats 1000000 in
theorem Next_end (w : World) (hs : HeldSea w) :
    Calls Tryd.prog 35 #[.agg #[.int .i64 2272, .string bW]] w fun r w' => r = .returned (.tuple #[.agg #[.int .i64 0, .string ⟨#[]⟩], .int .i64 7]) ∧ Below w.heap.size w w' := by
  have HE : Hid (seasonErr 2272 bW = 0) := Lib.hid (sea_zero (by decide) (by decide) kind_bW)
  obtain ⟨W, HW, hb0, hc0, hc1, R0, hsz⟩ := two_sea w 2272 bW
  have hsW := hs.below hb0
  go_enter Tryd.func35, Tryd.ntmps35
  go_wp2_with fail
  rw [HW.out]
  have k0 : ∀ x : KeptW W, x.v.cell? ⟨w.heap.size, 0, none⟩ = some (.int .i64 2272) := fun x => x.cell hc0
  have k1 : ∀ x : KeptW W, x.v.cell? ⟨w.heap.size, 1, none⟩ = some (.string bW) := fun x => x.cell hc1
  have l0 : ∀ x : KeptW W, x.v.cell? ⟨1, 0, none⟩ = some (.int .i64 2272) := fun x => x.cell hsW.b0
  have l1 : ∀ x : KeptW W, x.v.cell? ⟨1, 1, none⟩ = some (.string ⟨#[87]⟩) := fun x => x.cell hsW.b1
  have hne : Nonempty (KeptW W) := ⟨⟨W, Below.refl _ _⟩⟩
  have hsw := ww_eq
  refine tail_kept 6 (by kernel_rfl) (by kernel_rfl) ?_
  simp only [List.take_succ_cons, List.take_zero, List.drop_succ_cons, List.drop_zero]
  go_big_quiet_step (fail)
  go_big_quiet_step (exact KeptW.calls (CheckSeason_any _ _ _))
  iterate 3 (go_big_quiet_step (fail))
  go_big_quiet_step (exact KeptW.calls_same (unless_f _ _))
  refine wpQuiet_nil ?_
  rintro _ ⟨x, rfl⟩
  have R1 := R0.more (by omega) x.below
  clear k0 k1 l0 l1
  go_wp2_with fail
  refine (fe_new [_, _] _ _ _ _ _ rfl rfl (by simp)).mono ?_
  rintro e w2 ⟨rfl, hw⟩
  have hb2 : Below x.v.heap.size x.v w2 := by rw [hw]; exact below_alloc _ _
  have R2 := R1.more (R1.pos (by decide)) hb2
  rw [HE.out, ne_7]
  clear hw hb2 R1
  obtain ⟨v0, q0⟩ := R2.cell 0 (by decide)
  obtain ⟨v1, q1⟩ := R2.cell 1 (by decide)
  have qf0 := R2.frozen 0 (by decide)
  have qf1 := R2.frozen 1 (by decide)
  go_wp2_with fail
  exact bodyPost_ret (v := .tuple #[.agg #[.int .i64 0, .string ⟨#[]⟩], .int .i64 7]) (by simp [results, Tryd.results35, go_sem, q0, q1]) rfl ⟨rfl, hb0.trans (((R2.set 0 _).set 1 _).below.mono (by omega))⟩
theorem foll_kind {s : ByteArray} (hk : s = bS ∨ s = bW) : follK s = bS ∨ follK s = bW := by
  rcases hk with rfl | rfl
  · exact .inr follK_S
  · exact .inl follK_W
theorem Prev_foll (y : Int) (s : ByteArray) (w : World) (hs : HeldSea w) (h1 : 2000 ≤ y) (h2 : y ≤ 2272) (hk : s = bS ∨ s = bW) (hn : y = 2272 → s = bS) :
    Calls Tryd.prog 36 #[.agg #[.int .i64 (follY y s), .string (follK s)]] w fun r w' => r = .returned (.tuple #[.agg #[.int .i64 y, .string s], .int .i64 0]) ∧ Below w.heap.size w w' := by
  rcases hk with rfl | rfl
  · rw [follY_S, follK_S]
    exact Prev_W y w hs h1 h2
  · rw [follY_W, follK_W]
    have hy : y ≠ 2272 := fun e => by have := hn e; have h := isS_bS; rw [← this, isS_bW] at h; cases h
    have := Prev_S (y + 1) w hs (by omega) (by omega)
    rw [show y + 1 - 1 = y from by omega] at this
    exact this
set_option maxRecDepth 100000 in
theorem qCheckSeason_any (y : Int) (s : ByteArray) (w : World) :
    Calls Tryd.prog 32 #[.agg #[.int .i64 y, .string s]] w fun r w' => r = .returned (.int .i64 (seasonErr y s)) ∧ Below w.heap.size w w' := by
  obtain ⟨W, HW, hb0, hc0, hc1⟩ : ∃ W, Hid (w.alloc (.cells #[.int .i64 y, .string s] 63) = W) ∧ Below w.heap.size w W ∧ W.cell? ⟨w.heap.size, 0, none⟩ = some (.int .i64 y) ∧ W.cell? ⟨w.heap.size, 1, none⟩ = some (.string s) := ⟨_, Lib.hid rfl, below_alloc w _, by simp, by simp⟩
  by_cases hy : 2000 ≤ y ∧ y ≤ 2272
  · have HR : Hid (rng y 2000 2272 = 0) := Lib.hid (rng_ok hy.1 hy.2)
    cases h1 : (s.toList == [83])
    · cases h2 : (s.toList == [87])
      · have HK : Hid (seasonErr y s = 13) := Lib.hid (by simp [seasonErr, fst, HR.out, kindErr, isS, isW, h1, h2])

        go_enter Tryd.func32, Tryd.ntmps32
        go_wp2_with fail
        rw [HW.out]
        refine (qRange_any _ _ _ _).mono ?_
        rintro e w2 ⟨rfl, hw⟩
        rw [hw, HR.out]
        clear hw
        go_wp2_with fail
        go_ret
        exact ⟨by rw [HK.out]; rfl, hb0⟩
      · have HK : Hid (seasonErr y s = 0) := Lib.hid (by simp [seasonErr, fst, HR.out, kindErr, isS, isW, h1, h2])
        go_enter Tryd.func32, Tryd.ntmps32
        go_wp2_with fail
        rw [HW.out]
        refine (qRange_any _ _ _ _).mono ?_
        rintro e w2 ⟨rfl, hw⟩
        rw [hw, HR.out]
        clear hw
        go_wp2_with fail
        go_ret
        exact ⟨by rw [HK.out]; rfl, hb0⟩
    · have HK : Hid (seasonErr y s = 0) := Lib.hid (by simp [seasonErr, fst, HR.out, kindErr, isS, h1])
      go_enter Tryd.func32, Tryd.ntmps32
      go_wp2_with fail
      rw [HW.out]
      refine (qRange_any _ _ _ _).mono ?_
      rintro e w2 ⟨rfl, hw⟩
      rw [hw, HR.out]
      clear hw
      go_wp2_with fail
      go_ret
      exact ⟨by rw [HK.out]; rfl, hb0⟩
  · have HR : Hid (rng y 2000 2272 = 3) := Lib.hid (rng_bad hy)
    have HK : Hid (seasonErr y s = 3) := Lib.hid (by simp [seasonErr, fst, HR.out])
    go_enter Tryd.func32, Tryd.ntmps32
    go_wp2_with fail
    rw [HW.out]
    refine (qRange_any _ _ _ _).mono ?_
    rintro e w2 ⟨rfl, hw⟩
    rw [hw, HR.out]
    clear hw
    go_wp2_with fail
    go_ret
    exact ⟨by rw [HK.out]; rfl, hb0⟩
set_option maxRecDepth 100000 in
theorem qCheckPeriod_ok (a b m : Int) (w : World) (h1 : 0 ≤ a) (h2 : a ≤ b) (h3 : b ≤ 99999) (h4 : b - a ≤ 400) (hm1 : 1 ≤ m) (hm2 : m ≤ 127) :
    Calls Tryd.prog 16 #[.agg #[.int .i64 a, .int .i64 b, .int .i64 m]] w fun r w' => r = .returned (.int .i64 0) ∧ Below w.heap.size w w' := by
  obtain ⟨W, HW, hb0, hc0, hc1, hc2⟩ : ∃ W, Hid (w.alloc (.cells #[.int .i64 a, .int .i64 b, .int .i64 m] 23) = W) ∧ Below w.heap.size w W ∧ W.cell? ⟨w.heap.size, 0, none⟩ = some (.int .i64 a) ∧ W.cell? ⟨w.heap.size, 1, none⟩ = some (.int .i64 b) ∧ W.cell? ⟨w.heap.size, 2, none⟩ = some (.int .i64 m) := ⟨_, Lib.hid rfl, below_alloc w _, by simp, by simp, by simp⟩
  have RA : Hid (rng a 0 99999 = 0) := Lib.hid (rng_ok h1 (by omega))
  have RB : Hid (rng b 0 99999 = 0) := Lib.hid (rng_ok (by omega) h3)
  have RM : Hid (rng m 1 127 = 0) := Lib.hid (rng_ok hm1 hm2)
  go_enter Tryd.func16, Tryd.ntmps16
  go_wp2_with fail
  rw [HW.out]
  refine (qCheckDay_any _ _).mono ?_
  rintro e w2 ⟨rfl, hw⟩
  rw [hw, RA.out]
  clear hw
  go_wp2_with fail
  refine (qCheckDay_any _ _).mono ?_
  rintro e w2 ⟨rfl, hw⟩
  rw [hw, RB.out]
  clear hw
  go_wp2_with fail
  refine (qRange_any _ _ _ _).mono ?_
  rintro e w2 ⟨rfl, hw⟩
  rw [hw, RM.out]
  clear hw
  go_wp2_with fail
  go_ret
  exact ⟨rfl, hb0⟩
end Go.Proofs.YtoaimgfekbnijaaDoor
