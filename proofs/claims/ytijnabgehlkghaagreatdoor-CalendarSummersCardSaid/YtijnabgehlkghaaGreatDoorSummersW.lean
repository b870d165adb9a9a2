/- The walk of CalendarSummers. -/
import Derived.Test.YtijnabgehlkghaaGreatDoorAwake
import Derived.Test.YtijnabgehlkghaaGreatDoorZoneD
import Derived.Test.YtijnabgehlkghaaGreatDoorSameR
namespace Go.Proofs.YtijnabgehlkghaaGreatDoor
open Go Go.RowKit
theorem qCheckDraw_any (key n : Int) (w : World) :
    Calls Tryz.prog 67 #[.int .i64 key, .int .i64 n] w fun r w' => r = .returned (.int .i64 (fst [rng key 1 2147483646, rng n 0 256])) ∧ w' = w := by
  by_cases h1 : 1 ≤ key ∧ key ≤ 2147483646
  · have R1 : Hid (rng key 1 2147483646 = 0) := Lib.hid (rng_ok h1.1 h1.2)
    by_cases h2 : 0 ≤ n ∧ n ≤ 256
    · have R2 : Hid (rng n 0 256 = 0) := Lib.hid (rng_ok h2.1 h2.2)
      go_enter Tryz.func67, Tryz.ntmps67
      go_wp2_with (go_at_call 27; refine (qRange_any _ _ _ _).mono ?_; rintro e w' ⟨rfl, rfl⟩; first | rw [R1.out] | rw [R2.out])
      go_ret
      exact ⟨by rw [R1.out, R2.out]; rfl, rfl⟩
    · have R2 : Hid (rng n 0 256 = 3) := Lib.hid (rng_bad h2)
      go_enter Tryz.func67, Tryz.ntmps67
      go_wp2_with (go_at_call 27; refine (qRange_any _ _ _ _).mono ?_; rintro e w' ⟨rfl, rfl⟩; first | rw [R1.out] | rw [R2.out])
      go_ret
      exact ⟨by rw [R1.out, R2.out]; rfl, rfl⟩
  · have R1 : Hid (rng key 1 2147483646 = 3) := Lib.hid (rng_bad h1)
    go_enter Tryz.func67, Tryz.ntmps67
    go_wp2_with (go_at_call 27; refine (qRange_any _ _ _ _).mono ?_; rintro e w' ⟨rfl, rfl⟩; rw [R1.out])
    go_ret
    exact ⟨by rw [R1.out]; rfl, rfl⟩
theorem ne_blk {a b i j : Nat} (h : a ≠ b) : (⟨a, i, none⟩ : Addr) ≠ ⟨b, j, none⟩ := by intro e; cases e; exact h rfl
theorem chAt_set {w : World} {g : Nat} {l : List (Int × Int)} (h : ChAt w g 0 l) {b i : Nat} (hne : b ≠ g) (v : Value) : ChAt (w.setCell ⟨b, i, none⟩ v) g 0 l :=
  ⟨fun j hj => set_other (h.m j hj) (by intro e; cases e; exact hne rfl), fun j hj => set_other (h.o j hj) (by intro e; cases e; exact hne rfl)⟩
set_option maxRecDepth 100000 in
set_option maxHeartbeats 8000000 in
theorem Summers_true (o y0 y1 key n : Int) (w : World) (hl : Ev.Reads lst w) :
    Calls Tryz.prog 8 #[.int .i64 o, .agg #[.int .i64 y0, .int .i64 y1], .agg #[.int .i64 key, .int .i64 n]] w (IsTrue w) := by
  have HL := Lib.hid hl
  clear hl
  have HD0 : (1 ≤ key ∧ key ≤ 2147483646) → (0 ≤ n ∧ n ≤ 256) → fst [rng key 1 2147483646, rng n 0 256] = 0 := fun a b => by rw [rng_ok a.1 a.2, rng_ok b.1 b.2]; rfl
  have HD3 : ¬ ((1 ≤ key ∧ key ≤ 2147483646) ∧ 0 ≤ n ∧ n ≤ 256) → fst [rng key 1 2147483646, rng n 0 256] = 3 := fun h => by
    by_cases h1 : 1 ≤ key ∧ key ≤ 2147483646
    · rw [rng_ok h1.1 h1.2, rng_bad (fun h2 => h ⟨h1, h2⟩)]; rfl
    · rw [rng_bad h1]; rfl
  have HD0' := Lib.hid HD0; clear HD0
  have HD3' := Lib.hid HD3; clear HD3
  obtain ⟨W, HW, hb0, a0, a1, b0, b1⟩ : ∃ W, Hid ((w.alloc (.cells #[.int .i64 y0, .int .i64 y1] 92)).alloc (.cells #[.int .i64 key, .int .i64 n] 92) = W) ∧ Below w.heap.size w W ∧ W.cell? ⟨w.heap.size, 0, none⟩ = some (.int .i64 y0) ∧ W.cell? ⟨w.heap.size, 1, none⟩ = some (.int .i64 y1) ∧ W.cell? ⟨w.heap.size + 1, 0, none⟩ = some (.int .i64 key) ∧ W.cell? ⟨w.heap.size + 1, 1, none⟩ = some (.int .i64 n) :=
    ⟨_, Lib.hid rfl, below_alloc2 w _ _, by simp, by simp, by simp, by simp⟩
  go_enter Tryz.func8, Tryz.ntmps8
  go_wp2_with fail
  rw [HW.out]
  refine (awake_true _ (reads_below HL.out hb0)).mono ?_
  rintro e w1 ⟨rfl, hb⟩
  replace a0 := b_old hb a0; replace a1 := b_old hb a1; replace b0 := b_old hb b0; replace b1 := b_old hb b1
  have hb1 := b_then hb0 hb
  clear hb hb0 HW
  by_cases he : sumErr o y0 y1 = 0
  · obtain ⟨⟨r1, r2⟩, ⟨r3, r4⟩, ⟨r5, r6⟩, r7, r8⟩ := sumErr_zero he
    obtain ⟨m, rfl⟩ : ∃ m : Nat, y1 = y0 + m - 1 := ⟨(y1 - y0 + 1).toNat, by omega⟩
    have HE := Lib.hid he; clear he
    have hm1 : 1 ≤ m := by omega
    have hm2 : m ≤ 32 := by omega
    have HN : Hid ((y0 + (m : Int) - 1 - y0 + 1).toNat = m) := Lib.hid (by omega)
    go_wp2_with fail
    refine (Summer_ok _ _ _ _ (reads_tab (reads_below HL.out hb1)) r1 r2 r3 r7 r6 r8).mono ?_
    rintro e w2 ⟨v, rfl, hown, hb⟩
    rw [HN.out] at hown
    obtain ⟨g1, p1, rfl⟩ : ∃ g p, v = .slice (some ⟨g, 0, none⟩) (2 * m) p := by
      have hc : 2 * m = 2 * m - 1 + 1 := by omega
      rw [hc] at hown ⊢
      exact ownsRow_succ hown
    have hch := chAt_own hown (sumCs_len _ _ _)
    replace a0 := b_old hb a0; replace a1 := b_old hb a1; replace b0 := b_old hb b0; replace b1 := b_old hb b1
    have hb2 := b_then hb1 hb
    clear hb hb1 hown
    obtain ⟨W3, HW3, hb, z0, z1⟩ : ∃ W3, Hid (w2.alloc (.cells #[.int .i64 o, .slice (some ⟨g1, 0, none⟩) (2 * m) p1] 79) = W3) ∧ Below w2.heap.size w2 W3 ∧ W3.cell? ⟨w2.heap.size, 0, none⟩ = some (.int .i64 o) ∧ W3.cell? ⟨w2.heap.size, 1, none⟩ = some (.slice (some ⟨g1, 0, none⟩) (2 * m) p1) := ⟨_, Lib.hid rfl, below_alloc _ _, by simp, by simp⟩
    have a0' := b_old hb a0; have a1' := b_old hb a1
    rw [← HW3.out] at a0' a1'
    go_wp2_with fail
    rw [HW3.out]
    replace a0 := b_old hb a0; replace a1 := b_old hb a1; replace b0 := b_old hb b0; replace b1 := b_old hb b1
    have hch3 := hch.below hb
    have hb3 := b_then hb2 hb
    clear hb hb2 hch a0' a1' HW3
    refine (qCheckSummer_any _ _ _ _).mono ?_
    rintro e w4 ⟨rfl, hw⟩
    rw [hw, HE.out]
    clear hw
    generalize w2.heap.size = B at *
    have hBC := cell_in z0; have hKC := cell_in b0; have hGC := cell_in (hch3.m 0 (by rw [sumCs_len]; omega))
    simp only at hBC hKC hGC
    obtain ⟨W5, HW5, hb, c0, c1, f0, f1⟩ : ∃ W5, Hid (W3.alloc (.cells #[.int .i64 0, .slice none 0 0] 82) = W5) ∧ Below W3.heap.size W3 W5 ∧ W5.cell? ⟨W3.heap.size, 0, none⟩ = some (.int .i64 0) ∧ W5.cell? ⟨W3.heap.size, 1, none⟩ = some (.slice none 0 0) ∧ W5.frozen? ⟨W3.heap.size, 0, none⟩ = false ∧ W5.frozen? ⟨W3.heap.size, 1, none⟩ = false := ⟨_, Lib.hid rfl, below_alloc _ _, by simp, by simp, by simp, by simp⟩
    have a0' := b_old hb a0; have a1' := b_old hb a1
    rw [← HW5.out] at a0' a1'
    go_wp2_with fail
    rw [HW5.out]
    replace a0 := b_old hb a0; replace a1 := b_old hb a1; replace b0 := b_old hb b0; replace b1 := b_old hb b1; replace z0 := b_old hb z0; replace z1 := b_old hb z1
    have hch5 := hch3.below hb
    have hb5 := b_then hb3 hb
    clear hb hb3 hch3 a0' a1' HW5
    have hC5 := cell_in c0
    simp only at hC5
    generalize W3.heap.size = C at *
    refine (qSummer_ok o y0 m _ r1 r2 r3 r6 hm2 hm1).mono ?_
    rintro e w6 ⟨v, rfl, hown, hb⟩
    obtain ⟨g2, p2, rfl⟩ : ∃ g p, v = .slice (some ⟨g, 0, none⟩) (2 * m) p := by
      have hc : 2 * m = 2 * m - 1 + 1 := by omega
      rw [hc] at hown ⊢
      exact ownsRow_succ hown
    have hch2 := chAt_own hown (sumCs_len _ _ _)
    have hG2 := own_block hown g2 rfl
    have hch6 := hch5.below hb
    replace f0 := b_frozen hb c0 f0; replace f1 := b_frozen hb c1 f1
    replace b0 := b_old hb b0; replace b1 := b_old hb b1; replace z0 := b_old hb z0; replace z1 := b_old hb z1; replace c0 := b_old hb c0; replace c1 := b_old hb c1
    have hb6 := b_then hb5 hb
    clear hb hb5 hown hch5 a0 a1
    go_upto_region 8 with (fail)
    go_name_world W7 h7
    have hb7 : Below w.heap.size w W7 := by rw [← h7]; exact (hb6.setCell (p := ⟨C, 0, none⟩) (by show w.heap.size ≤ C; omega) _).setCell (p := ⟨C, 1, none⟩) (by show w.heap.size ≤ C; omega) _
    have d0 : W7.cell? ⟨C, 0, none⟩ = some (.int .i64 o) := by rw [← h7]; exact set_other (set_same c0) (by simp)
    have d1 : W7.cell? ⟨C, 1, none⟩ = some (.slice (some ⟨g2, 0, none⟩) (2 * m) p2) := by rw [← h7]; exact set_same (set_other c1 (by simp))
    replace z0 : W7.cell? ⟨B, 0, none⟩ = some (.int .i64 o) := by rw [← h7]; exact set_other (set_other z0 (ne_blk (by omega))) (ne_blk (by omega))
    replace z1 : W7.cell? ⟨B, 1, none⟩ = some (.slice (some ⟨g1, 0, none⟩) (2 * m) p1) := by rw [← h7]; exact set_other (set_other z1 (ne_blk (by omega))) (ne_blk (by omega))
    replace b0 : W7.cell? ⟨w.heap.size + 1, 0, none⟩ = some (.int .i64 key) := by rw [← h7]; exact set_other (set_other b0 (ne_blk (by omega))) (ne_blk (by omega))
    replace b1 : W7.cell? ⟨w.heap.size + 1, 1, none⟩ = some (.int .i64 n) := by rw [← h7]; exact set_other (set_other b1 (ne_blk (by omega))) (ne_blk (by omega))
    have hch7 : ChAt W7 g1 0 (sumCs o y0 m) := by rw [← h7]; exact chAt_set (chAt_set hch6 (by omega) _) (by omega) _
    have hcg7 : ChAt W7 g2 0 (sumCs o y0 m) := by rw [← h7]; exact chAt_set (chAt_set hch2 (by omega) _) (by omega) _
    clear h7 c0 c1 f0 f1 hch6 hch2 hb6 hBC hKC hGC hC5 hG2
    have HC7 := Lib.hid (And.intro hch7 hcg7)
    clear hch7 hcg7
    go_cut [47] from 38 to 47 (fun c wx => c = .bool false ∧ Below w.heap.size w wx ∧ wx.cell? ⟨w.heap.size + 1, 0, none⟩ = some (.int .i64 key) ∧ wx.cell? ⟨w.heap.size + 1, 1, none⟩ = some (.int .i64 n))
    case first =>
      go_region_with (first
        | (go_at_call 53
           refine (zone_some o (sumCs o y0 m) (2 * m) g1 p1 _ (HC7.out.1.below (below_drew _)) (sumCs_len _ _ _) (by omega) (by omega)).mono ?_
           rintro e w8 ⟨v, rfl, hown, hb⟩
           obtain ⟨g3, p3, rfl⟩ : ∃ g p, v = .slice (some ⟨g, 0, none⟩) (2 * m) p := by
             have hc : 2 * m = 2 * m - 1 + 1 := by omega
             rw [hc] at hown ⊢
             exact ownsRow_succ hown
           have hb8 := b_then (below_drew W7) hb
           have HC8 := Lib.hid (And.intro (chAt_own hown (sumCs_len _ _ _)) (HC7.out.2.below hb8))
           have d0' := b_old hb8 d0
           have d1' := b_old hb8 d1
           clear hown hb)
        | (go_at_call 65
           refine (SameZone_same o (sumCs o y0 m) (2 * m) g3 g2 p3 p2 _ HC8.out.1 HC8.out.2 (sumCs_len _ _ _) (by omega)).mono ?_
           rintro e w9 ⟨rfl, hb⟩
           have hb9 := b_then hb8 hb
           clear hb))
      all_goals (go_wp2_with fail; go_meet; exact ⟨rfl, b_then hb7 hb9, b_old hb9 b0, b_old hb9 b1⟩)
    case rest =>
      obtain ⟨rfl, hb10, b0', b1'⟩ := hcut
      by_cases hk : (1 ≤ key ∧ key ≤ 2147483646) ∧ 0 ≤ n ∧ n ≤ 256
      · obtain ⟨j, rfl⟩ := Int.eq_ofNat_of_zero_le hk.2.1
        have hj : j ≤ 256 := by omega
        have HQ := Lib.hid (HD0'.out hk.1 hk.2)
        go_wp2_with fail
        refine (Draw_ok j key hj hk.1.1 hk.1.2 _).mono ?_
        rintro e w11 ⟨b, rfl, hr⟩
        replace b0' := b_old hr.below b0'; replace b1' := b_old hr.below b1'
        have hb11 := b_then hb10 hr.below
        go_wp2_with fail
        refine (qCheckDraw_any _ _ _).mono ?_
        rintro e w12 ⟨rfl, hw⟩
        rw [hw, HQ.out]
        clear hw
        by_cases hj0 : j = 0
        · subst hj0
          replace b1' : w11.cell? ⟨w.heap.size + 1, 1, none⟩ = some (.int .i64 0) := b1'
          go_wp2_with fail
          refine (qDraw_nil _ _).mono ?_
          rintro e w13 ⟨rfl, hw⟩
          rw [hw]
          clear hw
          go_wp2_with fail
          refine (list_none _ _ _).mono ?_
          rintro e w14 ⟨rfl, q, rfl⟩
          go_wp2_with fail
          go_ret
          exact ⟨rfl, b_drewN hb11 q⟩
        · go_wp2_with fail
          refine (qDraw_ok j key (by omega) hj hk.1.1 hk.1.2 _).mono ?_
          rintro e w13 ⟨b2, c2, rfl, hr2⟩
          have hb13 := b_then hb11 hr2.below
          go_wp2_with fail
          refine (list_rows b b2 _ c2 (hr.more hr2.below) hr2 (by omega)).mono ?_
          rintro e w14 ⟨rfl, q, rfl⟩
          go_wp2_with fail
          go_ret
          exact ⟨rfl, b_drewN hb13 q⟩
      · have HQ := Lib.hid (HD3'.out hk)
        go_wp2_with fail
        refine (Draw_bad n key hk _).mono ?_
        rintro e w11 ⟨rfl, hb⟩
        replace b0' := b_old hb b0'; replace b1' := b_old hb b1'
        have hb11 := b_then hb10 hb
        clear hb
        go_wp2_with fail
        refine (qCheckDraw_any _ _ _).mono ?_
        rintro e w12 ⟨rfl, hw⟩
        rw [hw, HQ.out]
        clear hw
        go_wp2_with fail
        refine (list_bad2 3 _ (by decide)).mono ?_
        rintro e w14 ⟨rfl, hw⟩
        rw [hw]
        clear hw
        go_wp2_with fail
        go_ret
        exact ⟨rfl, hb11⟩
  · have HE := Lib.hid he
    have hne : (sumErr o y0 y1 == 0) = false := by simpa using he
    go_wp2_with fail
    refine (Summer_bad o y0 y1 _ he).mono ?_
    rintro e w2 ⟨rfl, hb⟩
    have HQC := Lib.hid (fun V => qCheckSummer_any o y0 y1 V)
    generalize sumErr o y0 y1 = E at *
    replace a0 := b_old hb a0; replace a1 := b_old hb a1; replace b0 := b_old hb b0; replace b1 := b_old hb b1
    have hb2 := b_then hb1 hb
    clear hb hb1 he
    obtain ⟨W3, HW3, hb, z0, z1⟩ : ∃ W3, Hid (w2.alloc (.cells #[.int .i64 0, .slice none 0 0] 79) = W3) ∧ Below w2.heap.size w2 W3 ∧ W3.cell? ⟨w2.heap.size, 0, none⟩ = some (.int .i64 0) ∧ W3.cell? ⟨w2.heap.size, 1, none⟩ = some (.slice none 0 0) := ⟨_, Lib.hid rfl, below_alloc _ _, by simp, by simp⟩
    have a0' := b_old hb a0; have a1' := b_old hb a1
    rw [← HW3.out] at a0' a1'
    go_wp2_with fail
    rw [HW3.out]
    replace a0 := b_old hb a0; replace a1 := b_old hb a1; replace b0 := b_old hb b0; replace b1 := b_old hb b1
    have hb3 := b_then hb2 hb
    clear hb hb2 a0' a1' HW3
    refine (HQC.out _).mono ?_
    rintro e w4 ⟨rfl, hw⟩
    rw [hw]
    clear hw
    generalize w2.heap.size = B at *
    obtain ⟨W5, HW5, hb, c0, c1⟩ : ∃ W5, Hid (W3.alloc (.cells #[.int .i64 0, .slice none 0 0] 82) = W5) ∧ Below W3.heap.size W3 W5 ∧ W5.cell? ⟨W3.heap.size, 0, none⟩ = some (.int .i64 0) ∧ W5.cell? ⟨W3.heap.size, 1, none⟩ = some (.slice none 0 0) := ⟨_, Lib.hid rfl, below_alloc _ _, by simp, by simp⟩
    go_upto_region 8 with (fail)
    rw [HW5.out]
    replace b0 := b_old hb b0; replace b1 := b_old hb b1; replace z0 := b_old hb z0; replace z1 := b_old hb z1
    have hb5 := b_then hb3 hb
    clear hb hb3 HW5 a0 a1
    generalize W3.heap.size = C at *
    go_cut [47] from 38 to 47 (fun c wx => c = .bool false ∧ Below w.heap.size w wx ∧ wx.cell? ⟨w.heap.size + 1, 0, none⟩ = some (.int .i64 key) ∧ wx.cell? ⟨w.heap.size + 1, 1, none⟩ = some (.int .i64 n))
    case first =>
      go_region_with (first
        | (go_at_call 53
           refine (zone_zero _).mono ?_
           rintro e w8 ⟨rfl, hb⟩
           have hb8 := b_then (below_drew W5) hb
           have d0' := b_old hb8 c0
           have d1' := b_old hb8 c1
           clear hb)
        | (go_at_call 65
           refine (SameZone_zero _).mono ?_
           rintro e w9 ⟨rfl, hb⟩
           have hb9 := b_then hb8 hb
           clear hb))
      all_goals (go_wp2_with fail; go_meet; exact ⟨rfl, b_then hb5 hb9, b_old hb9 b0, b_old hb9 b1⟩)
    case rest =>
      obtain ⟨rfl, hb10, b0', b1'⟩ := hcut
      by_cases hk : (1 ≤ key ∧ key ≤ 2147483646) ∧ 0 ≤ n ∧ n ≤ 256
      · obtain ⟨j, rfl⟩ := Int.eq_ofNat_of_zero_le hk.2.1
        have hj : j ≤ 256 := by omega
        have HQ := Lib.hid (HD0'.out hk.1 hk.2)
        go_wp2_with fail
        refine (Draw_ok j key hj hk.1.1 hk.1.2 _).mono ?_
        rintro e w11 ⟨b, rfl, hr⟩
        replace b0' := b_old hr.below b0'; replace b1' := b_old hr.below b1'
        have hb11 := b_then hb10 hr.below
        go_wp2_with fail
        refine (qCheckDraw_any _ _ _).mono ?_
        rintro e w12 ⟨rfl, hw⟩
        rw [hw, HQ.out]
        clear hw
        by_cases hj0 : j = 0
        · subst hj0
          replace b1' : w11.cell? ⟨w.heap.size + 1, 1, none⟩ = some (.int .i64 0) := b1'
          go_wp2_with fail
          refine (qDraw_nil _ _).mono ?_
          rintro e w13 ⟨rfl, hw⟩
          rw [hw]
          clear hw
          go_wp2_with fail
          refine (list_none _ _ _).mono ?_
          rintro e w14 ⟨rfl, q, rfl⟩
          go_wp2_with fail
          go_ret
          exact ⟨rfl, b_drewN hb11 q⟩
        · go_wp2_with fail
          refine (qDraw_ok j key (by omega) hj hk.1.1 hk.1.2 _).mono ?_
          rintro e w13 ⟨b2, c2, rfl, hr2⟩
          have hb13 := b_then hb11 hr2.below
          go_wp2_with fail
          refine (list_rows b b2 _ c2 (hr.more hr2.below) hr2 (by omega)).mono ?_
          rintro e w14 ⟨rfl, q, rfl⟩
          go_wp2_with fail
          go_ret
          exact ⟨rfl, b_drewN hb13 q⟩
      · have HQ := Lib.hid (HD3'.out hk)
        go_wp2_with fail
        refine (Draw_bad n key hk _).mono ?_
        rintro e w11 ⟨rfl, hb⟩
        replace b0' := b_old hb b0'; replace b1' := b_old hb b1'
        have hb11 := b_then hb10 hb
        clear hb
        go_wp2_with fail
        refine (qCheckDraw_any _ _ _).mono ?_
        rintro e w12 ⟨rfl, hw⟩
        rw [hw, HQ.out]
        clear hw
        go_wp2_with fail
        refine (list_bad2 3 _ (by decide)).mono ?_
        rintro e w14 ⟨rfl, hw⟩
        rw [hw]
        clear hw
        go_wp2_with fail
        go_ret
        exact ⟨rfl, hb11⟩
end Go.Proofs.YtijnabgehlkghaaGreatDoor
