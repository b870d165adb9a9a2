/- The walk of TopBeaconNoons. -/
import Derived.Test.YtijnabgehlkghaaDoorNoonMath
import Derived.Test.YtijnabgehlkghaaDoorBeacon2
import Derived.Deep.RegionHeld3
namespace Go.Proofs.YtijnabgehlkghaaDoor
open Go.RowKit
theorem db_y (y : Int) (h1 : 2000 ≤ y) (h2 : y ≤ 2271) : 0 ≤ Cal.db y ∧ Cal.db y ≤ 99186 := by
  have := Cal.db_lo y h1 (by omega)
  omega
theorem dn12 (y : Int) : Cal.dn y (1 : Int).toNat 2 = Cal.db y + 1 := by
  show Cal.db y + 2 - 1 + Cal.cum y 0 = _
  simp [Cal.cum]; omega
theorem err12 (y : Int) (h1 : 2000 ≤ y) (h2 : y ≤ 2271) : dayErr y 1 2 = 0 := by
  have hd := db_y y h1 h2
  have hm : Cal.ml y (1 : Int).toNat = 31 := by rw [show (1 : Int).toNat = 1 from rfl, Cal.ml_ne y 1 (by decide)]; rfl
  unfold dayErr dayIn
  rw [rng_ok (by omega) (by omega), rng_ok (by omega) (by omega), rng_ok (by omega) (by omega), if_neg (by simp [fst]), hm, dn12, if_neg (by omega)]
theorem span_S (y : Int) : fDay y ⟨#[83]⟩ = Cal.ls y 3 ∧ lDay y ⟨#[83]⟩ = Cal.ls y 10 - 1 := by
  unfold lDay follY follK
  rw [if_pos isS_S, if_pos isS_S]
  unfold fDay
  rw [if_pos isS_S, if_neg (by rw [isS_W]; decide)]
  exact ⟨rfl, rfl⟩
set_option maxRecDepth 100000 in
set_option maxHeartbeats 4000000 in
theorem Noons_true (off yr pl : Int) (w : World) (ht : HeldTab w) (hs : HeldSea w) (hy1 : 0 ≤ yr) (hy2 : yr ≤ 65535) (hp1 : 0 ≤ pl) (hp2 : pl ≤ 65535) :
    Calls Tryd.prog 12 #[.int .i64 off, .int .u16 yr, .int .u16 pl] w (IsTrue w) := by
  have HT := Lib.hid ht
  have HS := Lib.hid hs
  clear ht hs
  go_enter Tryd.func12, Tryd.ntmps12
  go_wp2_with fail
  have ho : -600 < off.tmod 600 ∧ off.tmod 600 < 600 := ⟨by have := Int.lt_tmod_of_pos off (b := 600) (by decide); omega, Int.tmod_lt_of_pos off (by decide)⟩
  generalize off.tmod 600 = o at *
  obtain ⟨ho3, ho4⟩ := ho
  have hy : 2000 ≤ 2000 + yr % 272 ∧ 2000 + yr % 272 ≤ 2271 := by omega
  generalize 2000 + yr % 272 = y at *
  obtain ⟨hy3, hy4⟩ := hy
  refine (Summer_ok o y y _ HT.out (by omega) (by omega) (by omega) (by omega) (by omega) (by omega)).mono ?_
  rintro e w1 ⟨v, rfl, hown, hb1⟩
  rw [show (y - y + 1).toNat = 1 by omega, sumCs_one] at hown
  obtain ⟨g, cap, rfl, _, hch⟩ := chAt_of_own hown rfl (by decide)
  have hA3 := ls3_bd y
  have hB3 := ls10_bd y
  have hdb := db_y y hy3 hy4
  have HDN := Lib.hid (dn12 y)
  have HER := Lib.hid (err12 y hy3 hy4)
  have HSP1 := Lib.hid (span_S y).1
  have HSP2 := Lib.hid (span_S y).2
  generalize hAA : Cal.ls y 3 = A at *
  generalize hBB : Cal.ls y 10 = B at *
  generalize hDD : Cal.db y = D at *
  clear hAA hBB hDD hown
  obtain ⟨W1, hW1, hbW1, z0, z1, hch1⟩ : ∃ W1, w1.alloc (.cells #[.int .i64 o, .slice (some ⟨g, 0, none⟩) 2 cap] 72) = W1 ∧ Below w.heap.size w W1 ∧ W1.cell? ⟨w1.heap.size, 0, none⟩ = some (.int .i64 o) ∧ W1.cell? ⟨w1.heap.size, 1, none⟩ = some (.slice (some ⟨g, 0, none⟩) 2 cap) ∧ ChAt W1 g 0 (oneCs o A B) :=
    ⟨_, rfl, b_then hb1 (below_alloc _ _), by simp, by simp, hch.below (below_alloc _ _)⟩
  clear hb1 hch
  go_wp2_with fail
  clear hW1
  refine (Day_any y 1 2 _ (HT.out.below hbW1)).mono ?_
  rintro e w2 ⟨rfl, hb2⟩
  rw [HER.out, HDN.out, num2_ok]
  have z0' := b_old hb2 z0
  have z1' := b_old hb2 z1
  have hch2 := hch1.below hb2
  have hb12 := b_then hbW1 hb2
  clear hb2 hbW1 z0 z1 hch1
  go_wp2_with fail
  refine (Span_ok y ⟨#[83]⟩ _ (HT.out.below hb12) hy3 (by omega) b_kind).mono ?_
  rintro e w3 ⟨rfl, hb3⟩
  rw [HSP1.out, HSP2.out]
  have z0 := b_old hb3 z0'
  have z1 := b_old hb3 z1'
  have hch3 := hch2.below hb3
  have hb13 := b_then hb12 hb3
  clear hb3 hb12 z0' z1' hch2
  obtain ⟨W3, hW3, hbW3, z0', z1', hch4, s0, s1⟩ : ∃ W3, w3.alloc (.cells #[.int .i64 A, .int .i64 (B - 1), .int .i64 127] 23) = W3 ∧ Below w.heap.size w W3 ∧ W3.cell? ⟨w1.heap.size, 0, none⟩ = some (.int .i64 o) ∧ W3.cell? ⟨w1.heap.size, 1, none⟩ = some (.slice (some ⟨g, 0, none⟩) 2 cap) ∧ ChAt W3 g 0 (oneCs o A B) ∧ W3.cell? ⟨w3.heap.size, 0, none⟩ = some (.int .i64 A) ∧ W3.cell? ⟨w3.heap.size, 1, none⟩ = some (.int .i64 (B - 1)) :=
    ⟨_, rfl, b_then hb13 (below_alloc _ _), b_old (below_alloc _ _) z0, b_old (below_alloc _ _) z1, hch3.below (below_alloc _ _), by simp, by simp⟩
  clear hb13 z0 z1 hch3
  go_wp2_with fail
  clear hW3
  obtain ⟨V, hV, hbV, z0, z1, hch5, s0', s1', hda⟩ : ∃ V, W3.alloc (.cells #[.int .i64 (D + 1 + pl % 362), .int .i64 A, .int .i64 B] 3) = V ∧ Below w.heap.size w V ∧ V.cell? ⟨w1.heap.size, 0, none⟩ = some (.int .i64 o) ∧ V.cell? ⟨w1.heap.size, 1, none⟩ = some (.slice (some ⟨g, 0, none⟩) 2 cap) ∧ ChAt V g 0 (oneCs o A B) ∧ V.cell? ⟨w3.heap.size, 0, none⟩ = some (.int .i64 A) ∧ V.cell? ⟨w3.heap.size, 1, none⟩ = some (.int .i64 (B - 1)) ∧ (∀ i, i < 3 → V.cell? ⟨W3.heap.size, i, none⟩ = some (.int .i64 ([D + 1 + pl % 362, A, B].getD i 0))) :=
    ⟨_, rfl, b_then hbW3 (below_alloc _ _), b_old (below_alloc _ _) z0', b_old (below_alloc _ _) z1', hch4.below (below_alloc _ _), b_old (below_alloc _ _) s0, b_old (below_alloc _ _) s1, fun i hi => by
      match i, hi with
      | 0, _ => exact cell_fresh W3 [.int .i64 (D + 1 + pl % 362), .int .i64 A, .int .i64 B] 3 0 _ rfl
      | 1, _ => exact cell_fresh W3 [.int .i64 (D + 1 + pl % 362), .int .i64 A, .int .i64 B] 3 1 _ rfl
      | 2, _ => exact cell_fresh W3 [.int .i64 (D + 1 + pl % 362), .int .i64 A, .int .i64 B] 3 2 _ rfl⟩
  rw [hV]
  have HDA := Lib.hid hda
  have HMEM := Lib.hid (one_mem o A B ho3 ho4 (by omega) (by omega) (by omega))
  have HZ := Lib.hid (one_zone o A B ho3 ho4 (by omega) (by omega) (by omega))
  clear hV hda hbW3 z0' z1' hch4 s0 s1
  go_loopw [66] (fun i wr => ∃ k : Nat, k ≤ 3 ∧ i = .int .i64 k ∧ Below V.heap.size V wr) (fun i _ => 3 - (intOf i).toNat)
  case atStart => exact ⟨0, by omega, rfl, Below.refl _ _⟩
  case round =>
    obtain ⟨k, hk, rfl, hbr⟩ := hrel
    by_cases hlt : k < 3
    · obtain ⟨d, hdc, hd1, hd2⟩ : ∃ d, wr.cell? ⟨W3.heap.size, k, none⟩ = some (.int .i64 d) ∧ D + 1 ≤ d ∧ d ≤ D + 362 := ⟨_, b_old hbr (HDA.out k hlt), by
        match k, hlt with
        | 0, _ => show D + 1 ≤ D + 1 + pl % 362; omega
        | 1, _ => show D + 1 ≤ A; omega
        | 2, _ => show D + 1 ≤ B; omega, by
        match k, hlt with
        | 0, _ => show D + 1 + pl % 362 ≤ _; omega
        | 1, _ => show A ≤ _; omega
        | 2, _ => show B ≤ _; omega⟩
      have y0 := b_old hbr z0
      have y1 := b_old hbr z1
      have hchr := hch5.below hbr
      have HU1 := Lib.hid (one_univ o A B (d - 1) ho3 ho4 (by omega) (by omega) (by omega) (by omega))
      have HU2 := Lib.hid (one_univ o A B d ho3 ho4 (by omega) (by omega) (by omega) (by omega))
      have HLO := Lib.hid (one_loc o A B d ho3 ho4 (by omega) (by omega) (by omega) (by omega))
      have HDF := Lib.hid (noon_diff o A B d (by omega))
      have hx1 : 0 ≤ 1440 * (d - 1) + 720 - o - sft A B (d - 1) ∧ 1440 * (d - 1) + 720 - o - sft A B (d - 1) ≤ 143999999 := by unfold sft; split <;> omega
      have hx2 : 0 ≤ 1440 * d + 720 - o - sft A B d ∧ 1440 * d + 720 - o - sft A B d ≤ 143999999 := by unfold sft; split <;> omega
      generalize 1440 * (d - 1) + 720 - o - sft A B (d - 1) = x1 at *
      generalize 1440 * d + 720 - o - sft A B d = x2 at *
      go_wp2_with fail
      refine (Universal_some o (1440 * (d - 1) + 720) g 0 cap (oneCs o A B) _ hchr (by simp [oneCs]) (by omega) (by omega) HMEM.out HZ.out (by omega) (by omega)).mono ?_
      rintro e w4 ⟨v4, rfl, hown4, hb4⟩
      rw [HU1.out] at hown4 ⊢
      obtain ⟨g4, cap4, rfl, hi4⟩ := intAt_of_own hown4 (by simp)
      rw [show [x1].length = 1 from rfl, if_neg (by simp)]
      have a0 : w4.cell? ⟨g4, 0, none⟩ = some (.int .i64 x1) := hi4 0 (by simp)
      have y0' := b_old hb4 y0
      have y1' := b_old hb4 y1
      have hch6 := hchr.below hb4
      have hbr4 := b_then hbr hb4
      clear hown4 hi4 hb4 hbr hchr y0 y1 hdc
      go_wp2_with fail
      refine (Universal_some o (1440 * d + 720) g 0 cap (oneCs o A B) _ hch6 (by simp [oneCs]) (by omega) (by omega) HMEM.out HZ.out (by omega) (by omega)).mono ?_
      rintro e w5 ⟨v5, rfl, hown5, hb5⟩
      rw [HU2.out] at hown5 ⊢
      obtain ⟨g5, cap5, rfl, hi5⟩ := intAt_of_own hown5 (by simp)
      rw [show [x2].length = 1 from rfl, if_neg (by simp)]
      have b0 : w5.cell? ⟨g5, 0, none⟩ = some (.int .i64 x2) := hi5 0 (by simp)
      have a0' := b_old hb5 a0
      have y0 := b_old hb5 y0'
      have y1 := b_old hb5 y1'
      have hbr5 := b_then hbr4 hb5
      have s0'' := b_old hbr5 s0'
      have s1'' := b_old hbr5 s1'
      have HLR : Hid (locRes (1440 * d + 720) = .tuple #[.int .i64 (1440 * d + 720), .int .i64 0]) := Lib.hid (by unfold locRes; rw [if_pos (rng_ok (by omega) (by omega))])
      clear hown5 hi5 hb5 hbr4 y0' y1' hch6 a0
      have hdf := HDF.out
      unfold wantM at hdf
      by_cases c1 : d = A
      · rw [if_pos c1] at hdf
        have hw1 : (d == A) = true := by simpa using c1
        have hw2 : (x2 - x1 != 1380) = false := by rw [hdf]; rfl
        clear hdf
        go_wp2_with fail
        go_region_held3 (fun w' => w'.cell? ⟨w1.heap.size, 0, none⟩ = some (.int .i64 o) ∧ w'.cell? ⟨w1.heap.size, 1, none⟩ = some (.slice (some ⟨g, 0, none⟩) 2 cap) ∧ w'.cell? ⟨g5, 0, none⟩ = some (.int .i64 x2) ∧ w'.cell? ⟨g4, 0, none⟩ = some (.int .i64 x1) ∧ Below V.heap.size V w')
          (first | exact ⟨y0, y1, b0, a0', hbr5.drew⟩ | exact ⟨b_old hbL hH.1, b_old hbL hH.2.1, b_old hbL hH.2.2.1, b_old hbL hH.2.2.2.1, b_then hH.2.2.2.2 hbL⟩)
          ((go_at_call 42; rename_i hH _ _; refine (Local_some o x2 g 0 cap (oneCs o A B) _ (hch5.below hH.2.2.2.2) (by simp [oneCs]) (by omega) (by omega) HMEM.out HZ.out hx2.1 hx2.2).mono ?_; rintro e w6 ⟨rfl, hbL⟩; rw [HLO.out, HLR.out]))
        rename_i hH2
        obtain ⟨-, -, b0', a0'', hbr6⟩ := hH2
        go_wp2_with fail
        go_quiet (fail)
        go_wp2_with fail
        go_roundw
        case rel => exact ⟨k + 1, by omega, by go_num, hbr6.trans ⟨rfl, rfl, rfl, Nat.le_refl _, fun _ _ => rfl⟩⟩
        case measure => simp [intOf]; omega
      · rw [if_neg c1] at hdf
        have hw1 : (d == A) = false := by simpa using c1
        by_cases c2 : d = B
        · rw [if_pos c2] at hdf
          have hw3 : (d == B) = true := by simpa using c2
          have hw2 : (x2 - x1 != 1500) = false := by rw [hdf]; rfl
          clear hdf c1
          go_wp2_with fail
          go_region_held3 (fun w' => w'.cell? ⟨w1.heap.size, 0, none⟩ = some (.int .i64 o) ∧ w'.cell? ⟨w1.heap.size, 1, none⟩ = some (.slice (some ⟨g, 0, none⟩) 2 cap) ∧ w'.cell? ⟨g5, 0, none⟩ = some (.int .i64 x2) ∧ w'.cell? ⟨g4, 0, none⟩ = some (.int .i64 x1) ∧ Below V.heap.size V w')
            (first | exact ⟨y0, y1, b0, a0', hbr5.drew⟩ | exact ⟨b_old hbL hH.1, b_old hbL hH.2.1, b_old hbL hH.2.2.1, b_old hbL hH.2.2.2.1, b_then hH.2.2.2.2 hbL⟩)
            ((go_at_call 42; rename_i hH _ _; refine (Local_some o x2 g 0 cap (oneCs o A B) _ (hch5.below hH.2.2.2.2) (by simp [oneCs]) (by omega) (by omega) HMEM.out HZ.out hx2.1 hx2.2).mono ?_; rintro e w6 ⟨rfl, hbL⟩; rw [HLO.out, HLR.out]))
          rename_i hH2
          obtain ⟨-, -, b0', a0'', hbr6⟩ := hH2
          go_wp2_with fail
          go_quiet (fail)
          go_wp2_with fail
          go_roundw
          case rel => exact ⟨k + 1, by omega, by go_num, hbr6.trans ⟨rfl, rfl, rfl, Nat.le_refl _, fun _ _ => rfl⟩⟩
          case measure => simp [intOf]; omega
        · rw [if_neg c2] at hdf
          have hw3 : (d == B) = false := by simpa using c2
          have hw2 : (x2 - x1 != 1440) = false := by rw [hdf]; rfl
          clear hdf c1 c2
          go_wp2_with fail
          go_region_held3 (fun w' => w'.cell? ⟨w1.heap.size, 0, none⟩ = some (.int .i64 o) ∧ w'.cell? ⟨w1.heap.size, 1, none⟩ = some (.slice (some ⟨g, 0, none⟩) 2 cap) ∧ w'.cell? ⟨g5, 0, none⟩ = some (.int .i64 x2) ∧ w'.cell? ⟨g4, 0, none⟩ = some (.int .i64 x1) ∧ Below V.heap.size V w')
            (first | exact ⟨y0, y1, b0, a0', hbr5.drew⟩ | exact ⟨b_old hbL hH.1, b_old hbL hH.2.1, b_old hbL hH.2.2.1, b_old hbL hH.2.2.2.1, b_then hH.2.2.2.2 hbL⟩)
            ((go_at_call 42; rename_i hH _ _; refine (Local_some o x2 g 0 cap (oneCs o A B) _ (hch5.below hH.2.2.2.2) (by simp [oneCs]) (by omega) (by omega) HMEM.out HZ.out hx2.1 hx2.2).mono ?_; rintro e w6 ⟨rfl, hbL⟩; rw [HLO.out, HLR.out]))
          rename_i hH2
          obtain ⟨-, -, b0', a0'', hbr6⟩ := hH2
          go_wp2_with fail
          go_quiet (fail)
          go_wp2_with fail
          go_roundw
          case rel => exact ⟨k + 1, by omega, by go_num, hbr6.trans ⟨rfl, rfl, rfl, Nat.le_refl _, fun _ _ => rfl⟩⟩
          case measure => simp [intOf]; omega
    · have hbrw := b_then hbV hbr
      go_wp2_with fail
      refine (beaconDay_true _ (HT.out.below hbrw) (HS.out.below hbrw)).mono ?_
      rintro e w4 ⟨rfl, hb4⟩
      have hb5 := b_then hbrw hb4
      go_wp2_with fail
      go_ret
      exact ⟨rfl, hb5⟩
end Go.Proofs.YtijnabgehlkghaaDoor
