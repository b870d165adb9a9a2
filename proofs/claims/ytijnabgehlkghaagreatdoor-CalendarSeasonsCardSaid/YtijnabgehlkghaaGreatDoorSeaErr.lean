/- Contracts of package calendar: the error sides of the functions of seasons. -/
import Derived.Test.YtijnabgehlkghaaGreatDoorTileC
import Derived.Test.YtijnabgehlkghaaGreatDoorCal3
namespace Go.Proofs.YtijnabgehlkghaaGreatDoor
open Go Go.RowKit
def zeroS : Value := .agg #[.int .i64 0, .string ⟨#[]⟩]
def zeroP : Value := .agg #[.int .i64 0, .int .i64 0, .int .i64 0]
theorem fst_first {x : Int} (l : List Int) (h : x ≠ 0) : fst (x :: l) = x := by simp [fst, h]
set_option maxRecDepth 100000 in
theorem Span_err (y : Int) (s : ByteArray) (w : World) (he : seasonErr y s ≠ 0) :
    Calls Tryz.prog 43 #[.agg #[.int .i64 y, .string s]] w fun r w' => r = .returned (.tuple #[zeroP, .int .i64 (seasonErr y s)]) ∧ Below w.heap.size w w' := by
  have HE : Hid ((seasonErr y s != 0) = true) := Lib.hid (by rw [bne_iff_ne]; exact he)
  clear he
  obtain ⟨W, HW, hb0, hc0, hc1, R0, hsz⟩ : ∃ W, Hid ((w.alloc (.cells #[.int .i64 y, .string s] 61)).alloc (.cells #[.int .i64 0, .int .i64 0, .int .i64 0] 45) = W) ∧ Below w.heap.size w W ∧
      W.cell? ⟨w.heap.size, 0, none⟩ = some (.int .i64 y) ∧ W.cell? ⟨w.heap.size, 1, none⟩ = some (.string s) ∧ Res 3 (w.heap.size + 1) W W ∧ w.heap.size + 2 ≤ W.heap.size :=
    ⟨_, Lib.hid rfl, below_alloc2 w _ _, by simp, by simp, ⟨fun i hi => by
        match i, hi with
        | 0, _ => exact ⟨.int .i64 0, by simp⟩
        | 1, _ => exact ⟨.int .i64 0, by simp⟩
        | 2, _ => exact ⟨.int .i64 0, by simp⟩, fun i hi => by
        match i, hi with
        | 0, _ => simp
        | 1, _ => simp
        | 2, _ => simp, Below.refl _ _⟩, by simp⟩
  go_enter Tryz.func43, Tryz.ntmps43
  go_wp2_with fail
  rw [HW.out]
  refine (CheckSeason_any _ _ _).mono ?_
  rintro e w1 ⟨rfl, hb1⟩
  have R1 := R0.more (by omega) hb1
  obtain ⟨v0, q0⟩ := R1.cell 0 (by decide)
  obtain ⟨v1, q1⟩ := R1.cell 1 (by decide)
  obtain ⟨v2, q2⟩ := R1.cell 2 (by decide)
  have g0 := R1.frozen 0 (by decide)
  have g1 := R1.frozen 1 (by decide)
  have g2 := R1.frozen 2 (by decide)
  have hz := HE.out
  clear hb1 hc0 hc1 R0
  go_wp2_with fail
  exact bodyPost_ret (v := .tuple #[zeroP, .int .i64 (seasonErr y s)]) (by simp [results, Tryz.results43, go_sem, q0, q1, q2, zeroP]) rfl ⟨rfl, hb0.trans ((((R1.set 0 _).set 1 _).set 2 _).below.mono (by omega))⟩
set_option maxRecDepth 100000 in
set_option maxHeartbeats 2000000 in
theorem Next_err (y : Int) (s : ByteArray) (w : World) (hs : HeldSea w) (he : seasonErr y s ≠ 0) :
    Calls Tryz.prog 44 #[.agg #[.int .i64 y, .string s]] w fun r w' => r = .returned (.tuple #[zeroS, .int .i64 (seasonErr y s)]) ∧ Below w.heap.size w w' := by
  have HE : Hid ((seasonErr y s != 0) = true) := Lib.hid (by rw [bne_iff_ne]; exact he)
  have HF : Hid (∀ l, fst (seasonErr y s :: l) = seasonErr y s) := Lib.hid (fun l => fst_first l he)
  clear he
  obtain ⟨W, HW, hb0, hc0, hc1, R0, hsz⟩ := two_sea w y s
  have hsW := hs.below hb0
  go_enter Tryz.func44, Tryz.ntmps44
  go_wp2_with fail
  rw [HW.out]
  have k0 : ∀ x : KeptW W, x.v.cell? ⟨w.heap.size, 0, none⟩ = some (.int .i64 y) := fun x => x.cell hc0
  have k1 : ∀ x : KeptW W, x.v.cell? ⟨w.heap.size, 1, none⟩ = some (.string s) := fun x => x.cell hc1
  have l0 : ∀ x : KeptW W, x.v.cell? ⟨0, 0, none⟩ = some (.int .i64 2272) := fun x => x.cell hsW.b0
  have l1 : ∀ x : KeptW W, x.v.cell? ⟨0, 1, none⟩ = some (.string ⟨#[87]⟩) := fun x => x.cell hsW.b1
  have hne : Nonempty (KeptW W) := ⟨⟨W, Below.refl _ _⟩⟩
  refine tail_kept 6 (by kernel_rfl) (by kernel_rfl) ?_
  simp only [List.take_succ_cons, List.take_zero, List.drop_succ_cons, List.drop_zero]
  have hcase : (y == 2272) = false ∨ (y = 2272 ∧ ¬ s.toList = [87]) ∨ (y = 2272 ∧ s.toList = [87]) := by
    by_cases e : y = 2272
    · by_cases e2 : s.toList = [87]
      · exact .inr (.inr ⟨e, e2⟩)
      · exact .inr (.inl ⟨e, e2⟩)
    · exact .inl (by simpa using e)
  rcases hcase with hyb | ⟨rfl, hsb⟩ | ⟨rfl, hsb⟩
  all_goals
    go_big_quiet_step (fail)
    go_big_quiet_step (exact KeptW.calls (CheckSeason_any _ _ _))
    iterate 3 (go_big_quiet_step (fail))
    go_big_quiet_step (first | exact KeptW.calls_same (unless_t _ _) | exact KeptW.calls_same (unless_f _ _))
    refine wpQuiet_nil ?_
    rintro _ ⟨x, rfl⟩
    have R1 := R0.more (by omega) x.below
    clear k0 k1 l0 l1
    go_wp2_with fail
    refine (fe_new [_, _] _ _ _ _ _ rfl rfl (by simp)).mono ?_
    rintro e w2 ⟨rfl, hw⟩
    have hb2 : Below x.v.heap.size x.v w2 := by rw [hw]; exact below_alloc _ _
    have R2 := R1.more (R1.pos (by decide)) hb2
    rw [HF.out]
    clear hw hb2 R1
    have hz := HE.out
    obtain ⟨v0, q0⟩ := R2.cell 0 (by decide)
    obtain ⟨v1, q1⟩ := R2.cell 1 (by decide)
    have qf0 := R2.frozen 0 (by decide)
    have qf1 := R2.frozen 1 (by decide)
    go_wp2_with fail
    exact bodyPost_ret (v := .tuple #[zeroS, .int .i64 (seasonErr _ s)]) (by simp [results, Tryz.results44, go_sem, q0, q1, zeroS]) rfl ⟨rfl, hb0.trans (((R2.set 0 _).set 1 _).below.mono (by omega))⟩
set_option maxRecDepth 100000 in
set_option maxHeartbeats 2000000 in
theorem Prev_err (y : Int) (s : ByteArray) (w : World) (hs : HeldSea w) (he : seasonErr y s ≠ 0) :
    Calls Tryz.prog 45 #[.agg #[.int .i64 y, .string s]] w fun r w' => r = .returned (.tuple #[zeroS, .int .i64 (seasonErr y s)]) ∧ Below w.heap.size w w' := by
  have HE : Hid ((seasonErr y s != 0) = true) := Lib.hid (by rw [bne_iff_ne]; exact he)
  have HF : Hid (∀ l, fst (seasonErr y s :: l) = seasonErr y s) := Lib.hid (fun l => fst_first l he)
  clear he
  obtain ⟨W, HW, hb0, hc0, hc1, R0, hsz⟩ := two_sea w y s
  have hsW := hs.below hb0
  go_enter Tryz.func45, Tryz.ntmps45
  go_wp2_with fail
  rw [HW.out]
  have k0 : ∀ x : KeptW W, x.v.cell? ⟨w.heap.size, 0, none⟩ = some (.int .i64 y) := fun x => x.cell hc0
  have k1 : ∀ x : KeptW W, x.v.cell? ⟨w.heap.size, 1, none⟩ = some (.string s) := fun x => x.cell hc1
  have l0 : ∀ x : KeptW W, x.v.cell? ⟨1, 0, none⟩ = some (.int .i64 2000) := fun x => x.cell hsW.a0
  have l1 : ∀ x : KeptW W, x.v.cell? ⟨1, 1, none⟩ = some (.string ⟨#[83]⟩) := fun x => x.cell hsW.a1
  have hne : Nonempty (KeptW W) := ⟨⟨W, Below.refl _ _⟩⟩
  refine tail_kept 6 (by kernel_rfl) (by kernel_rfl) ?_
  simp only [List.take_succ_cons, List.take_zero, List.drop_succ_cons, List.drop_zero]
  have hcase : (y == 2000) = false ∨ (y = 2000 ∧ ¬ s.toList = [83]) ∨ (y = 2000 ∧ s.toList = [83]) := by
    by_cases e : y = 2000
    · by_cases e2 : s.toList = [83]
      · exact .inr (.inr ⟨e, e2⟩)
      · exact .inr (.inl ⟨e, e2⟩)
    · exact .inl (by simpa using e)
  rcases hcase with hyb | ⟨rfl, hsb⟩ | ⟨rfl, hsb⟩
  all_goals
    go_big_quiet_step (fail)
    go_big_quiet_step (exact KeptW.calls (CheckSeason_any _ _ _))
    iterate 3 (go_big_quiet_step (fail))
    go_big_quiet_step (first | exact KeptW.calls_same (unless_t _ _) | exact KeptW.calls_same (unless_f _ _))
    refine wpQuiet_nil ?_
    rintro _ ⟨x, rfl⟩
    have R1 := R0.more (by omega) x.below
    clear k0 k1 l0 l1
    go_wp2_with fail
    refine (fe_new [_, _] _ _ _ _ _ rfl rfl (by simp)).mono ?_
    rintro e w2 ⟨rfl, hw⟩
    have hb2 : Below x.v.heap.size x.v w2 := by rw [hw]; exact below_alloc _ _
    have R2 := R1.more (R1.pos (by decide)) hb2
    rw [HF.out]
    clear hw hb2 R1
    have hz := HE.out
    obtain ⟨v0, q0⟩ := R2.cell 0 (by decide)
    obtain ⟨v1, q1⟩ := R2.cell 1 (by decide)
    have qf0 := R2.frozen 0 (by decide)
    have qf1 := R2.frozen 1 (by decide)
    go_wp2_with fail
    exact bodyPost_ret (v := .tuple #[zeroS, .int .i64 (seasonErr _ s)]) (by simp [results, Tryz.results45, go_sem, q0, q1, zeroS]) rfl ⟨rfl, hb0.trans (((R2.set 0 _).set 1 _).below.mono (by omega))⟩
set_option maxRecDepth 100000 in
set_option maxHeartbeats 1000000 in
theorem Prev_first (w : World) (hs : HeldSea w) :
    Calls Tryz.prog 45 #[.agg #[.int .i64 2000, .string bS]] w fun r w' => r = .returned (.tuple #[zeroS, .int .i64 7]) ∧ Below w.heap.size w w' := by
  have HE : Hid (seasonErr 2000 bS = 0) := Lib.hid (sea_zero (by decide) (by decide) kind_bS)
  obtain ⟨W, HW, hb0, hc0, hc1, R0, hsz⟩ := two_sea w 2000 bS
  have hsW := hs.below hb0
  go_enter Tryz.func45, Tryz.ntmps45
  go_wp2_with fail
  rw [HW.out]
  have k0 : ∀ x : KeptW W, x.v.cell? ⟨w.heap.size, 0, none⟩ = some (.int .i64 2000) := fun x => x.cell hc0
  have k1 : ∀ x : KeptW W, x.v.cell? ⟨w.heap.size, 1, none⟩ = some (.string bS) := fun x => x.cell hc1
  have l0 : ∀ x : KeptW W, x.v.cell? ⟨1, 0, none⟩ = some (.int .i64 2000) := fun x => x.cell hsW.a0
  have l1 : ∀ x : KeptW W, x.v.cell? ⟨1, 1, none⟩ = some (.string ⟨#[83]⟩) := fun x => x.cell hsW.a1
  have hne : Nonempty (KeptW W) := ⟨⟨W, Below.refl _ _⟩⟩
  have hsb : bS.toList = [83] := by decide +kernel
  refine tail_kept 6 (by kernel_rfl) (by kernel_rfl) ?_
  simp only [List.take_succ_cons, List.take_zero, List.drop_succ_cons, List.drop_zero]
  go_big_quiet_step (fail)
  go_big_quiet_step (exact KeptW.calls (CheckSeason_any _ _ _))
  iterate 3 (go_big_quiet_step (fail))
  go_big_quiet_step (exact KeptW.calls_same (unless_f _ _))
  refine wpQuiet_nil ?_
  rintro _ ⟨x, rfl⟩
  have R1 := R0.more (by omega) x.below
  clear k0 k1 l0 l1
  go_wp2_with fail
  refine (fe_new [_, _] _ _ _ _ _ rfl rfl (by simp)).mono ?_
  rintro e w2 ⟨rfl, hw⟩
  have hb2 : Below x.v.heap.size x.v w2 := by rw [hw]; exact below_alloc _ _
  have R2 := R1.more (R1.pos (by decide)) hb2
  rw [HE.out, ne_7]
  clear hw hb2 R1
  obtain ⟨v0, q0⟩ := R2.cell 0 (by decide)
  obtain ⟨v1, q1⟩ := R2.cell 1 (by decide)
  have qf0 := R2.frozen 0 (by decide)
  have qf1 := R2.frozen 1 (by decide)
  go_wp2_with fail
  exact bodyPost_ret (v := .tuple #[zeroS, .int .i64 7]) (by simp [results, Tryz.results45, go_sem, q0, q1, zeroS]) rfl ⟨rfl, hb0.trans (((R2.set 0 _).set 1 _).below.mono (by omega))⟩
def seaOfErr (d : Int) : Int := if 0 ≤ d ∧ d ≤ 99999 then 30 else 3
theorem one_sea0 (w : World) : ∃ W, Hid (w.alloc (.cells #[.int .i64 0, .string ⟨#[]⟩] 61) = W) ∧ Below w.heap.size w W ∧ Res 2 w.heap.size W W ∧ w.heap.size + 1 ≤ W.heap.size :=
    ⟨_, Lib.hid rfl, below_alloc w _, ⟨fun i hi => by
        match i, hi with
        | 0, _ => exact ⟨.int .i64 0, by simp⟩
        | 1, _ => exact ⟨.string ⟨#[]⟩, by simp⟩, fun i hi => by
        match i, hi with
        | 0, _ => simp
        | 1, _ => simp, Below.refl _ _⟩, by simp⟩
set_option maxRecDepth 100000 in
set_option maxHeartbeats 2000000 in
theorem SeasonOf_err (d : Int) (w : World) (ht : HeldTab w) (hs : HeldSea w) (hd : d < 85 ∨ (85 ≤ d ∧ 99799 < d)) :
    Calls Tryz.prog 46 #[.int .i64 d] w fun r w' => r = .returned (.tuple #[zeroS, .int .i64 (seaOfErr d)]) ∧ Below w.heap.size w w' := by
  have HF : Hid (fst [rng d 0 99999, 30] = seaOfErr d ∧ (seaOfErr d != 0) = true) := Lib.hid (by
    unfold seaOfErr
    by_cases h : 0 ≤ d ∧ d ≤ 99999
    · rw [rng_ok h.1 h.2, if_pos h]; exact ⟨rfl, rfl⟩
    · rw [rng_bad h, if_neg h]; exact ⟨rfl, rfl⟩)
  have H85 := Lib.hid first_day
  have H99 := Lib.hid last_day
  obtain ⟨W, HW, hb0, R0, hsz⟩ := one_sea0 w
  have hs0 := hs.below hb0
  have HT := Lib.hid (ht.below hb0)
  clear ht
  go_enter Tryz.func46, Tryz.ntmps46
  go_wp2_with fail
  rw [HW.out]
  have k0 : ∀ x : KeptW W, x.v.cell? ⟨1, 0, none⟩ = some (.int .i64 2000) := fun x => x.cell hs0.a0
  have k1 : ∀ x : KeptW W, x.v.cell? ⟨1, 1, none⟩ = some (.string ⟨#[83]⟩) := fun x => x.cell hs0.a1
  have l0 : ∀ x : KeptW W, x.v.cell? ⟨0, 0, none⟩ = some (.int .i64 2272) := fun x => x.cell hs0.b0
  have l1 : ∀ x : KeptW W, x.v.cell? ⟨0, 1, none⟩ = some (.string ⟨#[87]⟩) := fun x => x.cell hs0.b1
  have hne : Nonempty (KeptW W) := ⟨⟨W, Below.refl _ _⟩⟩
  have HD1 : Hid (∀ x : KeptW W, Calls Tryz.prog 95 #[.agg #[.int .i64 2000, .string ⟨#[83]⟩]] x.v fun r w' => r = .returned (.int .i64 85) ∧ Below x.v.heap.size x.v w') := Lib.hid (fun x => by
    have := firstDay_any 2000 ⟨#[83]⟩ x.v (HT.out.below x.below) (by decide) (by decide)
    rwa [H85.out] at this)
  have HD2 : Hid (∀ x : KeptW W, Calls Tryz.prog 96 #[.agg #[.int .i64 2272, .string ⟨#[87]⟩]] x.v fun r w' => r = .returned (.int .i64 99799) ∧ Below x.v.heap.size x.v w') := Lib.hid (fun x => by
    have := lastDay_any 2272 ⟨#[87]⟩ x.v (HT.out.below x.below) (by decide) (by decide)
    rwa [H99.out] at this)
  refine tail_kept 13 (by kernel_rfl) (by kernel_rfl) ?_
  simp only [List.take_succ_cons, List.take_zero, List.drop_succ_cons, List.drop_zero]
  rcases hd with hd | ⟨hd, hd2⟩
  · have g1 : decide (85 ≤ d) = false := by simp; omega
    go_big_quiet_step (fail)
    go_big_quiet_step (exact KeptW.calls_same (checkDay_any _ _))
    go_big_quiet_step (fail)
    go_big_quiet_step (exact KeptW.calls (HD1.out _))
    iterate 8 (go_big_quiet_step (fail))
    go_big_quiet_step (exact KeptW.calls_same (unless_f _ _))
    refine wpQuiet_nil ?_
    rintro _ ⟨x, rfl⟩
    have R1 := R0.more (by omega) x.below
    clear k0 k1 l0 l1
    go_wp2_with fail
    refine (fe_new [_, _] _ _ _ _ _ rfl rfl (by simp)).mono ?_
    rintro e w2 ⟨rfl, hw⟩
    have hb2 : Below x.v.heap.size x.v w2 := by rw [hw]; exact below_alloc _ _
    have R2 := R1.more (R1.pos (by decide)) hb2
    rw [HF.out.1]
    clear hw hb2 R1
    have hz := HF.out.2
    obtain ⟨v0, q0⟩ := R2.cell 0 (by decide)
    obtain ⟨v1, q1⟩ := R2.cell 1 (by decide)
    have qf0 := R2.frozen 0 (by decide)
    have qf1 := R2.frozen 1 (by decide)
    go_wp2_with fail
    exact bodyPost_ret (v := .tuple #[zeroS, .int .i64 (seaOfErr d)]) (by simp [results, Tryz.results46, go_sem, q0, q1, zeroS]) rfl ⟨rfl, hb0.trans (((R2.set 0 _).set 1 _).below)⟩
  · have g1 : decide (85 ≤ d) = true := by simp; omega
    have g2 : decide (d ≤ 99799) = false := by simp; omega
    go_big_quiet_step (fail)
    go_big_quiet_step (exact KeptW.calls_same (checkDay_any _ _))
    go_big_quiet_step (fail)
    go_big_quiet_step (exact KeptW.calls (HD1.out _))
    iterate 5 (go_big_quiet_step (fail))
    go_big_quiet_step (exact KeptW.calls (HD2.out _))
    iterate 2 (go_big_quiet_step (fail))
    go_big_quiet_step (exact KeptW.calls_same (unless_f _ _))
    refine wpQuiet_nil ?_
    rintro _ ⟨x, rfl⟩
    have R1 := R0.more (by omega) x.below
    clear k0 k1 l0 l1
    go_wp2_with fail
    refine (fe_new [_, _] _ _ _ _ _ rfl rfl (by simp)).mono ?_
    rintro e w2 ⟨rfl, hw⟩
    have hb2 : Below x.v.heap.size x.v w2 := by rw [hw]; exact below_alloc _ _
    have R2 := R1.more (R1.pos (by decide)) hb2
    rw [HF.out.1]
    clear hw hb2 R1
    have hz := HF.out.2
    obtain ⟨v0, q0⟩ := R2.cell 0 (by decide)
    obtain ⟨v1, q1⟩ := R2.cell 1 (by decide)
    have qf0 := R2.frozen 0 (by decide)
    have qf1 := R2.frozen 1 (by decide)
    go_wp2_with fail
    exact bodyPost_ret (v := .tuple #[zeroS, .int .i64 (seaOfErr d)]) (by simp [results, Tryz.results46, go_sem, q0, q1, zeroS]) rfl ⟨rfl, hb0.trans (((R2.set 0 _).set 1 _).below)⟩
end Go.Proofs.YtijnabgehlkghaaGreatDoor
