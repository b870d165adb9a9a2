/- Contracts of package calendar: SeasonOf of a day of a season, Next, Previous. -/
import Derived.Test.YtoaimgfekbnijaaDoorTileMath
import Derived.Test.YtoaimgfekbnijaaDoorSpan
import Derived.Test.YtoaimgfekbnijaaDoorKept
import Derived.Laws.StructEq
namespace Go.Proofs.YtoaimgfekbnijaaDoor
open Go.RowKit
theorem sea_zero {y : Int} {s : ByteArray} (h1 : 2000 ≤ y) (h2 : y ≤ 2272) (hk : kindErr s = 0) : seasonErr y s = 0 := by simp [seasonErr, fst, rng, h1, h2, hk]
theorem SeasonOf_in (d y : Int) (s : ByteArray) (w : World) (ht : HeldTab w) (hs : HeldSea w) (h1 : 2000 ≤ y) (h2 : y ≤ 2272) (hk : s = bS ∨ s = bW) (hd1 : fDay y s ≤ d) (hd2 : d ≤ lDay y s) :
    Calls Tryd.prog 34 #[.int .i64 d] w fun r w' => r = .returned (.tuple #[.agg #[.int .i64 y, .string s], .int .i64 0]) ∧ Below w.heap.size w w' := by
  obtain ⟨z, z1, z2, b1, b2, e1, e2⟩ := sea_in h1 h2 hk hd1 hd2
  have f := seaF h1 h2 hk
  have := SeasonOf_ok d z w ht hs (by have := f.lo; omega) (by have := f.hi; omega) z1 z2 b1 b2
  rw [e1, e2] at this
  exact this
theorem two_sea (w : World) (y : Int) (s : ByteArray) : ∃ W, Hid ((w.alloc (.cells #[.int .i64 y, .string s] 61)).alloc (.cells #[.int .i64 0, .string ⟨#[]⟩] 61) = W) ∧ Below w.heap.size w W ∧
      W.cell? ⟨w.heap.size, 0, none⟩ = some (.int .i64 y) ∧ W.cell? ⟨w.heap.size, 1, none⟩ = some (.string s) ∧ Res 2 (w.heap.size + 1) W W ∧ w.heap.size + 2 ≤ W.heap.size :=
    ⟨_, Lib.hid rfl, below_alloc2 w _ _, by simp, by simp, ⟨fun i hi => by
        match i, hi with
        | 0, _ => exact ⟨.int .i64 0, by simp⟩
        | 1, _ => exact ⟨.string ⟨#[]⟩, by simp⟩, fun i hi => by
        match i, hi with
        | 0, _ => simp
        | 1, _ => simp, Below.refl _ _⟩, by simp⟩
theorem sw_ne : ¬ bS.toList = [87] := by decide +kernel
theorem ws_ne : ¬ bW.toList = [83] := by decide +kernel
theorem ww_eq : bW.toList = [87] := by decide +kernel
set_option maxRecDepth 100000 in
set_option maxHeartbeats 1000000 in
theorem Next_ok (y : Int) (s : ByteArray) (w : World) (hs : HeldSea w) (h1 : 2000 ≤ y) (h2 : y ≤ 2272) (hk : s = bS ∨ s = bW) (hn : y = 2272 → s = bS) :
    Calls Tryd.prog 35 #[.agg #[.int .i64 y, .string s]] w fun r w' => r = .returned (.tuple #[.agg #[.int .i64 (follY y s), .string (follK s)], .int .i64 0]) ∧ Below w.heap.size w w' := by
  have HE : Hid (seasonErr y s = 0) := Lib.hid (sea_zero h1 h2 (by rcases hk with rfl | rfl; exact kind_bS; exact kind_bW))
  obtain ⟨W, HW, hb0, hc0, hc1, R0, hsz⟩ := two_sea w y s
  have hsW := hs.below hb0
  go_enter Tryd.func35, Tryd.ntmps35
  go_wp2_with fail
  rw [HW.out]
  have k0 : ∀ x : KeptW W, x.v.cell? ⟨w.heap.size, 0, none⟩ = some (.int .i64 y) := fun x => x.cell hc0
  have k1 : ∀ x : KeptW W, x.v.cell? ⟨w.heap.size, 1, none⟩ = some (.string s) := fun x => x.cell hc1
  have l0 : ∀ x : KeptW W, x.v.cell? ⟨1, 0, none⟩ = some (.int .i64 2272) := fun x => x.cell hsW.b0
  have l1 : ∀ x : KeptW W, x.v.cell? ⟨1, 1, none⟩ = some (.string ⟨#[87]⟩) := fun x => x.cell hsW.b1
  have hne : Nonempty (KeptW W) := ⟨⟨W, Below.refl _ _⟩⟩
  refine tail_kept 6 (by kernel_rfl) (by kernel_rfl) ?_
  simp only [List.take_succ_cons, List.take_zero, List.drop_succ_cons, List.drop_zero]
  have hcase : (∃ b : Bool, (y == 2272) = false ∧ b = b) ∨ (y = 2272 ∧ s = bS ∧ ¬ bS.toList = [87]) := by
    by_cases e : y = 2272
    · exact .inr ⟨e, hn e, sw_ne⟩
    · exact .inl ⟨true, by simpa using e, rfl⟩
  rcases hcase with ⟨_, hyb, _⟩ | ⟨rfl, rfl, hsb⟩
  all_goals
    go_big_quiet_step (fail)
    go_big_quiet_step (exact KeptW.calls (CheckSeason_any _ _ _))
    iterate 3 (go_big_quiet_step (fail))
    go_big_quiet_step (exact KeptW.calls_same (unless_t _ _))
    refine wpQuiet_nil ?_
    rintro _ ⟨x, rfl⟩
    have R1 := R0.more (by omega) x.below
    have k0' := k0 x
    have k1' := k1 x
    clear k0 k1 l0 l1
    go_wp2_with fail
    refine (fe_new [_, _] _ _ _ _ _ rfl rfl (by simp)).mono ?_
    rintro e w2 ⟨rfl, hw⟩
    have hb2 : Below x.v.heap.size x.v w2 := by rw [hw]; exact below_alloc _ _
    have R2 := R1.more (R1.pos (by decide)) hb2
    have m0 := b_old hb2 k0'
    have m1 := b_old hb2 k1'
    rw [HE.out, show fst [0, 0] = 0 from rfl]
    clear hw hb2 k0' k1' R1
    go_wp2_with fail
    refine (following_any _ _ _ (by omega) (by omega)).mono ?_
    rintro e w3 ⟨rfl, hb3⟩
    have R3 := R2.more (R2.pos (by decide)) hb3
    obtain ⟨v0, q0⟩ := R3.cell 0 (by decide)
    obtain ⟨v1, q1⟩ := R3.cell 1 (by decide)
    have qf0 := R3.frozen 0 (by decide)
    have qf1 := R3.frozen 1 (by decide)
    clear hb3 R2
    go_wp2_with fail
    exact bodyPost_ret (v := .tuple #[.agg #[.int .i64 (follY _ _), .string (follK _)], .int .i64 0]) (by simp [results, Tryd.results35, go_sem, q0, q1]) rfl ⟨rfl, hb0.trans (((R3.set 0 _).set 1 _).below.mono (by omega))⟩
set_option maxRecDepth 100000 in
set_option maxHeartbeats 1000000 in
theorem Prev_W (y : Int) (w : World) (hs : HeldSea w) (h1 : 2000 ≤ y) (h2 : y ≤ 2272) :
    Calls Tryd.prog 36 #[.agg #[.int .i64 y, .string bW]] w fun r w' => r = .returned (.tuple #[.agg #[.int .i64 y, .string ⟨#[83]⟩], .int .i64 0]) ∧ Below w.heap.size w w' := by
  have HE : Hid (seasonErr y bW = 0) := Lib.hid (sea_zero h1 h2 kind_bW)
  obtain ⟨W, HW, hb0, hc0, hc1, R0, hsz⟩ := two_sea w y bW
  have hsW := hs.below hb0
  go_enter Tryd.func36, Tryd.ntmps36
  go_wp2_with fail
  rw [HW.out]
  have k0 : ∀ x : KeptW W, x.v.cell? ⟨w.heap.size, 0, none⟩ = some (.int .i64 y) := fun x => x.cell hc0
  have k1 : ∀ x : KeptW W, x.v.cell? ⟨w.heap.size, 1, none⟩ = some (.string bW) := fun x => x.cell hc1
  have l0 : ∀ x : KeptW W, x.v.cell? ⟨0, 0, none⟩ = some (.int .i64 2000) := fun x => x.cell hsW.a0
  have l1 : ∀ x : KeptW W, x.v.cell? ⟨0, 1, none⟩ = some (.string ⟨#[83]⟩) := fun x => x.cell hsW.a1
  have hne : Nonempty (KeptW W) := ⟨⟨W, Below.refl _ _⟩⟩
  have hsb := ws_ne
  have hsw := ww_eq
  refine tail_kept 6 (by kernel_rfl) (by kernel_rfl) ?_
  simp only [List.take_succ_cons, List.take_zero, List.drop_succ_cons, List.drop_zero]
  have hcase : (y == 2000) = false ∨ y = 2000 := by
    by_cases e : y = 2000
    · exact .inr e
    · exact .inl (by simpa using e)
  rcases hcase with hyb | rfl
  all_goals
    go_big_quiet_step (fail)
    go_big_quiet_step (exact KeptW.calls (CheckSeason_any _ _ _))
    iterate 3 (go_big_quiet_step (fail))
    go_big_quiet_step (exact KeptW.calls_same (unless_t _ _))
    refine wpQuiet_nil ?_
    rintro _ ⟨x, rfl⟩
    have R1 := R0.more (by omega) x.below
    have k0' := k0 x
    have k1' := k1 x
    clear k0 k1 l0 l1
    go_wp2_with fail
    refine (fe_new [_, _] _ _ _ _ _ rfl rfl (by simp)).mono ?_
    rintro e w2 ⟨rfl, hw⟩
    have hb2 : Below x.v.heap.size x.v w2 := by rw [hw]; exact below_alloc _ _
    have R2 := R1.more (R1.pos (by decide)) hb2
    have m0 := b_old hb2 k0'
    have m1 := b_old hb2 k1'
    rw [HE.out, show fst [0, 0] = 0 from rfl]
    clear hw hb2 k0' k1' R1
    obtain ⟨v0, q0⟩ := R2.cell 0 (by decide)
    obtain ⟨v1, q1⟩ := R2.cell 1 (by decide)
    have qf0 := R2.frozen 0 (by decide)
    have qf1 := R2.frozen 1 (by decide)
    go_wp2_with fail
    exact bodyPost_ret (v := .tuple #[.agg #[.int .i64 _, .string ⟨#[83]⟩], .int .i64 0]) (by simp [results, Tryd.results36, go_sem, q0, q1]) rfl ⟨rfl, hb0.trans (((R2.set 0 _).set 1 _).below.mono (by omega))⟩
set_option maxRecDepth 100000 in
set_option maxHeartbeats 1000000 in
theorem Prev_S (y : Int) (w : World) (hs : HeldSea w) (h1 : 2001 ≤ y) (h2 : y ≤ 2272) :
    Calls Tryd.prog 36 #[.agg #[.int .i64 y, .string bS]] w fun r w' => r = .returned (.tuple #[.agg #[.int .i64 (y - 1), .string ⟨#[87]⟩], .int .i64 0]) ∧ Below w.heap.size w w' := by
  have HE : Hid (seasonErr y bS = 0) := Lib.hid (sea_zero (by omega) h2 kind_bS)
  obtain ⟨W, HW, hb0, hc0, hc1, R0, hsz⟩ := two_sea w y bS
  have hsW := hs.below hb0
  go_enter Tryd.func36, Tryd.ntmps36
  go_wp2_with fail
  rw [HW.out]
  have k0 : ∀ x : KeptW W, x.v.cell? ⟨w.heap.size, 0, none⟩ = some (.int .i64 y) := fun x => x.cell hc0
  have k1 : ∀ x : KeptW W, x.v.cell? ⟨w.heap.size, 1, none⟩ = some (.string bS) := fun x => x.cell hc1
  have l0 : ∀ x : KeptW W, x.v.cell? ⟨0, 0, none⟩ = some (.int .i64 2000) := fun x => x.cell hsW.a0
  have l1 : ∀ x : KeptW W, x.v.cell? ⟨0, 1, none⟩ = some (.string ⟨#[83]⟩) := fun x => x.cell hsW.a1
  have hne : Nonempty (KeptW W) := ⟨⟨W, Below.refl _ _⟩⟩
  have hsb := sw_ne
  refine tail_kept 6 (by kernel_rfl) (by kernel_rfl) ?_
  simp only [List.take_succ_cons, List.take_zero, List.drop_succ_cons, List.drop_zero]
  have hyb : (y == 2000) = false := by rw [beq_eq_false_iff_ne]; omega
  go_big_quiet_step (fail)
  go_big_quiet_step (exact KeptW.calls (CheckSeason_any _ _ _))
  iterate 3 (go_big_quiet_step (fail))
  go_big_quiet_step (exact KeptW.calls_same (unless_t _ _))
  refine wpQuiet_nil ?_
  rintro _ ⟨x, rfl⟩
  have R1 := R0.more (by omega) x.below
  have k0' := k0 x
  have k1' := k1 x
  clear k0 k1 l0 l1
  go_wp2_with fail
  refine (fe_new [_, _] _ _ _ _ _ rfl rfl (by simp)).mono ?_
  rintro e w2 ⟨rfl, hw⟩
  have hb2 : Below x.v.heap.size x.v w2 := by rw [hw]; exact below_alloc _ _
  have R2 := R1.more (R1.pos (by decide)) hb2
  have m0 := b_old hb2 k0'
  have m1 := b_old hb2 k1'
  rw [HE.out, show fst [0, 0] = 0 from rfl]
  clear hw hb2 k0' k1' R1
  have hsb2 : (bS.toList == [87]) = false := by decide +kernel
  obtain ⟨v0, q0⟩ := R2.cell 0 (by decide)
  obtain ⟨v1, q1⟩ := R2.cell 1 (by decide)
  have qf0 := R2.frozen 0 (by decide)
  have qf1 := R2.frozen 1 (by decide)
  go_wp2_with fail
  exact bodyPost_ret (v := .tuple #[.agg #[.int .i64 (y - 1), .string ⟨#[87]⟩], .int .i64 0]) (by simp [results, Tryd.results36, go_sem, q0, q1]) rfl ⟨rfl, hb0.trans (((R2.set 0 _).set 1 _).below.mono (by omega))⟩
end Go.Proofs.YtoaimgfekbnijaaDoor
