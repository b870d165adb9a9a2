/- Contracts: the reference's seasons. -/
import Derived.Test.YtijnabgehlkghaaGreatDoorTileC
import Derived.Test.YtijnabgehlkghaaGreatDoorRefDays
namespace Go.Proofs.YtijnabgehlkghaaGreatDoor
open Go Go.RowKit
theorem S_yes : (bS.toList == [83]) = true := by decide +kernel
theorem W_no : (bW.toList == [83]) = false := by decide +kernel
theorem S_no : (bS.toList == [87]) = false := by decide +kernel
theorem W_yes : (bW.toList == [87]) = true := by decide +kernel
theorem qLastSunday_any (y : Int) (m : Nat) (w : World) (h1 : 2000 ≤ y) (h2 : y ≤ 2300) (m1 : 1 ≤ m) (m2 : m ≤ 12) :
    Calls Tryz.prog 100 #[.int .i64 y, .int .i64 m] w fun r w' => r = .returned (.int .i64 (Cal.ls y m)) ∧ w' = w := by
  have hdn := Cal.dn_bd y m 31 h1 h2 m2 (by omega) (by omega)
  have hlo : 30 ≤ Cal.dn y m 31 := by
    have a := Cal.db_bd y h1 (by omega)
    have b := Cal.cum_bd y (m - 1) (by omega)
    unfold Cal.dn; omega
  have HL : Hid (Cal.ls y m = Cal.dn y m 31 - (Cal.wd (Cal.dn y m 31) - 6 + 7) % 7) := Lib.hid rfl
  go_enter Tryz.func100, Tryz.ntmps100
  go_wp2_with fail
  refine (qDay_any y 31 m _ h1 h2 m1 m2 (by omega) (by omega)).mono ?_
  rintro e w1 ⟨rfl, hw⟩
  rw [hw]
  clear hw
  generalize Cal.dn y m 31 = n at *
  go_wp2_with fail
  go_loop [5] (fun i => ∃ j : Nat, (j : Int) ≤ (Cal.wd n - 6 + 7) % 7 ∧ i = .int .i64 (n - j)) (fun i => (intOf i).toNat)
  case atStart => exact ⟨0, by have := Cal.wd_bd n; omega, by simp⟩
  case round =>
    obtain ⟨j, hj, rfl⟩ := hrel
    have hw := Cal.wd_bd n
    by_cases hlt : (j : Int) < (Cal.wd n - 6 + 7) % 7
    · have hne : (Cal.wd (n - j) != 6) = true := by rw [bne_iff_ne]; unfold Cal.wd at *; omega
      go_wp2_with fail
      refine (qWeekday_any (n - j) _ (by omega) (by omega)).mono ?_
      rintro e w2 ⟨rfl, hw2⟩
      rw [hw2]
      clear hw2
      go_wp2_with fail
      go_round
      case rel => exact ⟨j + 1, by omega, by go_num⟩
      case measure => simp [intOf]; omega
    · have hj2 : (j : Int) = (Cal.wd n - 6 + 7) % 7 := by omega
      have hne : Cal.wd (n - j) = 6 := by unfold Cal.wd at *; omega
      have HE : Hid (n - (j : Int) = n - (Cal.wd n - 6 + 7) % 7) := Lib.hid (by rw [hj2])
      have hj6 : (j : Int) ≤ 6 := by omega
      clear hj2 hj hlt
      go_wp2_with fail
      refine (qWeekday_any (n - j) _ (by omega) (by omega)).mono ?_
      rintro e w2 ⟨rfl, hw2⟩
      rw [hw2, hne]
      clear hw2
      go_wp2_with fail
      go_ret
      exact ⟨ret_int (by rw [HL.out, HE.out]), rfl⟩
theorem qsea_box (w : World) (y : Int) (s : ByteArray) : ∃ W, Hid ((w.alloc (.cells #[.int .i64 y, .string s] 62)).alloc (.cells #[.int .i64 0, .int .i64 0, .int .i64 0] 45) = W) ∧ Below w.heap.size w W ∧
      W.cell? ⟨w.heap.size, 0, none⟩ = some (.int .i64 y) ∧ W.cell? ⟨w.heap.size, 1, none⟩ = some (.string s) ∧ Res 3 (w.heap.size + 1) W W ∧ w.heap.size + 2 ≤ W.heap.size :=
    ⟨_, Lib.hid rfl, below_alloc2 w _ _, by simp, by simp, ⟨fun i hi => by
        match i, hi with
        | 0, _ => exact ⟨.int .i64 0, by simp⟩
        | 1, _ => exact ⟨.int .i64 0, by simp⟩
        | 2, _ => exact ⟨.int .i64 0, by simp⟩, fun i hi => by
        match i, hi with
        | 0, _ => simp
        | 1, _ => simp
        | 2, _ => simp, Below.refl _ _⟩, by simp⟩
set_option maxRecDepth 100000 in
set_option maxHeartbeats 1000000 in
theorem qSpan_S (y : Int) (w : World) (h1 : 2000 ≤ y) (h2 : y ≤ 2272) :
    Calls Tryz.prog 48 #[.agg #[.int .i64 y, .string bS]] w fun r w' => r = .returned (.agg #[.int .i64 (Cal.ls y 3), .int .i64 (Cal.ls y 10 - 1), .int .i64 127]) ∧ Below w.heap.size w w' := by
  have hb1 := ls_bd y 3 h1 (by omega) (by omega)
  have hb2 := ls_bd y 10 h1 (by omega) (by omega)
  have H3 := Lib.hid (fun w => qLastSunday_any y 3 w h1 (by omega) (by omega) (by omega))
  have H10 := Lib.hid (fun w => qLastSunday_any y 10 w h1 (by omega) (by omega) (by omega))
  generalize Cal.ls y 3 = f at *
  generalize Cal.ls y 10 = l at *
  obtain ⟨W, HW, hb0, hc0, hc1, R0, hsz⟩ := qsea_box w y bS
  have hsy := S_yes
  go_enter Tryz.func48, Tryz.ntmps48
  go_wp2_with fail
  rw [HW.out]
  have k0 : ∀ x : KeptW W, x.v.cell? ⟨w.heap.size, 0, none⟩ = some (.int .i64 y) := fun x => x.cell hc0
  have hne : Nonempty (KeptW W) := ⟨⟨W, Below.refl _ _⟩⟩
  refine tail_kept 8 (by kernel_rfl) (by kernel_rfl) ?_
  simp only [List.take_succ_cons, List.take_zero, List.drop_succ_cons, List.drop_zero]
  iterate 2 (go_big_quiet_step (fail))
  go_big_quiet_step (exact KeptW.calls_same (H3.out _))
  iterate 2 (go_big_quiet_step (fail))
  go_big_quiet_step (exact KeptW.calls_same (H10.out _))
  iterate 2 (go_big_quiet_step (fail))
  refine wpQuiet_nil ?_
  rintro _ ⟨x, rfl⟩
  have R1 := R0.more (by omega) x.below
  clear k0
  obtain ⟨v0, q0⟩ := R1.cell 0 (by decide)
  obtain ⟨v1, q1⟩ := R1.cell 1 (by decide)
  obtain ⟨v2, q2⟩ := R1.cell 2 (by decide)
  have g0 := R1.frozen 0 (by decide)
  have g1 := R1.frozen 1 (by decide)
  have g2 := R1.frozen 2 (by decide)
  go_wp2_with fail
  exact bodyPost_ret (v := .agg #[.int .i64 f, .int .i64 (l - 1), .int .i64 127]) (by simp [results, Tryz.results48, go_sem, q0, q1, q2]) rfl ⟨rfl, hb0.trans ((((R1.set 0 _).set 1 _).set 2 _).below.mono (by omega))⟩
set_option maxRecDepth 100000 in
set_option maxHeartbeats 1000000 in
theorem qSpan_W (y : Int) (w : World) (h1 : 2000 ≤ y) (h2 : y ≤ 2272) :
    Calls Tryz.prog 48 #[.agg #[.int .i64 y, .string bW]] w fun r w' => r = .returned (.agg #[.int .i64 (Cal.ls y 10), .int .i64 (Cal.ls (y + 1) 3 - 1), .int .i64 127]) ∧ Below w.heap.size w w' := by
  have hb1 := ls_bd (y + 1) 3 (by omega) (by omega) (by omega)
  have hb2 := ls_bd y 10 h1 (by omega) (by omega)
  have H3 := Lib.hid (fun w => qLastSunday_any (y + 1) 3 w (by omega) (by omega) (by omega) (by omega))
  have H10 := Lib.hid (fun w => qLastSunday_any y 10 w h1 (by omega) (by omega) (by omega))
  generalize Cal.ls (y + 1) 3 = l at *
  generalize Cal.ls y 10 = f at *
  obtain ⟨W, HW, hb0, hc0, hc1, R0, hsz⟩ := qsea_box w y bW
  have hsy := W_no
  go_enter Tryz.func48, Tryz.ntmps48
  go_wp2_with fail
  rw [HW.out]
  have k0 : ∀ x : KeptW W, x.v.cell? ⟨w.heap.size, 0, none⟩ = some (.int .i64 y) := fun x => x.cell hc0
  have hne : Nonempty (KeptW W) := ⟨⟨W, Below.refl _ _⟩⟩
  refine tail_kept 9 (by kernel_rfl) (by kernel_rfl) ?_
  simp only [List.take_succ_cons, List.take_zero, List.drop_succ_cons, List.drop_zero]
  iterate 2 (go_big_quiet_step (fail))
  go_big_quiet_step (exact KeptW.calls_same (H10.out _))
  iterate 3 (go_big_quiet_step (fail))
  go_big_quiet_step (exact KeptW.calls_same (H3.out _))
  iterate 2 (go_big_quiet_step (fail))
  refine wpQuiet_nil ?_
  rintro _ ⟨x, rfl⟩
  have R1 := R0.more (by omega) x.below
  clear k0
  obtain ⟨v0, q0⟩ := R1.cell 0 (by decide)
  obtain ⟨v1, q1⟩ := R1.cell 1 (by decide)
  obtain ⟨v2, q2⟩ := R1.cell 2 (by decide)
  have g0 := R1.frozen 0 (by decide)
  have g1 := R1.frozen 1 (by decide)
  have g2 := R1.frozen 2 (by decide)
  go_wp2_with fail
  exact bodyPost_ret (v := .agg #[.int .i64 f, .int .i64 (l - 1), .int .i64 127]) (by simp [results, Tryz.results48, go_sem, q0, q1, q2]) rfl ⟨rfl, hb0.trans ((((R1.set 0 _).set 1 _).set 2 _).below.mono (by omega))⟩
theorem sea_days_S (y : Int) : fDay y bS = Cal.ls y 3 ∧ lDay y bS = Cal.ls y 10 - 1 := by
  have h1 : isS bS = true := isS_bS
  have h2 : isS bW = false := isS_bW
  refine ⟨by unfold fDay; rw [if_pos h1], ?_⟩
  unfold lDay follY follK
  rw [if_pos h1, if_pos h1]
  show fDay y bW - 1 = _
  unfold fDay
  rw [if_neg (by rw [h2]; decide)]
theorem sea_days_W (y : Int) : fDay y bW = Cal.ls y 10 ∧ lDay y bW = Cal.ls (y + 1) 3 - 1 := by
  have h1 : isS bS = true := isS_bS
  have h2 : isS bW = false := isS_bW
  refine ⟨by unfold fDay; rw [if_neg (by rw [h2]; decide)], ?_⟩
  unfold lDay follY follK
  rw [if_neg (by rw [h2]; decide), if_neg (by rw [h2]; decide)]
  show fDay (y + 1) bS - 1 = _
  unfold fDay
  rw [if_pos h1]
theorem qSpan_ok (y : Int) (s : ByteArray) (w : World) (h1 : 2000 ≤ y) (h2 : y ≤ 2272) (hk : s = bS ∨ s = bW) :
    Calls Tryz.prog 48 #[.agg #[.int .i64 y, .string s]] w fun r w' => r = .returned (.agg #[.int .i64 (fDay y s), .int .i64 (lDay y s), .int .i64 127]) ∧ Below w.heap.size w w' := by
  rcases hk with rfl | rfl
  · rw [(sea_days_S y).1, (sea_days_S y).2]; exact qSpan_S y w h1 h2
  · rw [(sea_days_W y).1, (sea_days_W y).2]; exact qSpan_W y w h1 h2
def qnextV (y : Int) (s : ByteArray) : Int × ByteArray × Bool := if isS s = true then (y, ⟨#[87]⟩, true) else if y = 2272 then (0, ⟨#[]⟩, false) else (y + 1, ⟨#[83]⟩, true)
def qprevV (y : Int) (s : ByteArray) : Int × ByteArray × Bool := if isW s = true then (y, ⟨#[83]⟩, true) else if y = 2000 then (0, ⟨#[]⟩, false) else (y - 1, ⟨#[87]⟩, true)
set_option maxRecDepth 100000 in
theorem qNext_ok (y : Int) (s : ByteArray) (w : World) (h1 : 2000 ≤ y) (h2 : y ≤ 2272) :
    Calls Tryz.prog 49 #[.agg #[.int .i64 y, .string s]] w fun r w' => r = .returned (.tuple #[.agg #[.int .i64 (qnextV y s).1, .string (qnextV y s).2.1], .bool (qnextV y s).2.2]) ∧ Below w.heap.size w w' := by
  cases hS : (s.toList == [83])
  · by_cases hy : y = 2272
    · subst hy
      have HV : Hid (qnextV 2272 s = (0, ⟨#[]⟩, false)) := Lib.hid (by simp [qnextV, isS, hS])
      go_enter Tryz.func49, Tryz.ntmps49
      go_wp2_with fail
      exact bodyPost_ret (v := .tuple #[.agg #[.int .i64 0, .string ⟨#[]⟩], .bool false]) (by simp [results, Tryz.results49, go_sem]) rfl ⟨by rw [HV.out], below_alloc2 w _ _⟩
    · have HV : Hid (qnextV y s = (y + 1, ⟨#[83]⟩, true)) := Lib.hid (by simp [qnextV, isS, hS, hy])
      have hyb : (y == 2272) = false := by simpa using hy
      clear hy
      go_enter Tryz.func49, Tryz.ntmps49
      go_wp2_with fail
      exact bodyPost_ret (v := .tuple #[.agg #[.int .i64 (y + 1), .string ⟨#[83]⟩], .bool true]) (by simp [results, Tryz.results49, go_sem]) rfl ⟨by rw [HV.out], below_alloc2 w _ _⟩
  · have HV : Hid (qnextV y s = (y, ⟨#[87]⟩, true)) := Lib.hid (by simp [qnextV, isS, hS])
    go_enter Tryz.func49, Tryz.ntmps49
    go_wp2_with fail
    exact bodyPost_ret (v := .tuple #[.agg #[.int .i64 y, .string ⟨#[87]⟩], .bool true]) (by simp [results, Tryz.results49, go_sem]) rfl ⟨by rw [HV.out], below_alloc2 w _ _⟩
set_option maxRecDepth 100000 in
theorem qPrev_ok (y : Int) (s : ByteArray) (w : World) (h1 : 2000 ≤ y) (h2 : y ≤ 2272) :
    Calls Tryz.prog 50 #[.agg #[.int .i64 y, .string s]] w fun r w' => r = .returned (.tuple #[.agg #[.int .i64 (qprevV y s).1, .string (qprevV y s).2.1], .bool (qprevV y s).2.2]) ∧ Below w.heap.size w w' := by
  cases hS : (s.toList == [87])
  · by_cases hy : y = 2000
    · subst hy
      have HV : Hid (qprevV 2000 s = (0, ⟨#[]⟩, false)) := Lib.hid (by simp [qprevV, isW, hS])
      go_enter Tryz.func50, Tryz.ntmps50
      go_wp2_with fail
      exact bodyPost_ret (v := .tuple #[.agg #[.int .i64 0, .string ⟨#[]⟩], .bool false]) (by simp [results, Tryz.results50, go_sem]) rfl ⟨by rw [HV.out], below_alloc2 w _ _⟩
    · have HV : Hid (qprevV y s = (y - 1, ⟨#[87]⟩, true)) := Lib.hid (by simp [qprevV, isW, hS, hy])
      have hyb : (y == 2000) = false := by simpa using hy
      clear hy
      go_enter Tryz.func50, Tryz.ntmps50
      go_wp2_with fail
      exact bodyPost_ret (v := .tuple #[.agg #[.int .i64 (y - 1), .string ⟨#[87]⟩], .bool true]) (by simp [results, Tryz.results50, go_sem]) rfl ⟨by rw [HV.out], below_alloc2 w _ _⟩
  · have HV : Hid (qprevV y s = (y, ⟨#[83]⟩, true)) := Lib.hid (by simp [qprevV, isW, hS])
    go_enter Tryz.func50, Tryz.ntmps50
    go_wp2_with fail
    exact bodyPost_ret (v := .tuple #[.agg #[.int .i64 y, .string ⟨#[83]⟩], .bool true]) (by simp [results, Tryz.results50, go_sem]) rfl ⟨by rw [HV.out], below_alloc2 w _ _⟩
end Go.Proofs.YtijnabgehlkghaaGreatDoor
