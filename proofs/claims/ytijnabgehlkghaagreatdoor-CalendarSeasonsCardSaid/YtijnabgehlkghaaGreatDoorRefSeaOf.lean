/- Contracts: the reference's season of a day. -/
import Derived.Test.YtijnabgehlkghaaGreatDoorRefSea
namespace Go.Proofs.YtijnabgehlkghaaGreatDoor
open Go Go.RowKit Go.Shelf
theorem hasB_127 (a b d : Int) : hasB a b (127 : Nat) d = (decide (a ≤ d) && decide (d ≤ b)) := by
  have hw := Cal.wd_bd d
  have h : inM (127 : Nat) d = true := by
    rw [inM_bit]
    have hk : (Cal.wd d).toNat < 7 := by omega
    generalize (Cal.wd d).toNat = k at hk
    match k, hk with
    | 0, _ | 1, _ | 2, _ | 3, _ | 4, _ | 5, _ | 6, _ => rfl
  unfold hasB
  rw [h, Bool.and_true]
def inSea (d Y : Int) (s : ByteArray) : Bool := decide (fDay Y s ≤ d) && decide (d ≤ lDay Y s)
theorem inSea_iff {d Y : Int} {s : ByteArray} : inSea d Y s = true ↔ fDay Y s ≤ d ∧ d ≤ lDay Y s := by simp [inSea]
theorem ls3_bd (y : Int) : Cal.db y + 83 ≤ Cal.ls y 3 ∧ Cal.ls y 3 ≤ Cal.db y + 90 := by
  have h := Cal.cum_2 y
  have hl := Cal.lv_bd y
  unfold Cal.ls Cal.dn
  rw [show (3 - 1 : Nat) = 2 from rfl, h]
  omega
theorem ls10_bd (y : Int) : Cal.db y + 297 ≤ Cal.ls y 10 ∧ Cal.ls y 10 ≤ Cal.db y + 304 := by
  have h := Cal.cum_9 y
  have hl := Cal.lv_bd y
  unfold Cal.ls Cal.dn
  rw [show (10 - 1 : Nat) = 9 from rfl, h]
  omega
/-- The season of a day, as the reference finds it. -/
def seaRef (d yy : Int) : Int × ByteArray × Bool := if 85 ≤ d ∧ d ≤ 99799 then (seaY d yy, seaK d yy, true) else (0, ⟨#[]⟩, false)
theorem sea_found {d yy Y : Int} {s : ByteArray} (hd1 : Cal.db yy ≤ d) (hd2 : d < Cal.db (yy + 1)) (h1 : 2000 ≤ Y) (h2 : Y ≤ 2272) (hk : s = bS ∨ s = bW) (hin : inSea d Y s = true) : seaRef d yy = (Y, s, true) := by
  obtain ⟨i1, i2⟩ := inSea_iff.1 hin
  have f := seaF h1 h2 hk
  obtain ⟨z, z1, z2, b1, b2, e1, e2⟩ := sea_in h1 h2 hk i1 i2
  have hz : z = yy := by
    have a : ¬ z < yy := fun h => by have := Cal.db_mono (z + 1) yy (by omega); omega
    have b : ¬ yy < z := fun h => by have := Cal.db_mono (yy + 1) z (by omega); omega
    omega
  subst hz
  unfold seaRef
  rw [if_pos ⟨by have := f.lo; omega, by have := f.hi; omega⟩, e1, e2]
theorem sea_none {d yy lo hi : Int} (hy1 : 2000 ≤ yy) (hy2 : yy ≤ 2273) (hd1 : Cal.db yy ≤ d) (hd2 : d < Cal.db (yy + 1)) (hlo : lo = max 2000 (yy - 1)) (hhi : hi = min 2272 yy)
    (hno : ∀ z : Int, lo ≤ z → z ≤ hi → inSea d z bS = false ∧ inSea d z bW = false) : seaRef d yy = (0, ⟨#[]⟩, false) := by
  unfold seaRef
  rw [if_neg]
  rintro ⟨h1, h2⟩
  have b3 := ls3_bd yy
  have b10 := ls10_bd yy
  by_cases c1 : d < Cal.ls yy 3
  · have hne : yy ≠ 2000 := fun e => by
      have : Cal.ls 2000 3 = 85 := by decide
      rw [e] at c1; omega
    have b := ls10_bd (yy - 1)
    have hs := Cal.db_succ (yy - 1)
    have hl := Cal.lv_bd (yy - 1)
    rw [show yy - 1 + 1 = yy by omega] at hs
    have hx : inSea d (yy - 1) bW = true := inSea_iff.2 (by
      rw [(sea_days_W (yy - 1)).1, (sea_days_W (yy - 1)).2, show yy - 1 + 1 = yy by omega]; omega)
    have := (hno (yy - 1) (by omega) (by omega)).2
    rw [hx] at this; cases this
  · have hne : yy ≠ 2273 := fun e => by
      have : Cal.ls 2273 3 = 99800 := by decide
      rw [e] at c1; omega
    by_cases c2 : d < Cal.ls yy 10
    · have hx : inSea d yy bS = true := inSea_iff.2 (by rw [(sea_days_S yy).1, (sea_days_S yy).2]; omega)
      have := (hno yy (by omega) (by omega)).1
      rw [hx] at this; cases this
    · have b := ls3_bd (yy + 1)
      have hx : inSea d yy bW = true := inSea_iff.2 (by rw [(sea_days_W yy).1, (sea_days_W yy).2]; omega)
      have := (hno yy (by omega) (by omega)).2
      rw [hx] at this; cases this
theorem sea_lo {Y : Int} {s : ByteArray} (h1 : 2000 ≤ Y) (h2 : Y ≤ 2272) (hk : s = bS ∨ s = bW) : 0 ≤ fDay Y s ∧ lDay Y s ≤ 99999 := by
  have f := seaF h1 h2 hk
  exact ⟨by have := f.lo; omega, by have := f.hi; omega⟩
theorem qHas_sea (d Y : Int) (s : ByteArray) (w : World) (h1 : 2000 ≤ Y) (h2 : Y ≤ 2272) (hk : s = bS ∨ s = bW) :
    Calls Tryz.prog 39 #[.agg #[.int .i64 (fDay Y s), .int .i64 (lDay Y s), .int .i64 127], .int .i64 d] w fun r w' => r = .returned (.bool (inSea d Y s)) ∧ Below w.heap.size w w' := by
  obtain ⟨l1, l2⟩ := sea_lo h1 h2 hk
  have := qHas_any (fDay Y s) (lDay Y s) d 127 w l1 l2 (by decide)
  rw [hasB_127] at this
  exact this
theorem run_index_arr3 (a b c : Int) (w : World) : (Instr.index 22 (.agg #[.int .i64 a, .int .i64 b, .int .i64 c]) (.int .i64 0)).run Tryz.prog w = .ok (.int .i64 a) w := by
  have hs : (sizeOf 3).run Tryz.prog w = .ok 1 w := Tryz.sizeOf3 w
  simp [Instr.index, asIntOf, run_underlying Tryz.underlying22, hs, part]
attribute [local go_sem] run_index_arr3
set_option maxRecDepth 100000 in
set_option maxHeartbeats 2000000 in
theorem qSeasonOf_any (d yy t : Int) (m : Nat) (w : World) (h0 : 0 ≤ d) (h1 : d ≤ 99999) (hdt : IsDate d yy m t) :
    Calls Tryz.prog 51 #[.int .i64 d] w fun r w' => r = .returned (.tuple #[.agg #[.int .i64 (seaRef d yy).1, .string (seaRef d yy).2.1], .bool (seaRef d yy).2.2]) ∧ Below w.heap.size w w' := by
  have HDT := Lib.hid hdt
  have hy1 := hdt.y1; have hy2 := hdt.y2
  have HFND : Hid (∀ (Y : Int) (s : ByteArray), 2000 ≤ Y → Y ≤ 2272 → (s = bS ∨ s = bW) → inSea d Y s = true → seaRef d yy = (Y, s, true)) := Lib.hid (fun Y s a b c e => sea_found hdt.d1 hdt.d2 a b c e)
  obtain ⟨lo, hlo⟩ : ∃ lo, lo = max 2000 (yy - 1) := ⟨_, rfl⟩
  obtain ⟨hi, hhi⟩ : ∃ hi, hi = min 2272 yy := ⟨_, rfl⟩
  have HNO : Hid ((∀ z : Int, lo ≤ z → z ≤ hi → inSea d z bS = false ∧ inSea d z bW = false) → seaRef d yy = (0, ⟨#[]⟩, false)) := Lib.hid (fun h => sea_none hy1 hy2 hdt.d1 hdt.d2 hlo hhi h)
  have hl1 : 2000 ≤ lo := by omega
  have hh1 : hi ≤ 2272 := by omega
  have hlh : lo ≤ hi + 1 := by omega
  have HLO := Lib.hid hlo.symm
  have HHI := Lib.hid hhi.symm
  clear hdt hlo hhi
  obtain ⟨W, HW, hb0, R0, hsz⟩ : ∃ W, Hid (w.alloc (.cells #[.int .i64 0, .string ⟨#[]⟩] 62) = W) ∧ Below w.heap.size w W ∧ Res 2 w.heap.size W W ∧ w.heap.size + 1 ≤ W.heap.size :=
    ⟨_, Lib.hid rfl, below_alloc w _, ⟨fun i hi => by
        match i, hi with
        | 0, _ => exact ⟨.int .i64 0, by simp⟩
        | 1, _ => exact ⟨.string ⟨#[]⟩, by simp⟩, fun i hi => by
        match i, hi with
        | 0, _ => simp
        | 1, _ => simp, Below.refl _ _⟩, by simp⟩
  go_enter Tryz.func51, Tryz.ntmps51
  go_wp2_with fail
  rw [HW.out]
  refine (qDate_any d yy t m _ h0 h1 HDT.out).mono ?_
  rintro e w1 ⟨rfl, hb1⟩
  have R1 := R0.more (by omega) hb1
  have hs1 : w.heap.size + 1 ≤ w1.heap.size := Nat.le_trans hsz hb1.size
  clear hb1 R0
  go_wp2_with fail
  rw [HLO.out]
  go_loopw [3, 5, 6, 7] (fun _ y _ _ wr => ∃ Y : Int, lo ≤ Y ∧ Y ≤ hi + 1 ∧ y = .int .i64 Y ∧ Hid (∀ z : Int, lo ≤ z → z < Y → inSea d z bS = false ∧ inSea d z bW = false) ∧ Res 2 w.heap.size W wr ∧ w.heap.size + 1 ≤ wr.heap.size) (fun _ y _ _ _ => (hi + 1 - intOf y).toNat)
  case atStart => exact ⟨lo, by omega, by omega, rfl, Lib.hid (fun z a b => by omega), R1, hs1⟩
  case round =>
    obtain ⟨Y, hY1, hY2, rfl, HP, Rr, hsr⟩ := hrel
    by_cases hlt : Y ≤ hi
    · have hle : Y ≤ min 2272 yy := by rw [HHI.out]; exact hlt
      have hle1 : Y ≤ 2272 := by omega
      have hle2 : Y ≤ yy := by omega
      go_wp2_with fail
      go_loopw [3, 6, 7] (fun _ k _ wr => ∃ j : Nat, j ≤ 2 ∧ k = .int .i64 j ∧ Hid ((1 ≤ j → inSea d Y bS = false) ∧ (2 ≤ j → inSea d Y bW = false)) ∧ Res 2 w.heap.size W wr ∧ w.heap.size + 1 ≤ wr.heap.size) (fun _ k _ _ => 2 - (intOf k).toNat)
      case atStart => exact ⟨0, by omega, rfl, Lib.hid ⟨fun h => by omega, fun h => by omega⟩, Rr, hsr⟩
      case round =>
        obtain ⟨j, hj, rfl, HQ, R2, hs2⟩ := hrel
        have hj3 : j = 0 ∨ j = 1 ∨ j = 2 := by omega
        rcases hj3 with rfl | rfl | rfl
        · cases hin : inSea d Y bS
          all_goals
            have HI := Lib.hid hin
            clear hin
            go_upto_region 9 with (fail)
            go_name_world V hV
            have c0 : V.cell? ⟨wr.heap.size, 0, none⟩ = some (.int .i64 Y) := by rw [← hV]; simp
            have c1 : V.cell? ⟨wr.heap.size, 1, none⟩ = some (.string bS) := by rw [← hV]; simp [bS] <;> first | rfl | decide +kernel
            have hbV : Below wr.heap.size wr V := by rw [← hV]; exact below_alloc _ _
            have RV := R2.more (by omega) hbV
            have hsV : w.heap.size + 1 ≤ V.heap.size := Nat.le_trans hs2 hbV.size
            clear hV hbV
            go_wp2_with fail
            refine (qSpan_ok Y bS _ (by omega) (by omega) (.inl rfl)).mono ?_
            rintro e w4 ⟨rfl, hb4⟩
            replace c0 := b_old hb4 c0; replace c1 := b_old hb4 c1
            have R4 := RV.more (by omega) hb4
            have hs4 : w.heap.size + 1 ≤ w4.heap.size := Nat.le_trans hsV hb4.size
            clear hb4
            go_wp2_with fail
            refine (qHas_sea d Y bS _ (by omega) (by omega) (.inl rfl)).mono ?_
            rintro e w5 ⟨rfl, hb5⟩
            replace c0 := b_old hb5 c0; replace c1 := b_old hb5 c1
            have R5 := R4.more (by omega) hb5
            have hs5 : w.heap.size + 1 ≤ w5.heap.size := Nat.le_trans hs4 hb5.size
            clear hb5
            rw [HI.out]
            obtain ⟨v0, q0⟩ := R5.cell 0 (by decide)
            obtain ⟨v1, q1⟩ := R5.cell 1 (by decide)
            have qf0 := R5.frozen 0 (by decide)
            have qf1 := R5.frozen 1 (by decide)
          · go_wp2_with fail
            go_roundw
            case rel => exact ⟨(1 : Nat), by omega, by go_num, Lib.hid (by refine ⟨fun _ => ?_, fun h => ?_⟩ <;> first | trivial | exact HI.out | exact HQ.out.1 (by decide) | exact absurd h (by decide)), R5, hs5⟩
            case measure => simp [intOf]
          · have HV := Lib.hid (HFND.out Y bS (by omega) (by omega) (.inl rfl) HI.out)
            go_wp2_with fail
            exact bodyPost_ret (v := .tuple #[.agg #[.int .i64 Y, .string bS], .bool true]) (by simp [results, Tryz.results51, go_sem, q0, q1]) rfl ⟨by rw [HV.out], hb0.trans (((R5.set 0 _).set 1 _).below)⟩
        · cases hin : inSea d Y bW
          all_goals
            have HI := Lib.hid hin
            clear hin
            go_upto_region 9 with (fail)
            go_name_world V hV
            have c0 : V.cell? ⟨wr.heap.size, 0, none⟩ = some (.int .i64 Y) := by rw [← hV]; simp
            have c1 : V.cell? ⟨wr.heap.size, 1, none⟩ = some (.string bW) := by rw [← hV]; simp [bW] <;> first | rfl | decide +kernel
            have hbV : Below wr.heap.size wr V := by rw [← hV]; exact below_alloc _ _
            have RV := R2.more (by omega) hbV
            have hsV : w.heap.size + 1 ≤ V.heap.size := Nat.le_trans hs2 hbV.size
            clear hV hbV
            go_wp2_with fail
            refine (qSpan_ok Y bW _ (by omega) (by omega) (.inr rfl)).mono ?_
            rintro e w4 ⟨rfl, hb4⟩
            replace c0 := b_old hb4 c0; replace c1 := b_old hb4 c1
            have R4 := RV.more (by omega) hb4
            have hs4 : w.heap.size + 1 ≤ w4.heap.size := Nat.le_trans hsV hb4.size
            clear hb4
            go_wp2_with fail
            refine (qHas_sea d Y bW _ (by omega) (by omega) (.inr rfl)).mono ?_
            rintro e w5 ⟨rfl, hb5⟩
            replace c0 := b_old hb5 c0; replace c1 := b_old hb5 c1
            have R5 := R4.more (by omega) hb5
            have hs5 : w.heap.size + 1 ≤ w5.heap.size := Nat.le_trans hs4 hb5.size
            clear hb5
            rw [HI.out]
            obtain ⟨v0, q0⟩ := R5.cell 0 (by decide)
            obtain ⟨v1, q1⟩ := R5.cell 1 (by decide)
            have qf0 := R5.frozen 0 (by decide)
            have qf1 := R5.frozen 1 (by decide)
          · go_wp2_with fail
            go_roundw
            case rel => exact ⟨(2 : Nat), by omega, by go_num, Lib.hid (by refine ⟨fun _ => ?_, fun h => ?_⟩ <;> first | trivial | exact HI.out | exact HQ.out.1 (by decide) | exact absurd h (by decide)), R5, hs5⟩
            case measure => simp [intOf]
          · have HV := Lib.hid (HFND.out Y bW (by omega) (by omega) (.inr rfl) HI.out)
            go_wp2_with fail
            exact bodyPost_ret (v := .tuple #[.agg #[.int .i64 Y, .string bW], .bool true]) (by simp [results, Tryz.results51, go_sem, q0, q1]) rfl ⟨by rw [HV.out], hb0.trans (((R5.set 0 _).set 1 _).below)⟩
        · have HN : Hid (∀ z : Int, lo ≤ z → z < Y + 1 → inSea d z bS = false ∧ inSea d z bW = false) := Lib.hid (fun z a b => by
            by_cases e : z = Y
            · subst e; exact ⟨HQ.out.1 (by omega), HQ.out.2 (by omega)⟩
            · exact HP.out z a (by omega))
          go_wp2_with fail
          go_roundw
          case rel => exact ⟨Y + 1, by omega, by omega, by go_num, HN, R2, hs2⟩
          case measure => simp [intOf]; omega
    · have hgt : ¬ Y ≤ min 2272 yy := by rw [HHI.out]; exact hlt
      have HV := Lib.hid (HNO.out (fun z a b => HP.out z a (by omega)))
      obtain ⟨v0, q0⟩ := Rr.cell 0 (by decide)
      obtain ⟨v1, q1⟩ := Rr.cell 1 (by decide)
      have qf0 := Rr.frozen 0 (by decide)
      have qf1 := Rr.frozen 1 (by decide)
      go_wp2_with fail
      exact bodyPost_ret (v := .tuple #[.agg #[.int .i64 0, .string ⟨#[]⟩], .bool false]) (by simp [results, Tryz.results51, go_sem, q0, q1]) rfl ⟨by rw [HV.out], hb0.trans (((Rr.set 0 _).set 1 _).below)⟩
end Go.Proofs.YtijnabgehlkghaaGreatDoor
