/- The walk of CalendarTiles. -/
import Derived.Test.YtijnabgehlkghaaDoorAwake
import Derived.Test.YtijnabgehlkghaaDoorTileC
import Derived.Test.YtijnabgehlkghaaDoorArr3
namespace Go.Proofs.YtijnabgehlkghaaDoor
open Go Go.RowKit
/-- What stays known through the walk: the block of the season and the block of its span. -/
structure TileW (w : World) (N P : Nat) (y F T : Int) (s : ByteArray) (V : World) : Prop where
  b : Below w.heap.size w V
  s0 : V.cell? ⟨N, 0, none⟩ = some (.int .i64 y)
  s1 : V.cell? ⟨N, 1, none⟩ = some (.string s)
  p0 : V.cell? ⟨P, 0, none⟩ = some (.int .i64 F)
  p1 : V.cell? ⟨P, 1, none⟩ = some (.int .i64 T)
  p2 : V.cell? ⟨P, 2, none⟩ = some (.int .i64 127)
theorem TileW.then {w V V' : World} {N P : Nat} {y F T : Int} {s : ByteArray} (h : TileW w N P y F T s V) (hb : Below V.heap.size V V') : TileW w N P y F T s V' :=
  ⟨b_then h.b hb, b_old hb h.s0, b_old hb h.s1, b_old hb h.p0, b_old hb h.p1, b_old hb h.p2⟩
theorem ret_b (b : Bool) (h : b = true) : Ending.returned (.bool b) = .returned (.bool true) := by rw [h]
theorem off_bd {o n : Int} (hn : 0 < n) : 0 ≤ o % n ∧ o % n < n := ⟨Int.emod_nonneg _ (by omega), Int.emod_lt_of_pos _ hn⟩
theorem reads_sea {w : World} (h : Ev.Reads lst w) : HeldSea w :=
  ⟨reads_cell h (.head _) 0 _ rfl, reads_cell h (.head _) 1 _ rfl, reads_cell h (.tail _ (.head _)) 0 _ rfl, reads_cell h (.tail _ (.head _)) 1 _ rfl⟩
theorem sea_of_zero {y : Int} {s : ByteArray} (h : seasonErr y s = 0) : (2000 ≤ y ∧ y ≤ 2272) ∧ kindErr s = 0 := by
  obtain ⟨a, b⟩ := fst_cons_zero h
  obtain ⟨c, _⟩ := fst_cons_zero b
  exact ⟨rng_zero a, c⟩
theorem TileW.drew {w V : World} {N P : Nat} {y F T : Int} {s : ByteArray} (h : TileW w N P y F T s V) (n : Nat) : TileW w N P y F T s (V.drewN n) := h.then (b_drewN (Below.refl _ _) n)
set_option maxRecDepth 100000 in
set_option maxHeartbeats 4000000 in
theorem Tiles_true (y : Int) (s : ByteArray) (o yr : Int) (w : World) (hl : Ev.Reads lst w) (ho1 : 0 ≤ o) (ho2 : o ≤ 255) :
    Calls Tryd.prog 7 #[.agg #[.int .i64 y, .string s], .int .u8 o, .int .i64 yr] w (IsTrue w) := by
  have HL := Lib.hid hl
  clear hl
  obtain ⟨W, HW, hb0, hc0, hc1⟩ : ∃ W, Hid (w.alloc (.cells #[.int .i64 y, .string s] 61) = W) ∧ Below w.heap.size w W ∧ W.cell? ⟨w.heap.size, 0, none⟩ = some (.int .i64 y) ∧ W.cell? ⟨w.heap.size, 1, none⟩ = some (.string s) := ⟨_, Lib.hid rfl, below_alloc w _, by simp, by simp⟩
  by_cases hse : seasonErr y s = 0
  · by_cases hyr : 2000 ≤ yr ∧ yr ≤ 2272
    · obtain ⟨⟨hy1, hy2⟩, hkz⟩ := sea_of_zero hse
      obtain ⟨hyr1, hyr2⟩ := hyr
      have hk := kind_two hkz
      have f := seaF hy1 hy2 hk
      have g := seaF hyr1 hyr2 hk
      have RY : Hid (rng yr 2000 2272 = 0) := Lib.hid (rng_ok hyr1 hyr2)
      have HSE := Lib.hid hse
      have HSP : Hid (∀ w, HeldTab w → Calls Tryd.prog 33 #[.agg #[.int .i64 y, .string s]] w fun r w' => r = .returned (.tuple #[.agg #[.int .i64 (fDay y s), .int .i64 (lDay y s), .int .i64 127], .int .i64 0]) ∧ Below w.heap.size w w') :=
        Lib.hid (fun w ht => Span_ok y s w ht hy1 hy2 hkz)
      have HSO := Lib.hid (fun d w ht hs (h1 : fDay y s ≤ d) (h2 : d ≤ lDay y s) => SeasonOf_in d y s w ht hs hy1 hy2 hk h1 h2)
      have HSO2 := Lib.hid (fun d w ht hs (h1 : fDay yr s ≤ d) (h2 : d ≤ lDay yr s) => SeasonOf_in d yr s w ht hs hyr1 hyr2 hk h1 h2)
      have HE1 := Lib.hid (fun d w ht hs (h1 : fDay y s ≤ d) (h2 : d ≤ lDay y s) => Equi_ok d y yr s w ht hs hyr1 hyr2 hy1 hy2 hk h1 h2)
      have HE2 := Lib.hid (fun d w ht hs (h1 : fDay yr s ≤ d) (h2 : d ≤ lDay yr s) => Equi_ok d yr y s w ht hs hy1 hy2 hyr1 hyr2 hk h1 h2)
      have HNX : Hid ((∃ y' s' L, (∀ w, HeldSea w → Calls Tryd.prog 35 #[.agg #[.int .i64 y, .string s]] w fun r w' => r = .returned (.tuple #[.agg #[.int .i64 y', .string s'], .int .i64 0]) ∧ Below w.heap.size w w') ∧
          (∀ w, HeldTab w → Calls Tryd.prog 33 #[.agg #[.int .i64 y', .string s']] w fun r w' => r = .returned (.tuple #[.agg #[.int .i64 (lDay y s + 1), .int .i64 L, .int .i64 127], .int .i64 0]) ∧ Below w.heap.size w w') ∧
          (∀ w, HeldSea w → Calls Tryd.prog 36 #[.agg #[.int .i64 y', .string s']] w fun r w' => r = .returned (.tuple #[.agg #[.int .i64 y, .string s], .int .i64 0]) ∧ Below w.heap.size w w')) ∨ (y = 2272 ∧ s = bW)) := Lib.hid (by
        by_cases hn : y = 2272 → s = bS
        · left
          have hfy := follY_bd y s
          have hfy2 : follY y s ≤ 2272 := by
            rcases hk with rfl | rfl
            · rw [follY_S]; exact hy2
            · rw [follY_W]
              have : y ≠ 2272 := fun e => by have := hn e; have h := isS_bS; rw [← this, isS_bW] at h; cases h
              omega
          refine ⟨follY y s, follK s, lDay (follY y s) (follK s), fun w hs => Next_ok y s w hs hy1 hy2 hk hn, fun w ht => ?_, fun w hs => Prev_foll y s w hs hy1 hy2 hk hn⟩
          have h3 := Span_ok (follY y s) (follK s) w ht (by omega) hfy2 (by rcases foll_kind hk with e | e; rw [e]; exact kind_bS; rw [e]; exact kind_bW)
          rw [show fDay (follY y s) (follK s) = lDay y s + 1 from by unfold lDay; omega] at h3
          exact h3
        · right
          rcases hk with rfl | rfl
          · exact absurd (fun _ => rfl) hn
          · by_cases e : y = 2272
            · exact ⟨e, rfl⟩
            · exact absurd (fun e' => absurd e' e) hn)
      have hF := f.lo; have hT := f.hi; have hsun := f.sun; have hwk := f.wk; have hl1 := f.l1; have hl2 := f.l2
      have gF := g.lo; have gT := g.hi; have gsun := g.sun; have gl1 := g.l1; have gl2 := g.l2
      clear f g hse hkz hk
      generalize fDay y s = F at *
      generalize lDay y s = T at *
      generalize fDay yr s = F' at *
      generalize lDay yr s = T' at *
      go_enter Tryd.func7, Tryd.ntmps7
      go_wp2_with fail
      rw [HW.out]
      refine (awake_true _ (reads_below HL.out hb0)).mono ?_
      rintro e w1 ⟨rfl, hb1⟩
      have k0 := b_old hb1 hc0; have k1 := b_old hb1 hc1
      have hb01 := b_then hb0 hb1
      clear hb1 hc0 hc1
      go_wp2_with fail
      refine (qCheckSeason_any _ _ _).mono ?_
      rintro e w2 ⟨rfl, hb2⟩
      rw [HSE.out]
      have m0 := b_old hb2 k0; have m1 := b_old hb2 k1
      have hb02 := b_then hb01 hb2
      clear hb2 k0 k1 hb01
      go_wp2_with fail
      refine (qRange_any _ _ _ _).mono ?_
      rintro e w3 ⟨rfl, hw⟩
      rw [hw, RY.out]
      clear hw
      go_wp2_with fail
      refine (HSP.out _ (reads_tab (reads_below HL.out hb02))).mono ?_
      rintro e w4 ⟨rfl, hb4⟩
      have k0 := b_old hb4 m0; have k1 := b_old hb4 m1
      have hb04 := b_then hb02 hb4
      clear hb4 m0 m1 hb02
      go_wp2_with fail
      obtain ⟨V, hV, t4⟩ : ∃ V, w4.alloc (.cells #[.int .i64 F, .int .i64 T, .int .i64 127] 23) = V ∧ TileW w w.heap.size w4.heap.size y F T s V :=
        ⟨_, rfl, b_then hb04 (below_alloc _ _), b_old (below_alloc _ _) k0, b_old (below_alloc _ _) k1, by simp, by simp, by simp⟩
      rw [hV]
      clear hV k0 k1 hb04
      have p0 := t4.p0; have p1 := t4.p1; have p2 := t4.p2
      go_wp2_with fail
      refine (qCheckPeriod_ok F T 127 _ (by omega) (by omega) (by omega) (by omega) (by decide) (by decide)).mono ?_
      rintro e w5 ⟨rfl, hb5⟩
      have t5 := t4.then hb5
      clear hb5 p0 p1 p2 t4
      have p0 := t5.p0; have p1 := t5.p1; have p2 := t5.p2
      have hp := off_bd (o := o) (n := T + 1 - F) (by omega)
      go_wp2_with fail
      go_quiet (fail)
      go_wp2_with fail
      have t6 := t5.drew nq
      clear p0 p1 p2 t5
      generalize o % (T + 1 - F) = p at *
      refine (HSO.out (F + p) _ (reads_tab (reads_below HL.out t6.b)) (reads_sea (reads_below HL.out t6.b)) (by omega) (by omega)).mono ?_
      rintro e w7 ⟨rfl, hb7⟩
      have t7 := t6.then hb7
      clear hb7 t6
      have t8 := t7.then (below_alloc w7 (.cells #[.int .i64 y, .string s] 61))
      have s0 := t8.s0; have s1 := t8.s1
      have hse := toList_self s
      clear t7
      rcases HNX.out with ⟨y', s', L, c1, c2, c3⟩ | ⟨rfl, rfl⟩
      · have C1 := Lib.hid c1; have C2 := Lib.hid c2; have C3 := Lib.hid c3
        clear c1 c2 c3 HNX
        go_wp2_with fail
        refine (C1.out _ (reads_sea (reads_below HL.out t8.b))).mono ?_
        rintro e w9 ⟨rfl, hb9⟩
        have t9 := t8.then hb9
        clear hb9 t8 s0 s1
        go_wp2_with fail
        obtain ⟨V9, hV, t10, n0, n1⟩ : ∃ V, w9.alloc (.cells #[.int .i64 y', .string s'] 61) = V ∧ TileW w w.heap.size w4.heap.size y F T s V ∧ V.cell? ⟨w9.heap.size, 0, none⟩ = some (.int .i64 y') ∧ V.cell? ⟨w9.heap.size, 1, none⟩ = some (.string s') :=
          ⟨_, rfl, t9.then (below_alloc _ _), by simp, by simp⟩
        rw [hV]
        clear hV t9
        refine (C2.out _ (reads_tab (reads_below HL.out t10.b))).mono ?_
        rintro e w11 ⟨rfl, hb11⟩
        have t11 := t10.then hb11
        have m0 := b_old hb11 n0; have m1 := b_old hb11 n1
        have n0' := b_old (below_alloc w11 (.cells #[.int .i64 (T + 1), .int .i64 L, .int .i64 127] 23)) m0
        have n1' := b_old (below_alloc w11 (.cells #[.int .i64 (T + 1), .int .i64 L, .int .i64 127] 23)) m1
        have t12 := t11.then (below_alloc w11 (.cells #[.int .i64 (T + 1), .int .i64 L, .int .i64 127] 23))
        have q0 : (w11.alloc (.cells #[.int .i64 (T + 1), .int .i64 L, .int .i64 127] 23)).cell? ⟨w11.heap.size, 0, none⟩ = some (.int .i64 (T + 1)) := by simp
        clear hb11 t10 t11 n0 n1 m0 m1
        go_wp2_with fail
        refine (C3.out _ (reads_sea (reads_below HL.out t12.b))).mono ?_
        rintro e w13 ⟨rfl, hb13⟩
        have t13 := t12.then hb13
        have q0' := b_old hb13 q0
        have q1 := b_old (below_alloc w13 (.cells #[.int .i64 y, .string s] 61)) q0'
        have t14 := t13.then (below_alloc w13 (.cells #[.int .i64 y, .string s] 61))
        have s0 := t14.s0; have s1 := t14.s1; have p1 := t14.p1
        clear hb13 t12 n0' n1' q0 q0' t13
        go_wp2_with fail
        clear s0 s1 p1 q1 C1 C2 C3
        have hsz : (w13.alloc (.cells #[.int .i64 y, .string s] 61)).heap.size = w13.heap.size + 1 := by simp
        generalize w13.alloc (.cells #[.int .i64 y, .string s] 61) = V8 at *
        have hfin := t14
        clear t14
        have t15 := hfin.then (below_alloc V8 (.cells #[.int .i64 yr, .string s] 61))
        have u0 : (V8.alloc (.cells #[.int .i64 yr, .string s] 61)).cell? ⟨w13.heap.size + 1, 0, none⟩ = some (.int .i64 yr) := by rw [← hsz]; simp
        have u1 : (V8.alloc (.cells #[.int .i64 yr, .string s] 61)).cell? ⟨w13.heap.size + 1, 1, none⟩ = some (.string s) := by rw [← hsz]; simp
        refine (HE1.out (F + p) _ (reads_tab (reads_below HL.out t15.b)) (reads_sea (reads_below HL.out t15.b)) (by omega) (by omega)).mono ?_
        rintro e w16 ⟨rfl, hb16⟩
        rw [show F + p - F = p from by omega]
        have t16 := t15.then hb16
        have u0' := b_old hb16 u0; have u1' := b_old hb16 u1
        clear hb16 t15 u0 u1 hfin
        by_cases hq : F' + p ≤ T'
        · rw [show equiRes F' T' p = .tuple #[.int .i64 (F' + p), .int .i64 0] from if_pos hq]
          have s0 := t16.s0; have s1 := t16.s1
          go_wp2_with fail
          refine (HE2.out (F' + p) _ (reads_tab (reads_below HL.out t16.b)) (reads_sea (reads_below HL.out t16.b)) (by omega) (by omega)).mono ?_
          rintro e w17 ⟨rfl, hb17⟩
          rw [show F' + p - F' = p from by omega, show equiRes F T p = .tuple #[.int .i64 (F + p), .int .i64 0] from if_pos (by omega)]
          have t17 := t16.then hb17
          have u0 := b_old hb17 u0'; have u1 := b_old hb17 u1'
          clear hb17 t16 s0 s1 u0' u1'
          go_wp2_with fail
          refine (HSO2.out (F' + p) _ (reads_tab (reads_below HL.out t17.b)) (reads_sea (reads_below HL.out t17.b)) (by omega) (by omega)).mono ?_
          rintro e w18 ⟨rfl, hb18⟩
          have t18 := (t17.then hb18).then (below_alloc w18 (.cells #[.int .i64 yr, .string s] 61))
          have v0 := b_old (below_alloc w18 (.cells #[.int .i64 yr, .string s] 61)) (b_old hb18 u0)
          have v1 := b_old (below_alloc w18 (.cells #[.int .i64 yr, .string s] 61)) (b_old hb18 u1)
          clear hb18 t17 u0 u1
          go_wp2_with fail
          go_ret
          refine ⟨ret_b _ ?_, t18.b⟩
          rw [beq_iff_eq]
          exact Int.tmod_eq_zero_of_dvd (Int.dvd_of_emod_eq_zero (by omega))
        · rw [show equiRes F' T' p = .tuple #[.int .i64 0, .int .i64 7] from if_neg hq]
          have p0 := t16.p0
          have hpp : 147 ≤ p := by omega
          go_wp2_with fail
          go_ret
          refine ⟨ret_b _ ?_, t16.b⟩
          simp; omega
      · clear HNX
        go_wp2_with fail
        refine (Next_end _ (reads_sea (reads_below HL.out t8.b))).mono ?_
        rintro e w9 ⟨rfl, hb9⟩
        have t9 := t8.then hb9
        have hfin := t9.then (below_alloc w9 (.cells #[.int .i64 0, .string ⟨#[]⟩] 61))
        have q0 := hfin.s0; have q1 := hfin.s1
        have hws : (bW.toList == [87]) = true := by rw [ww_eq]; rfl
        clear hb9 t8 s0 s1 t9
        go_wp2_with fail
        clear q0 q1 hws
        have hsz : (w9.alloc (.cells #[.int .i64 0, .string ⟨#[]⟩] 61)).heap.size = w9.heap.size + 1 := by simp
        generalize w9.alloc (.cells #[.int .i64 0, .string ⟨#[]⟩] 61) = V8 at *
        have t15 := hfin.then (below_alloc V8 (.cells #[.int .i64 yr, .string bW] 61))
        have u0 : (V8.alloc (.cells #[.int .i64 yr, .string bW] 61)).cell? ⟨w9.heap.size + 1, 0, none⟩ = some (.int .i64 yr) := by rw [← hsz]; simp
        have u1 : (V8.alloc (.cells #[.int .i64 yr, .string bW] 61)).cell? ⟨w9.heap.size + 1, 1, none⟩ = some (.string bW) := by rw [← hsz]; simp
        refine (HE1.out (F + p) _ (reads_tab (reads_below HL.out t15.b)) (reads_sea (reads_below HL.out t15.b)) (by omega) (by omega)).mono ?_
        rintro e w16 ⟨rfl, hb16⟩
        rw [show F + p - F = p from by omega]
        have t16 := t15.then hb16
        have u0' := b_old hb16 u0; have u1' := b_old hb16 u1
        clear hb16 t15 u0 u1 hfin
        by_cases hq : F' + p ≤ T'
        · rw [show equiRes F' T' p = .tuple #[.int .i64 (F' + p), .int .i64 0] from if_pos hq]
          have s0 := t16.s0; have s1 := t16.s1
          go_wp2_with fail
          refine (HE2.out (F' + p) _ (reads_tab (reads_below HL.out t16.b)) (reads_sea (reads_below HL.out t16.b)) (by omega) (by omega)).mono ?_
          rintro e w17 ⟨rfl, hb17⟩
          rw [show F' + p - F' = p from by omega, show equiRes F T p = .tuple #[.int .i64 (F + p), .int .i64 0] from if_pos (by omega)]
          have t17 := t16.then hb17
          have u0 := b_old hb17 u0'; have u1 := b_old hb17 u1'
          clear hb17 t16 s0 s1 u0' u1'
          go_wp2_with fail
          refine (HSO2.out (F' + p) _ (reads_tab (reads_below HL.out t17.b)) (reads_sea (reads_below HL.out t17.b)) (by omega) (by omega)).mono ?_
          rintro e w18 ⟨rfl, hb18⟩
          have t18 := (t17.then hb18).then (below_alloc w18 (.cells #[.int .i64 yr, .string bW] 61))
          have v0 := b_old (below_alloc w18 (.cells #[.int .i64 yr, .string bW] 61)) (b_old hb18 u0)
          have v1 := b_old (below_alloc w18 (.cells #[.int .i64 yr, .string bW] 61)) (b_old hb18 u1)
          clear hb18 t17 u0 u1
          go_wp2_with fail
          go_ret
          refine ⟨ret_b _ ?_, t18.b⟩
          rw [beq_iff_eq]
          exact Int.tmod_eq_zero_of_dvd (Int.dvd_of_emod_eq_zero (by omega))
        · rw [show equiRes F' T' p = .tuple #[.int .i64 0, .int .i64 7] from if_neg hq]
          have p0 := t16.p0
          have hpp : 147 ≤ p := by omega
          go_wp2_with fail
          go_ret
          refine ⟨ret_b _ ?_, t16.b⟩
          simp; omega
    · have HSE := Lib.hid hse
      have RY : Hid (rng yr 2000 2272 = 3) := Lib.hid (rng_bad hyr)
      clear hse hyr
      go_enter Tryd.func7, Tryd.ntmps7
      go_wp2_with fail
      rw [HW.out]
      refine (awake_true _ (reads_below HL.out hb0)).mono ?_
      rintro e w1 ⟨rfl, hb1⟩
      have k0 := b_old hb1 hc0; have k1 := b_old hb1 hc1
      have hb01 := b_then hb0 hb1
      clear hb1
      go_wp2_with fail
      refine (qCheckSeason_any _ _ _).mono ?_
      rintro e w2 ⟨rfl, hb2⟩
      rw [HSE.out]
      have hb02 := b_then hb01 hb2
      clear hb2 k0 k1
      go_wp2_with fail
      refine (qRange_any _ _ _ _).mono ?_
      rintro e w3 ⟨rfl, hw⟩
      rw [hw, RY.out]
      clear hw
      go_wp2_with fail
      refine (awake_true _ (reads_below HL.out hb02)).mono ?_
      rintro e w4 ⟨rfl, hb4⟩
      have hb04 := b_then hb02 hb4
      go_wp2_with fail
      go_ret
      exact ⟨rfl, hb04⟩
  · have HSE : Hid ((seasonErr y s != 0) = true) := Lib.hid (by rw [bne_iff_ne]; exact hse)
    clear hse
    go_enter Tryd.func7, Tryd.ntmps7
    go_wp2_with fail
    rw [HW.out]
    refine (awake_true _ (reads_below HL.out hb0)).mono ?_
    rintro e w1 ⟨rfl, hb1⟩
    have k0 := b_old hb1 hc0; have k1 := b_old hb1 hc1
    have hb01 := b_then hb0 hb1
    clear hb1
    go_wp2_with fail
    refine (qCheckSeason_any _ _ _).mono ?_
    rintro e w2 ⟨rfl, hb2⟩
    have hb02 := b_then hb01 hb2
    have hsx := HSE.out
    generalize seasonErr y s = se at *
    clear hb2 k0 k1
    go_wp2_with fail
    refine (awake_true _ (reads_below HL.out hb02)).mono ?_
    rintro e w4 ⟨rfl, hb4⟩
    have hb04 := b_then hb02 hb4
    go_wp2_with fail
    go_ret
    exact ⟨rfl, hb04⟩
end Go.Proofs.YtijnabgehlkghaaDoor
