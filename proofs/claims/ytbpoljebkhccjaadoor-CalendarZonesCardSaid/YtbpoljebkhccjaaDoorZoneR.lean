/- Contracts: the reference's CheckZone and CheckMoment. -/
import Derived.Test.YtbpoljebkhccjaaDoorZoneQ0
import Derived.Test.YtbpoljebkhccjaaDoorYears0
namespace Go.Proofs.YtbpoljebkhccjaaDoor
open Go Go.RowKit
theorem qCheckMoment_any (d : Int) (w : World) : Calls Tryd.prog 41 #[.int .i64 d] w fun r w' => r = .returned (.int .i64 (rng d 0 143999999)) ∧ w' = w := by
  go_enter Tryd.func41, Tryd.ntmps41
  go_wp2_with fail
  refine (qRange_any _ _ _ _).mono ?_
  rintro e w' ⟨rfl, rfl⟩
  go_wp2_with fail
  go_ret
  exact ⟨rfl, rfl⟩
theorem chgErr_eq {g : Bool} {po m q : Int} (hp : -720 ≤ po ∧ po ≤ 840) : chgErr g po m q = if ¬ (0 ≤ m ∧ m ≤ 143999999) then 3 else if ¬ (-720 ≤ q ∧ q ≤ 840) then 3 else if 180 < q - po ∨ 180 < po - q then 4 else if g = true then 0 else 11 := by
  unfold chgErr
  by_cases h1 : 0 ≤ m ∧ m ≤ 143999999
  · rw [if_neg (show ¬¬(0 ≤ m ∧ m ≤ 143999999) from fun h => h h1), rng_ok h1.1 h1.2]
    by_cases h2 : -720 ≤ q ∧ q ≤ 840
    · rw [if_neg (show ¬¬(-720 ≤ q ∧ q ≤ 840) from fun h => h h2), rng_ok h2.1 h2.2]
      have e : wrap64 ((if q < po then po else q) - (if po < q then po else q)) = if q < po then po - q else q - po := by
        by_cases h : q < po
        · rw [if_pos h, if_neg (by omega), if_pos h]; unfold wrap64; omega
        · rw [if_neg h, if_neg h]
          by_cases h' : po < q
          · rw [if_pos h']; unfold wrap64; omega
          · rw [if_neg h']; unfold wrap64; omega
      rw [e]
      by_cases h3 : 180 < q - po ∨ 180 < po - q
      · rw [if_pos h3, decide_eq_false (by split <;> omega)]
        simp [fst, unl]
      · rw [if_neg h3, decide_eq_true (by split <;> omega)]
        cases g <;> simp [fst, unl]
    · rw [if_pos (show ¬(-720 ≤ q ∧ q ≤ 840) from h2), rng_bad h2]
      simp [fst]
  · rw [if_pos (show ¬(0 ≤ m ∧ m ≤ 143999999) from h1), rng_bad h1]
    simp [fst]
theorem zoneErr_rng {o : Int} {cs : List (Int × Int)} (h : ¬ (-720 ≤ o ∧ o ≤ 840)) : zoneErr o cs = 3 := by
  have e : zoneHead o cs.length = 3 := by unfold zoneHead; rw [rng_bad h]; simp [fst]
  unfold zoneErr; rw [if_pos (by rw [e]; decide), e]
theorem zoneErr_many {o : Int} {cs : List (Int × Int)} (h : -720 ≤ o ∧ o ≤ 840) (hl : 64 < cs.length) : zoneErr o cs = 5 := by
  have e : zoneHead o cs.length = 5 := by unfold zoneHead; rw [rng_ok h.1 h.2, decide_eq_false (by omega)]; simp [fst, unl]
  unfold zoneErr; rw [if_pos (by rw [e]; decide), e]
theorem zoneErr_few {o : Int} {cs : List (Int × Int)} (h : -720 ≤ o ∧ o ≤ 840) (hl : cs.length ≤ 64) : zoneErr o cs = chsErr true 0 o cs := by
  have e : zoneHead o cs.length = 0 := by unfold zoneHead; rw [rng_ok h.1 h.2, decide_eq_true (by omega)]; simp [fst, unl]
  unfold zoneErr; rw [if_neg (by rw [e]; simp)]
set_option maxRecDepth 100000 in
set_option maxHeartbeats 2000000 in
theorem qCheckZone_v (o : Int) (v : Value) (cs : List (Int × Int)) (w : World) (h : SlV w v cs) :
    Calls Tryd.prog 40 #[.agg #[.int .i64 o, v]] w fun r w' => r = .returned (.int .i64 (zoneErr o cs)) ∧ Below w.heap.size w w' := by
  obtain ⟨A, cap0, hA⟩ := slv_len h
  obtain ⟨W, HW, hb0, c0, c1⟩ : ∃ W, Hid (w.alloc (.cells #[.int .i64 o, v] 75) = W) ∧ Below w.heap.size w W ∧ W.cell? ⟨w.heap.size, 0, none⟩ = some (.int .i64 o) ∧ W.cell? ⟨w.heap.size, 1, none⟩ = some v := ⟨_, Lib.hid rfl, below_alloc w _, by simp, by simp⟩
  by_cases hr : -720 ≤ o ∧ o ≤ 840
  · have HR : Hid (rng o (-720) 840 = 0) := Lib.hid (rng_ok hr.1 hr.2)
    by_cases hl : cs.length ≤ 64
    · have HZ := Lib.hid (zoneErr_few hr hl)
      rcases h with ⟨A1, p1, rfl, rfl⟩ | ⟨b, off, cap, rfl, hc⟩
      · clear hA
        go_enter Tryd.func40, Tryd.ntmps40
        go_wp2_with fail
        rw [HW.out]
        go_wp2_with fail
        refine (qRange_any _ _ _ _).mono ?_
        rintro e w2 ⟨rfl, hw⟩
        rw [hw, HR.out]
        clear hw
        go_wp2_with fail
        go_loop [3, 4] (fun x i => x = .int .i64 o ∧ i = .int .i64 0) (fun _ _ => 0)
        case atStart => exact ⟨rfl, rfl⟩
        case round =>
          obtain ⟨rfl, rfl⟩ := hrel
          go_wp2_with fail
          go_ret
          exact ⟨by rw [HZ.out]; rfl, hb0⟩
      · have HC := Lib.hid (hc.below hb0)
        have hd : decide ((64 : Int) < cs.length) = false := decide_eq_false (by omega)
        have hr1 := hr.1
        have hr2 := hr.2
        clear hc hA hr
        go_enter Tryd.func40, Tryd.ntmps40
        go_wp2_with fail
        rw [HW.out]
        go_wp2_with fail
        refine (qRange_any _ _ _ _).mono ?_
        rintro e w2 ⟨rfl, hw⟩
        rw [hw, HR.out]
        clear hw
        go_wp2_with fail
        go_loopw [3, 4] (fun p i wr => ∃ (k : Nat) (pm po : Int), k ≤ cs.length ∧ i = .int .i64 k ∧ p = .int .i64 po ∧ Hid (chsErr true 0 o cs = chsErr (decide (k = 0)) pm po (cs.drop k)) ∧ Hid (0 < k → pm = (cs.getD (k - 1) (0, 0)).1) ∧ Below W.heap.size W wr ∧ -720 ≤ po ∧ po ≤ 840 ∧ 0 ≤ pm ∧ pm ≤ 143999999) (fun _ i _ => cs.length - (intOf i).toNat)
        case atStart => exact ⟨0, 0, o, Nat.zero_le _, rfl, rfl, Lib.hid (by simp), Lib.hid (by omega), Below.refl _ _, hr1, hr2, by omega, by omega⟩
        case round =>
          obtain ⟨k, pm, po, hk, rfl, rfl, HF, HP, hbr, ho1, ho2, hp1, hp2⟩ := hrel
          have d0 := b_old hbr c0
          have d1 := b_old hbr c1
          have hbf := b_then hb0 hbr
          by_cases hlt : k < cs.length
          · have hm := b_old hbr (HC.out.m k hlt)
            have hoo := b_old hbr (HC.out.o k hlt)
            have HD0 := Lib.hid (fun m q h1 h2 => HF.out.trans (chsErr_drop (decide (k = 0)) pm po cs k hlt m q h1 h2))
            have HPM : Hid (0 < k → wr.cell? ⟨b, off + (k - 1) * 2, none⟩ = some (.int .i64 pm)) := Lib.hid (fun hk0 => by rw [HP.out hk0]; exact b_old hbr (HC.out.m (k - 1) (by omega)))
            generalize hmv : (cs.getD k (0, 0)).1 = m at hm
            generalize hov : (cs.getD k (0, 0)).2 = q at hoo
            have HM := Lib.hid hmv
            have HD := Lib.hid (HD0.out m q hmv hov)
            clear hmv hov HD0 HF HP
            obtain ⟨V, HV, hbV, e0, e1, f0, f1⟩ : ∃ V, Hid (wr.alloc (.cells #[.int .i64 m, .int .i64 q] 116) = V) ∧ Below wr.heap.size wr V ∧ V.cell? ⟨w.heap.size, 0, none⟩ = some (.int .i64 o) ∧ V.cell? ⟨w.heap.size, 1, none⟩ = some (.slice (some ⟨b, off, none⟩) cs.length cap) ∧ V.cell? ⟨wr.heap.size, 0, none⟩ = some (.int .i64 m) ∧ V.cell? ⟨wr.heap.size, 1, none⟩ = some (.int .i64 q) := ⟨_, Lib.hid rfl, below_alloc wr _, b_old (below_alloc wr _) d0, b_old (below_alloc wr _) d1, by simp, by simp⟩
            have hbf2 := b_then hbf hbV
            have hbr2 := b_then hbr hbV
            by_cases h1 : 0 ≤ m ∧ m ≤ 143999999
            · have R1 : Hid (rng m 0 143999999 = 0) := Lib.hid (rng_ok h1.1 h1.2)
              by_cases h2 : -720 ≤ q ∧ q ≤ 840
              · have R2 : Hid (rng q (-720) 840 = 0) := Lib.hid (rng_ok h2.1 h2.2)
                obtain ⟨m1, m2⟩ := h1
                obtain ⟨q1, q2⟩ := h2
                have hwr : wrap64 (m - pm) = m - pm := by unfold wrap64; omega
                rw [hwr] at HD
                by_cases h3 : 180 < q - po
                · have HE : Hid (chgErr (decide (k = 0) || decide (1440 ≤ m - pm)) po m q = 4) := Lib.hid (by rw [chgErr_eq ⟨ho1, ho2⟩, if_neg (by omega), if_neg (by omega), if_pos (.inl h3)])
                  have HQ : Hid (chsErr true 0 o cs = 4) := Lib.hid (by rw [HD.out, HE.out]; rfl)
                  clear HD HE hwr
                  go_wp2_with fail
                  rw [HV.out]
                  go_wp2_with fail
                  refine (qCheckMoment_any _ _).mono ?_
                  rintro e w2 ⟨rfl, hw⟩
                  rw [hw, R1.out]
                  clear hw
                  go_wp2_with fail
                  refine (qRange_any _ _ _ _).mono ?_
                  rintro e w2 ⟨rfl, hw⟩
                  rw [hw, R2.out]
                  clear hw
                  go_wp2_with fail
                  go_ret
                  exact ⟨by rw [HZ.out, HQ.out]; rfl, hbf2⟩
                · by_cases h4 : 180 < po - q
                  · have HE : Hid (chgErr (decide (k = 0) || decide (1440 ≤ m - pm)) po m q = 4) := Lib.hid (by rw [chgErr_eq ⟨ho1, ho2⟩, if_neg (by omega), if_neg (by omega), if_pos (.inr h4)])
                    have HQ : Hid (chsErr true 0 o cs = 4) := Lib.hid (by rw [HD.out, HE.out]; rfl)
                    have g3 : decide (180 < q - po) = false := decide_eq_false h3
                    clear HD HE hwr
                    go_wp2_with fail
                    rw [HV.out]
                    go_wp2_with fail
                    refine (qCheckMoment_any _ _).mono ?_
                    rintro e w2 ⟨rfl, hw⟩
                    rw [hw, R1.out]
                    clear hw
                    go_wp2_with fail
                    refine (qRange_any _ _ _ _).mono ?_
                    rintro e w2 ⟨rfl, hw⟩
                    rw [hw, R2.out]
                    clear hw
                    go_wp2_with fail
                    go_ret
                    exact ⟨by rw [HZ.out, HQ.out]; rfl, hbf2⟩
                  · have HE : Hid (chgErr (decide (k = 0) || decide (1440 ≤ m - pm)) po m q = if (decide (k = 0) || decide (1440 ≤ m - pm)) = true then 0 else 11) := Lib.hid (by rw [chgErr_eq ⟨ho1, ho2⟩, if_neg (by omega), if_neg (by omega), if_neg (by omega)])
                    have g3 : decide (180 < q - po) = false := decide_eq_false h3
                    have g4 : decide (180 < po - q) = false := decide_eq_false h4
                    cases k with
                    | zero =>
                      have HQ : Hid (chsErr true 0 o cs = chsErr false m q (cs.drop (0 + 1))) := Lib.hid (by rw [HD.out, HE.out]; rfl)
                      simp only [Nat.zero_mul, Nat.add_zero] at hm hoo
                      clear HD HE hwr HPM
                      go_wp2_with fail
                      rw [HV.out]
                      go_wp2_with fail
                      refine (qCheckMoment_any _ _).mono ?_
                      rintro e w2 ⟨rfl, hw⟩
                      rw [hw, R1.out]
                      clear hw
                      go_wp2_with fail
                      refine (qRange_any _ _ _ _).mono ?_
                      rintro e w2 ⟨rfl, hw⟩
                      rw [hw, R2.out]
                      clear hw
                      go_wp2_with fail
                      go_quiet (fail)
                      go_wp2_with fail
                      go_roundw
                      case rel => exact ⟨1, m, q, by omega, by go_num, rfl, HQ, Lib.hid (fun _ => HM.out.symm), b_drewN hbr2 _, q1, q2, m1, m2⟩
                      case measure => simp [intOf]; omega
                    | succ j =>
                      have hpm := HPM.out (by omega)
                      simp only [Nat.add_sub_cancel] at hpm
                      have hpV := b_old hbV hpm
                      have hjb : decide ((0 : Int) < (j : Int) + 1) = true := decide_eq_true (by omega)
                      by_cases h5 : 1440 ≤ m - pm
                      · have g5 : decide (m - pm < 1440) = false := decide_eq_false (by omega)
                        have HQ : Hid (chsErr true 0 o cs = chsErr false m q (cs.drop (j + 1 + 1))) := Lib.hid (by rw [HD.out, HE.out, decide_eq_true h5]; simp)
                        clear HD HE hwr HPM h5
                        go_wp2_with fail
                        rw [HV.out]
                        go_wp2_with fail
                        refine (qCheckMoment_any _ _).mono ?_
                        rintro e w2 ⟨rfl, hw⟩
                        rw [hw, R1.out]
                        clear hw
                        go_wp2_with fail
                        refine (qRange_any _ _ _ _).mono ?_
                        rintro e w2 ⟨rfl, hw⟩
                        rw [hw, R2.out]
                        clear hw
                        go_wp2_with fail
                        go_quiet (fail)
                        go_wp2_with fail
                        go_roundw
                        case rel => exact ⟨j + 1 + 1, m, q, by omega, by go_num, rfl, HQ, Lib.hid (fun _ => HM.out.symm), b_drewN hbr2 _, q1, q2, m1, m2⟩
                        case measure => simp [intOf]; omega
                      · have g5 : decide (m - pm < 1440) = true := decide_eq_true (by omega)
                        have HQ : Hid (chsErr true 0 o cs = 11) := Lib.hid (by rw [HD.out, HE.out, decide_eq_false h5]; simp)
                        clear HD HE hwr HPM h5
                        go_wp2_with fail
                        rw [HV.out]
                        go_wp2_with fail
                        refine (qCheckMoment_any _ _).mono ?_
                        rintro e w2 ⟨rfl, hw⟩
                        rw [hw, R1.out]
                        clear hw
                        go_wp2_with fail
                        refine (qRange_any _ _ _ _).mono ?_
                        rintro e w2 ⟨rfl, hw⟩
                        rw [hw, R2.out]
                        clear hw
                        go_wp2_with fail
                        go_quiet (fail)
                        go_wp2_with fail
                        go_ret
                        exact ⟨by rw [HZ.out, HQ.out]; rfl, b_drewN hbf2 _⟩
              · have R2 : Hid (rng q (-720) 840 = 3) := Lib.hid (rng_bad h2)
                have HE := Lib.hid (chgErr_eq (g := decide (k = 0) || decide (1440 ≤ wrap64 (m - pm))) (m := m) (q := q) ⟨ho1, ho2⟩)
                have HQ : Hid (chsErr true 0 o cs = 3) := Lib.hid (by rw [HD.out, HE.out, if_neg (show ¬¬(0 ≤ m ∧ m ≤ 143999999) from fun h => h h1), if_pos (show ¬(-720 ≤ q ∧ q ≤ 840) from h2)]; rfl)
                clear HD HE h1 h2
                go_wp2_with fail
                rw [HV.out]
                go_wp2_with fail
                refine (qCheckMoment_any _ _).mono ?_
                rintro e w2 ⟨rfl, hw⟩
                rw [hw, R1.out]
                clear hw
                go_wp2_with fail
                refine (qRange_any _ _ _ _).mono ?_
                rintro e w2 ⟨rfl, hw⟩
                rw [hw, R2.out]
                clear hw
                go_wp2_with fail
                go_ret
                exact ⟨by rw [HZ.out, HQ.out]; rfl, hbf2⟩
            · have R1 : Hid (rng m 0 143999999 = 3) := Lib.hid (rng_bad h1)
              have HE := Lib.hid (chgErr_eq (g := decide (k = 0) || decide (1440 ≤ wrap64 (m - pm))) (m := m) (q := q) ⟨ho1, ho2⟩)
              have HQ : Hid (chsErr true 0 o cs = 3) := Lib.hid (by rw [HD.out, HE.out, if_pos (show ¬(0 ≤ m ∧ m ≤ 143999999) from h1)]; rfl)
              clear HD HE h1
              go_wp2_with fail
              rw [HV.out]
              go_wp2_with fail
              refine (qCheckMoment_any _ _).mono ?_
              rintro e w2 ⟨rfl, hw⟩
              rw [hw, R1.out]
              clear hw
              go_wp2_with fail
              go_ret
              exact ⟨by rw [HZ.out, HQ.out]; rfl, hbf2⟩
          · have HQ : Hid (chsErr true 0 o cs = 0) := Lib.hid (by rw [HF.out, List.drop_of_length_le (by omega)]; rfl)
            go_wp2_with fail
            go_ret
            exact ⟨by rw [HZ.out, HQ.out]; rfl, hbf⟩
    · have HZ := Lib.hid (zoneErr_many hr (show 64 < cs.length by omega))
      have hd : decide ((64 : Int) < cs.length) = true := decide_eq_true (by omega)
      subst hA
      clear hl hr h
      generalize cs.length = n at *
      go_enter Tryd.func40, Tryd.ntmps40
      go_wp2_with fail
      rw [HW.out]
      go_wp2_with fail
      refine (qRange_any _ _ _ _).mono ?_
      rintro e w2 ⟨rfl, hw⟩
      rw [hw, HR.out]
      clear hw
      go_wp2_with fail
      go_ret
      exact ⟨by rw [HZ.out]; rfl, hb0⟩
  · have HR : Hid (rng o (-720) 840 = 3) := Lib.hid (rng_bad hr)
    have HZ := Lib.hid (zoneErr_rng (cs := cs) hr)
    clear hr hA
    go_enter Tryd.func40, Tryd.ntmps40
    go_wp2_with fail
    rw [HW.out]
    go_wp2_with fail
    refine (qRange_any _ _ _ _).mono ?_
    rintro e w2 ⟨rfl, hw⟩
    rw [hw, HR.out]
    clear hw
    go_wp2_with fail
    go_ret
    exact ⟨by rw [HZ.out]; rfl, hb0⟩
end Go.Proofs.YtbpoljebkhccjaaDoor
