/- The walk of CalendarClocks. -/
import Derived.Test.YtbpoljebkhccjaaGreatDoorAwake
import Derived.Test.YtbpoljebkhccjaaGreatDoorNum
import Derived.Test.YtbpoljebkhccjaaGreatDoorQFirst
import Derived.Test.YtbpoljebkhccjaaGreatDoorZoneS
namespace Go.Proofs.YtbpoljebkhccjaaGreatDoor
open Go Go.RowKit
theorem list_zero (A : Option Addr) (c : Nat) (bad : Int) (w : World) (h : bad ≠ 0) :
    Calls Tryz.prog 37 #[.slice A 0 c, .int .i64 bad, .int .i64 bad, .slice none 0 0] w fun r w' => r = .returned (.bool true) ∧ w' = w := by
  have hb : (bad != 0) = true := by simpa using h
  clear h
  go_enter Tryz.func37, Tryz.ntmps37
  go_wp2_with fail
  go_ret
  exact ⟨rfl, rfl⟩
theorem own_zero {w : World} {base : Nat} {e : TypeId} {size : Nat} {v : Value} {xs : List Value} (h : w.ownsRow base e size v 0 xs) : ∃ A c, v = .slice A 0 c := by
  rcases h.2 with ⟨rfl, _⟩ | ⟨g, cap, cur, rfl, _⟩
  · exact ⟨none, 0, rfl⟩
  · exact ⟨_, _, rfl⟩
set_option maxRecDepth 100000 in
set_option maxHeartbeats 4000000 in
theorem Clocks_true (o t : Int) (v : Value) (cs : List (Int × Int)) (w : World) (hl : Ev.Reads lst w) (hv : SlV w v cs) (hn : cs.length * 16 ≤ 140737488355328) :
    Calls Tryz.prog 7 #[.agg #[.int .i64 o, v], .int .i64 t] w (IsTrue w) := by
  have HL := Lib.hid hl
  clear hl
  obtain ⟨W, HW, hb0, c0, c1⟩ : ∃ W, Hid (w.alloc (.cells #[.int .i64 o, v] 79) = W) ∧ Below w.heap.size w W ∧ W.cell? ⟨w.heap.size, 0, none⟩ = some (.int .i64 o) ∧ W.cell? ⟨w.heap.size, 1, none⟩ = some v := ⟨_, Lib.hid rfl, below_alloc w _, by simp, by simp⟩
  have hvW := hv.below hb0
  clear hv
  go_enter Tryz.func7, Tryz.ntmps7
  go_wp2_with fail
  rw [HW.out]
  go_wp2_with fail
  refine (zone_v o v cs W hvW hn).mono ?_
  rintro e w1 ⟨v2, rfl, hv2, hb⟩
  obtain ⟨A2, p2, rfl⟩ := slv_len hv2
  replace c0 := b_old hb c0; replace c1 := b_old hb c1
  replace hvW := hvW.below hb
  have hb1 := b_then hb0 hb
  clear hb hb0 HW hn
  obtain ⟨V, HV, hbV, d0, d1⟩ : ∃ V, Hid (w1.alloc (.cells #[.int .i64 o, .slice A2 cs.length p2] 82) = V) ∧ Below w1.heap.size w1 V ∧ V.cell? ⟨w1.heap.size, 0, none⟩ = some (.int .i64 o) ∧ V.cell? ⟨w1.heap.size, 1, none⟩ = some (.slice A2 cs.length p2) := ⟨_, Lib.hid rfl, below_alloc w1 _, by simp, by simp⟩
  replace c0 := b_old hbV c0; replace c1 := b_old hbV c1
  replace hvW := hvW.below hbV; replace hv2 := hv2.below hbV
  have hb2 := b_then hb1 hbV
  clear hbV hb1
  go_wp2_with fail
  rw [HV.out]
  clear HV
  go_wp2_with fail
  refine (awake_true _ (reads_below HL.out hb2)).mono ?_
  rintro e w3 ⟨rfl, hb⟩
  replace c0 := b_old hb c0; replace c1 := b_old hb c1; replace d0 := b_old hb d0; replace d1 := b_old hb d1
  replace hvW := hvW.below hb; replace hv2 := hv2.below hb
  have hb3 := b_then hb2 hb
  clear hb hb2
  go_wp2_with fail
  refine (ShortZone_v o (.slice A2 cs.length p2) cs _ hv2).mono ?_
  rintro e w4 ⟨rfl, hb⟩
  replace c0 := b_old hb c0; replace c1 := b_old hb c1; replace d0 := b_old hb d0; replace d1 := b_old hb d1
  replace hvW := hvW.below hb; replace hv2 := hv2.below hb
  have hb4 := b_then hb3 hb
  clear hb hb3
  cases hsb : shortB cs.length
  · clear hsb
    go_wp2_with fail
    refine (awake_true _ (reads_below HL.out hb4)).mono ?_
    rintro e w5 ⟨rfl, hb⟩
    have hb5 := b_then hb4 hb
    go_wp2_with fail
    go_ret
    exact ⟨rfl, hb5⟩
  · clear hsb
    go_wp2_with fail
    refine (qCheckZone_v o (.slice A2 cs.length p2) cs _ hv2).mono ?_
    rintro e w5 ⟨rfl, hb⟩
    replace c0 := b_old hb c0; replace c1 := b_old hb c1; replace d0 := b_old hb d0; replace d1 := b_old hb d1
    replace hvW := hvW.below hb; replace hv2 := hv2.below hb
    have hb5 := b_then hb4 hb
    clear hb hb4
    go_wp2_with fail
    refine (CheckZone_v o v cs _ hvW).mono ?_
    rintro e w6 ⟨rfl, hb⟩
    replace c0 := b_old hb c0; replace c1 := b_old hb c1; replace d0 := b_old hb d0; replace d1 := b_old hb d1
    replace hvW := hvW.below hb; replace hv2 := hv2.below hb
    have hb6 := b_then hb5 hb
    clear hb hb5
    by_cases he : fst [zoneErr o cs, rng t 0 143999999] = 0
    · obtain ⟨hz, he2⟩ := fst_cons_zero he
      obtain ⟨hr, -⟩ := fst_cons_zero he2
      obtain ⟨t1, t2⟩ := rng_zero hr
      obtain ⟨ho, hlen, ha, hall⟩ := zone_good hz
      have hoff := offR_in (t := t) ho (fun c hc => (hall c hc).2)
      have HLOC : Hid (locOf o cs t = t + offR o cs t) := Lib.hid (by unfold locOf; rw [locs_offR ha t1 t2])
      have HZ := Lib.hid hz
      have HR := Lib.hid hr
      clear he he2 hz hr hlen ha hall ho
      rw [HZ.out]
      go_wp2_with fail
      refine (Local_v o t v cs _ hvW HZ.out t1 t2).mono ?_
      rintro e w7 ⟨rfl, hb⟩
      replace c0 := b_old hb c0; replace c1 := b_old hb c1; replace d0 := b_old hb d0; replace d1 := b_old hb d1
      replace hvW := hvW.below hb; replace hv2 := hv2.below hb
      have hb7 := b_then hb6 hb
      clear hb hb6
      rw [HLOC.out]
      clear HLOC
      have HQL := Lib.hid (fun w (h : SlV w (.slice A2 cs.length p2) cs) => qLocal_v o t (.slice A2 cs.length p2) cs w h HZ.out t1 t2)
      generalize t + offR o cs t = X at *
      have hcase : ∃ (a e1 : Int), Hid (locRes X = .tuple #[.int .i64 a, .int .i64 e1]) ∧ ((rng X 0 143999999 = 0 ∧ a = X ∧ e1 = 0) ∨ (rng X 0 143999999 = 3 ∧ a = 0 ∧ e1 = 30)) := by
        by_cases h : 0 ≤ X ∧ X ≤ 143999999
        · exact ⟨X, 0, Lib.hid (by unfold locRes; rw [if_pos (rng_ok h.1 h.2)]), .inl ⟨rng_ok h.1 h.2, rfl, rfl⟩⟩
        · exact ⟨0, 30, Lib.hid (by unfold locRes; rw [if_neg (by rw [rng_bad h]; decide)]), .inr ⟨rng_bad h, rfl, rfl⟩⟩
      obtain ⟨a, e1, HLR, hcs⟩ := hcase
      rw [HLR.out]
      clear HLR
      have HCS := Lib.hid hcs
      clear hcs
      go_wp2_with fail
      refine (Universal_v o t v cs _ hvW HZ.out t1 t2).mono ?_
      rintro e w8 ⟨u, rfl, hown, hb⟩
      have hbase := hb7.size
      replace d0 := b_old hb d0; replace d1 := b_old hb d1
      replace hv2 := hv2.below hb
      have hb8 := b_then hb7 hb
      clear hb hvW c0 c1
      have HOW := Lib.hid hown
      clear hown
      generalize hUE : (if univ o cs t = [] then (7 : Int) else 0) = UE at *
      have HUE := Lib.hid hUE
      clear hUE
      go_wp2_with fail
      refine (qCheckMoment_any _ _).mono ?_
      rintro e w9 ⟨rfl, hw⟩
      rw [hw, HR.out]
      clear hw
      go_wp2_with fail
      refine (first_new [_, _] _ _ _ _ _ rfl rfl (by simp)).mono ?_
      rintro e w9 ⟨rfl, hw⟩
      have hb : Below w8.heap.size w8 w9 := by rw [hw]; exact below_alloc _ _
      replace d0 := b_old hb d0; replace d1 := b_old hb d1
      replace hv2 := hv2.below hb
      have HOW9 := Lib.hid (own_below HOW.out hb)
      have hb9 := b_then hb8 hb
      clear hb hw HOW
      have hz00 : (fst [0, 0] != 0) = false := rfl
      go_wp2_with fail
      refine (HQL.out _ hv2).mono ?_
      rintro e w10 ⟨rfl, hb⟩
      replace d0 := b_old hb d0; replace d1 := b_old hb d1
      replace hv2 := hv2.below hb
      have HOW10 := Lib.hid (own_below HOW9.out hb)
      have hb10 := b_then hb9 hb
      clear hb HOW9 HQL
      go_wp2_with fail
      refine (qCheckMoment_any _ _).mono ?_
      rintro e w11 ⟨rfl, hw⟩
      rw [hw]
      clear hw
      rcases HCS.out with ⟨hrx, rfl, rfl⟩ | ⟨hrx, rfl, rfl⟩
      all_goals
        rw [hrx]
        have HRX := Lib.hid hrx
        clear hrx
        first
        | (go_wp2_with fail
           refine (qCheckMoment_any _ _).mono ?_
           rintro e w11 ⟨rfl, hw⟩
           rw [hw, HRX.out]
           clear hw
           go_wp2_with fail
           refine (number_ok _ _).mono ?_
           rintro e w11 ⟨rfl, hw⟩
           rw [hw]
           clear hw
           go_wp2_with fail)
        | (go_wp2_with fail
           refine (number_bad _ _ _ (by decide)).mono ?_
           rintro e w11 ⟨rfl, hw⟩
           rw [hw]
           clear hw
           go_wp2_with fail
           refine (qCheckMoment_any _ _).mono ?_
           rintro e w11 ⟨rfl, hw⟩
           rw [hw, HRX.out]
           clear hw
           go_wp2_with fail)
      all_goals
        refine (qUniversal_v o t (.slice A2 cs.length p2) cs _ hv2 HZ.out t1 t2).mono ?_
        rintro e w12 ⟨q, rfl, hints, hb⟩
        have HOW12 := Lib.hid (own_below HOW10.out hb)
        have hb12 := b_then hb10 hb
        clear hb HOW10
        have HI := Lib.hid hints
        clear hints
        by_cases hU : univ o cs t = []
        · have hq := (HI.out.nil).2 hU
          subst hq
          have h7 : UE = 7 := by rw [← HUE.out, if_pos hU]
          subst h7
          have hown := HOW12.out
          rw [hU] at hown
          obtain ⟨A, cA, rfl⟩ := own_zero hown
          clear hown hU HOW12 HUE
          go_wp2_with fail
          refine (list_zero A cA 7 _ (by decide)).mono ?_
          rintro e w13 ⟨rfl, hw⟩
          rw [hw]
          clear hw
          go_wp2_with fail
          go_ret
          exact ⟨rfl, hb12⟩
        · have h0 : UE = 0 := by rw [← HUE.out, if_neg hU]
          subst h0
          have hlen := hits_len t (strs 0 o cs)
          obtain ⟨x, r, hxr⟩ : ∃ x r, univ o cs t = x :: r := by
            cases hx : univ o cs t with
            | nil => exact absurd hx hU
            | cons x r => exact ⟨x, r, rfl⟩
          have hul : (univ o cs t).length = r.length + 1 := by rw [hxr]; rfl
          have hub : (univ o cs t).length ≤ 65 := by
            have h1 := hits_len t (strs 0 o cs)
            rw [strs_len] at h1
            have := (zone_good HZ.out).2.1
            unfold univ; omega
          have hown := HOW12.out
          rw [hul] at hown
          obtain ⟨g, cap, rfl⟩ := ownsRow_succ hown
          have hown2 := HI.out.own
          rw [hul] at hown2
          obtain ⟨g2, cap2, rfl⟩ := ownsRow_succ hown2
          have HLO := Lib.hid (fun (_ : Unit) => list_ok (univ o cs t) w7.heap.size w10.heap.size (.slice (some ⟨g, 0, none⟩) (r.length + 1) cap) (.slice (some ⟨g2, 0, none⟩) (r.length + 1) cap2) w12 ⟨by rw [hul]; exact hown, ⟨fun e => by simp at e, fun e => absurd e hU⟩⟩ HI.out (by omega))
          have hne : ((r.length : Int) + 1 == 0) = false := by rw [beq_eq_false_iff_ne]; omega
          clear hown hown2 hU HOW12 HUE HI hul hub hxr hlen
          go_wp2_with fail
          refine (HLO.out ()).mono ?_
          rintro e w13 ⟨rfl, nq, rfl⟩
          go_wp2_with fail
          go_ret
          exact ⟨rfl, b_drewN hb12 _⟩
    · have HE := Lib.hid he
      clear he
      have heb : (fst [zoneErr o cs, rng t 0 143999999] != 0) = true := by rw [bne_iff_ne]; exact HE.out
      generalize hZE : zoneErr o cs = ZE at *
      have HZE := Lib.hid hZE
      clear hZE
      go_wp2_with fail
      refine (Local_err o t v cs _ hvW (by rw [HZE.out]; exact HE.out)).mono ?_
      rintro e w7 ⟨rfl, hb⟩
      replace c0 := b_old hb c0; replace c1 := b_old hb c1
      replace hvW := hvW.below hb
      have hb7 := b_then hb6 hb
      clear hb hb6
      rw [HZE.out]
      go_wp2_with fail
      refine (Universal_err o t v cs _ hvW (by rw [HZE.out]; exact HE.out)).mono ?_
      rintro e w8 ⟨rfl, hb⟩
      have hb8 := b_then hb7 hb
      clear hb hb7
      rw [HZE.out]
      go_wp2_with fail
      refine (qCheckMoment_any _ _).mono ?_
      rintro e w9 ⟨rfl, hw⟩
      rw [hw]
      clear hw
      go_wp2_with fail
      refine (first_new [_, _] _ _ _ _ _ rfl rfl (by simp)).mono ?_
      rintro e w9 ⟨rfl, hw⟩
      have hb : Below w8.heap.size w8 w9 := by rw [hw]; exact below_alloc _ _
      have hb9 := b_then hb8 hb
      clear hb hw
      generalize fst [ZE, rng t 0 143999999] = E at *
      go_wp2_with fail
      refine (number_bad _ _ _ HE.out).mono ?_
      rintro e w10 ⟨rfl, hw⟩
      rw [hw]
      clear hw
      go_wp2_with fail
      refine (list_bad _ _ HE.out).mono ?_
      rintro e w10 ⟨rfl, hw⟩
      rw [hw]
      clear hw
      go_wp2_with fail
      go_ret
      exact ⟨rfl, hb9⟩
end Go.Proofs.YtbpoljebkhccjaaGreatDoor
