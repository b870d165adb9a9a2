/- The walk of CalendarZones. -/
import Derived.Test.YtbpoljebkhccjaaDoorAwake
import Derived.Test.YtbpoljebkhccjaaDoorYears0
import Derived.Test.YtbpoljebkhccjaaDoorHasInt
import Derived.Test.YtbpoljebkhccjaaDoorZoneS
import Derived.Test.YtbpoljebkhccjaaDoorZonesM
import Derived.Test.YtbpoljebkhccjaaDoorSpan
import Derived.Test.YtbpoljebkhccjaaDoorIntsC
import Derived.Lib.MinMax
import Derived.Deep.CutRange
import Derived.Deep.DeepCutAuto
namespace Go.Proofs.YtbpoljebkhccjaaDoor
open Go Go.RowKit
theorem own_ints {w : World} {base n : Nat} {v : Value} {l : List Int} (h : w.ownsRow base 3 1 v (n + 1) (l.map (Value.int .i64))) (hl : l.length = n + 1) : ∃ g cap, v = .slice (some ⟨g, 0, none⟩) (n + 1) cap ∧ IntAt w g 0 l := by
  obtain ⟨g, cap, rfl⟩ := ownsRow_succ h
  refine ⟨g, cap, rfl, fun i hi => ?_⟩
  have := h.cellAt i (by omega)
  rw [List.getElem?_map, List.getElem?_eq_getElem hi] at this
  rw [Nat.zero_add, this, List.getD_eq_getElem?_getD, List.getElem?_eq_getElem hi]
  rfl
theorem loc_case (X : Int) : ∃ (a e1 : Int), Hid (locRes X = .tuple #[.int .i64 a, .int .i64 e1]) ∧ ((0 ≤ X ∧ X ≤ 143999999 ∧ a = X ∧ e1 = 0) ∨ (¬ (0 ≤ X ∧ X ≤ 143999999) ∧ a = 0 ∧ e1 = 30)) := by
  by_cases h : 0 ≤ X ∧ X ≤ 143999999
  · exact ⟨X, 0, Lib.hid (by unfold locRes; rw [if_pos (rng_ok h.1 h.2)]), .inl ⟨h.1, h.2, rfl, rfl⟩⟩
  · exact ⟨0, 30, Lib.hid (by unfold locRes; rw [if_neg (by rw [rng_bad h]; decide)]), .inr ⟨h, rfl, rfl⟩⟩
theorem own_zero1 {w : World} {base : Nat} {e : TypeId} {size : Nat} {v : Value} {xs : List Value} (h : w.ownsRow base e size v 0 xs) : ∃ A c, v = .slice A 0 c := by
  rcases h.2 with ⟨rfl, _⟩ | ⟨g, cap, cur, rfl, _⟩
  · exact ⟨none, 0, rfl⟩
  · exact ⟨_, _, rfl⟩
theorem one_loc_any (o A B t : Int) (hA : 0 ≤ A) (hAB : A < B) (hB : B ≤ 99900) (t1 : 0 ≤ t) (t2 : t ≤ 143999999) : locOf o (oneCs o A B) t = t + o + (if 1440 * A + 60 ≤ t ∧ t < 1440 * B + 60 then 60 else 0) := by
  unfold locOf
  rw [locs_offR (f := 0) (by unfold oneCs; exact ⟨by show (0 : Int) ≤ 1440 * A + 60; omega, by show 1440 * A + 60 ≤ 143999999; omega, by show 1440 * A + 60 ≤ 1440 * B + 60; omega, by show 1440 * B + 60 ≤ 143999999; omega, trivial⟩) t1 t2]
  unfold oneCs offR offR offR
  simp only
  by_cases c1 : 1440 * A + 60 ≤ t
  · by_cases c2 : 1440 * B + 60 ≤ t
    · rw [if_pos c2, if_neg (by omega)]; omega
    · rw [if_neg c2, if_pos c1, if_pos (by omega)]; omega
  · rw [if_neg (show ¬ 1440 * B + 60 ≤ t by omega), if_neg c1, if_neg (by omega)]; omega
theorem fDay_S (y : Int) : fDay y ⟨#[83]⟩ = Cal.ls y 3 ∧ lDay y ⟨#[83]⟩ = Cal.ls y 10 - 1 := by
  have h2 : isS ⟨#[87]⟩ = false := by decide +kernel
  refine ⟨by unfold fDay; rw [if_pos isS_S], ?_⟩
  unfold lDay follY follK
  rw [if_pos isS_S, if_pos isS_S]
  unfold fDay
  rw [if_neg (by rw [h2]; decide)]
theorem kind_S : kindErr ⟨#[83]⟩ = 0 := by unfold kindErr; rw [if_pos (.inl isS_S)]
set_option maxRecDepth 100000 in
set_option maxHeartbeats 8000000 in
theorem Zones_true (o t y : Int) (v : Value) (cs : List (Int × Int)) (w : World) (hl : Ev.Reads lst w) (hv : SlV w v cs) (hn : cs.length * 16 ≤ 140737488355328) :
    Calls Tryd.prog 8 #[.agg #[.int .i64 o, v], .int .i64 t, .int .i64 y] w (IsTrue w) := by
  have HL := Lib.hid hl
  clear hl
  obtain ⟨A, cp, rfl⟩ := slv_len hv
  obtain ⟨W, HW, hb0, c0, c1⟩ : ∃ W, Hid (w.alloc (.cells #[.int .i64 o, .slice A cs.length cp] 72) = W) ∧ Below w.heap.size w W ∧ W.cell? ⟨w.heap.size, 0, none⟩ = some (.int .i64 o) ∧ W.cell? ⟨w.heap.size, 1, none⟩ = some (.slice A cs.length cp) := ⟨_, Lib.hid rfl, below_alloc w _, by simp, by simp⟩
  have hvW := hv.below hb0
  clear hv
  go_enter Tryd.func8, Tryd.ntmps8
  go_wp2_with fail
  rw [HW.out]
  go_wp2_with fail
  refine (zone_v o _ cs W hvW hn).mono ?_
  rintro e w1 ⟨v2, rfl, hv2, hb⟩
  obtain ⟨A2, p2, rfl⟩ := slv_len hv2
  replace c0 := b_old hb c0; replace c1 := b_old hb c1
  replace hvW := hvW.below hb
  have hb1 := b_then hb0 hb
  clear hb hb0 HW hn
  obtain ⟨V, HV, hbV, d0, d1⟩ : ∃ V, Hid (w1.alloc (.cells #[.int .i64 o, .slice A2 cs.length p2] 75) = V) ∧ Below w1.heap.size w1 V ∧ V.cell? ⟨w1.heap.size, 0, none⟩ = some (.int .i64 o) ∧ V.cell? ⟨w1.heap.size, 1, none⟩ = some (.slice A2 cs.length p2) := ⟨_, Lib.hid rfl, below_alloc w1 _, by simp, by simp⟩
  replace c0 := b_old hbV c0; replace c1 := b_old hbV c1
  replace hvW := hvW.below hbV; replace hv2 := hv2.below hbV
  have hb2 := b_then hb1 hbV
  clear hbV hb1
  go_wp2_with fail
  rw [HV.out]
  clear HV
  go_wp2_with fail
  refine (awake_true _ (reads_below HL.out hb2)).mono ?_
  rintro e w3 ⟨rfl, hb⟩
  replace c0 := b_old hb c0; replace c1 := b_old hb c1; replace d0 := b_old hb d0; replace d1 := b_old hb d1
  replace hvW := hvW.below hb; replace hv2 := hv2.below hb
  have hb3 := b_then hb2 hb
  clear hb hb2
  go_wp2_with fail
  refine (ShortZone_v o _ cs _ hv2).mono ?_
  rintro e w4 ⟨rfl, hb⟩
  replace c0 := b_old hb c0; replace c1 := b_old hb c1; replace d0 := b_old hb d0; replace d1 := b_old hb d1
  replace hvW := hvW.below hb; replace hv2 := hv2.below hb
  have hb4 := b_then hb3 hb
  clear hb hb3
  cases hsb : shortB cs.length
  · clear hsb
    go_wp2_with fail
    refine (awake_true _ (reads_below HL.out hb4)).mono ?_
    rintro e w5 ⟨rfl, hb⟩
    have hb5 := b_then hb4 hb
    go_wp2_with fail
    go_ret
    exact ⟨rfl, hb5⟩
  clear hsb
  go_wp2_with fail
  refine (qCheckZone_v o _ cs _ hv2).mono ?_
  rintro e w5 ⟨rfl, hb⟩
  replace c0 := b_old hb c0; replace c1 := b_old hb c1
  replace hvW := hvW.below hb
  have hb5 := b_then hb4 hb
  clear hb hb4 hv2 d0 d1
  by_cases hz : zoneErr o cs = 0
  case neg =>
    have hzb : (zoneErr o cs != 0) = true := by rw [bne_iff_ne]; exact hz
    clear hz
    go_wp2_with fail
    refine (awake_true _ (reads_below HL.out hb5)).mono ?_
    rintro e w6 ⟨rfl, hb⟩
    have hb6 := b_then hb5 hb
    go_wp2_with fail
    go_ret
    exact ⟨rfl, hb6⟩
  have HZ := Lib.hid hz
  clear hz
  rw [HZ.out]
  go_wp2_with fail
  refine (qCheckMoment_any _ _).mono ?_
  rintro e w6 ⟨rfl, hw⟩
  rw [hw]
  clear hw
  by_cases ht : 0 ≤ t ∧ t ≤ 143999999
  case neg =>
    rw [rng_bad ht]
    clear ht
    go_wp2_with fail
    refine (awake_true _ (reads_below HL.out hb5)).mono ?_
    rintro e w6 ⟨rfl, hb⟩
    have hb6 := b_then hb5 hb
    go_wp2_with fail
    go_ret
    exact ⟨rfl, hb6⟩
  obtain ⟨t1, t2⟩ := ht
  rw [rng_ok t1 t2]
  go_wp2_with fail
  refine (qRange_any _ _ _ _).mono ?_
  rintro e w6 ⟨rfl, hw⟩
  rw [hw]
  clear hw
  by_cases hy : 2000 ≤ y ∧ y ≤ 2272
  case neg =>
    rw [rng_bad hy]
    clear hy
    go_wp2_with fail
    refine (awake_true _ (reads_below HL.out hb5)).mono ?_
    rintro e w6 ⟨rfl, hb⟩
    have hb6 := b_then hb5 hb
    go_wp2_with fail
    go_ret
    exact ⟨rfl, hb6⟩
  obtain ⟨y1, y2⟩ := hy
  rw [rng_ok y1 y2]
  obtain ⟨ho, hlen, ha, hall⟩ := zone_good HZ.out
  have HGP := Lib.hid (zone_gp HZ.out)
  have hoff := offR_in (t := t) ho (fun c hc => (hall c hc).2)
  have HLOC : Hid (locOf o cs t = t + offR o cs t) := Lib.hid (by unfold locOf; rw [locs_offR ha t1 t2])
  have HMEM : Hid (t ∈ univ o cs (t + offR o cs t)) := Lib.hid (univ_mem ha t1 t2)
  have HTWO : Hid ((univ o cs (t + offR o cs t)).length ≤ 2) := Lib.hid (hits_two HGP.out)
  have HPAIR : Hid (∀ x z, univ o cs (t + offR o cs t) = [x, z] → x < z) := Lib.hid (fun x z h => univ_pair ha h)
  have HNIL : Hid (cs = [] → offR o cs t = o) := Lib.hid (fun h => by rw [h]; rfl)
  have HA := Lib.hid ha
  have HALL := Lib.hid hall
  obtain ⟨o1, o2⟩ := ho
  clear ha hall
  go_wp2_with fail
  refine (Local_v o t _ cs _ hvW HZ.out t1 t2).mono ?_
  rintro e w7 ⟨rfl, hb⟩
  replace c0 := b_old hb c0; replace c1 := b_old hb c1
  replace hvW := hvW.below hb
  have hb7 := b_then hb5 hb
  clear hb hb5
  rw [HLOC.out]
  clear HLOC
  generalize hX : t + offR o cs t = X at *
  have HX := Lib.hid hX
  clear hX
  obtain ⟨l, e1, HLR, hcs⟩ := loc_case X
  rw [HLR.out]
  clear HLR
  have hmid : (l = 0 ∧ e1 = 30) ∨ (0 ≤ X ∧ X ≤ 143999999 ∧ l = X ∧ e1 = 0) := by
    rcases hcs with ⟨a, b, c, d⟩ | ⟨-, c, d⟩
    · exact .inr ⟨a, b, c, d⟩
    · exact .inl ⟨c, d⟩
  clear hcs
  have HCS : Hid (0 ≤ X → X ≤ 143999999 → (∃ (b : Bool), univ o cs X = [t] ∧ ((cs.length : Int) == 0) = b ∧ (b = true → X = t + o)) ∨ (∃ x z, univ o cs X = [x, z] ∧ x < z ∧ t ∈ [x, z] ∧ ((cs.length : Int) == 0) = false)) := Lib.hid (by
    intro _ _
    have hm := HMEM.out
    have h2 := HTWO.out
    have hp := HPAIR.out
    have hx := HX.out
    have hnl := HNIL.out
    have h1 : cs = [] → (univ o cs X).length ≤ 1 := fun h => by
      rw [h]
      unfold univ
      rw [hits_one]
      exact hit_len _ _
    cases hU : univ o cs X with
    | nil => rw [hU] at hm; simp at hm
    | cons x r =>
      cases r with
      | nil =>
        left
        rw [hU] at hm
        obtain rfl := List.mem_singleton.1 hm
        refine ⟨_, rfl, rfl, fun h => ?_⟩
        have hc : cs = [] := List.eq_nil_of_length_eq_zero (by have := of_decide_eq_true h; omega)
        have := hnl hc
        omega
      | cons z r =>
        right
        rw [hU] at h2 h1 hm
        obtain rfl : r = [] := by simpa using h2
        refine ⟨x, z, rfl, hp x z hU, hm, ?_⟩
        rw [beq_eq_false_iff_ne]
        intro h
        have hc : cs = [] := List.eq_nil_of_length_eq_zero (by omega)
        have := h1 hc
        simp at this)
  clear HMEM HTWO HPAIR HNIL HX
  have HMID := Lib.hid hmid
  clear hmid
  go_upto_region 5 with fail
  go_cut [62] from 57 to 62 (fun c wx => c = .bool false ∧ wx = w7)
  case first =>
    rcases HMID.out with ⟨-, rfl⟩ | ⟨-, -, -, rfl⟩
    all_goals
      go_wp2_with fail
      go_meet
      exact ⟨rfl, rfl⟩
  case rest =>
  obtain ⟨rfl, rfl⟩ := hcut
  go_upto_if 64 with fail
  go_cut [] from 65 to 119 (fun wx => Below w.heap.size w wx ∧ wx.cell? ⟨w.heap.size, 0, none⟩ = some (.int .i64 o) ∧ wx.cell? ⟨w.heap.size, 1, none⟩ = some (.slice A cs.length cp) ∧ SlV wx (.slice A cs.length cp) cs)
  case first =>
    rcases HMID.out with ⟨rfl, rfl⟩ | ⟨X0, X1, rfl, rfl⟩
    · go_wp2_with fail
      go_meet
      exact ⟨hb7, c0, c1, hvW⟩
    · have hlx : ((cs.length : Int) == 0) = ((cs.length : Int) == 0) := rfl
      rcases HCS.out X0 X1 with ⟨bz, hU, hbz, hto⟩ | ⟨x, z, hU, hxz, hm, hbz⟩
      · have HU := Lib.hid hU
        have HTO := Lib.hid hto
        clear hU hto HCS hlx
        go_wp2_with fail
        refine (Universal_v o _ _ cs _ hvW HZ.out X0 X1).mono ?_
        rintro e w8 ⟨u, rfl, hown, hb⟩
        replace c0 := b_old hb c0; replace c1 := b_old hb c1
        replace hvW := hvW.below hb
        have hb8 := b_then hb7 hb
        clear hb hb7
        rw [HU.out] at hown
        rw [if_neg (by rw [HU.out]; simp)]
        obtain ⟨g, cap, rfl, hi⟩ := own_ints (n := 0) hown rfl
        have HHI := Lib.hid (fun q => HasInt_yes [t] t g cap 1 (w8.drewN q) hi rfl (by simp) (by decide))
        have h0 : w8.cell? ⟨g, 0, none⟩ = some (.int .i64 t) := hi 0 (by simp)
        clear hown
        go_wp2_with fail
        go_quiet ((go_at_call 44; exact Calls.quiet_of_same (HHI.out _)))
        cases bz
        · go_wp2_with fail
          go_meet
          exact ⟨b_drewN hb8 _, c0, c1, hvW.below (b_drewN (Below.refl _ _) _)⟩
        · have hlo : (l != t + o) = false := by rw [HTO.out rfl]; simp
          go_wp2_with fail
          go_meet
          exact ⟨b_drewN hb8 _, c0, c1, hvW.below (b_drewN (Below.refl _ _) _)⟩
      · have HU := Lib.hid hU
        have HMM := Lib.hid hm
        clear hU HCS hm hlx
        go_wp2_with fail
        refine (Universal_v o _ _ cs _ hvW HZ.out X0 X1).mono ?_
        rintro e w8 ⟨u, rfl, hown, hb⟩
        replace c0 := b_old hb c0; replace c1 := b_old hb c1
        replace hvW := hvW.below hb
        have hb8 := b_then hb7 hb
        clear hb hb7
        rw [HU.out] at hown
        rw [if_neg (by rw [HU.out]; simp)]
        obtain ⟨g, cap, rfl, hi⟩ := own_ints (n := 1) hown rfl
        have HHI := Lib.hid (fun q => HasInt_yes [x, z] t g cap 2 (w8.drewN q) hi rfl HMM.out (by decide))
        have h0 : w8.cell? ⟨g, 0, none⟩ = some (.int .i64 x) := hi 0 (by simp)
        have h1 : w8.cell? ⟨g, 1, none⟩ = some (.int .i64 z) := hi 1 (by simp)
        have hle : decide (z ≤ x) = false := decide_eq_false (by omega)
        clear hown hxz
        go_wp2_with fail
        go_quiet ((go_at_call 44; exact Calls.quiet_of_same (HHI.out _)))
        go_wp2_with fail
        go_meet
        exact ⟨b_drewN hb8 _, c0, c1, hvW.below (b_drewN (Below.refl _ _) _)⟩
  case rest =>
  obtain ⟨hb9, q0, q1, hvc⟩ := hcut
  clear hb7 c0 c1 hvW HCS HMID
  generalize wc = w9 at *
  all_goals
    go_wp2_with fail
    go_loopw [123] (fun i wr => ∃ k : Nat, k ≤ cs.length ∧ i = .int .i64 k ∧ Below w9.heap.size w9 wr) (fun i _ => cs.length - (intOf i).toNat)
    case atStart => exact ⟨0, Nat.zero_le _, rfl, Below.refl _ _⟩
    case round =>
      obtain ⟨k, hk, rfl, hbr⟩ := hrel
      have r0 := b_old hbr q0
      have r1 := b_old hbr q1
      have hvr := hvc.below hbr
      have hbz := b_then hb9 hbr
      by_cases hlt : k < cs.length
      · rcases hvr with ⟨A', c', e, hnil⟩ | ⟨b, off, cap', e, hch⟩
        · rw [hnil] at hlt; simp at hlt
        injection e with e1 e2 e3
        subst e1
        have hm := hch.m k hlt
        have hq := hch.o k hlt
        have HSK : Hid (bef o cs k < (cs.getD k (0, 0)).2 → univ o cs ((cs.getD k (0, 0)).1 + bef o cs k) = []) := Lib.hid (fun h => hits_skip HGP.out HA.out hlt h rfl)
        have HTW : Hid ((cs.getD k (0, 0)).2 < bef o cs k → 180 ≤ (cs.getD k (0, 0)).1 → univ o cs ((cs.getD k (0, 0)).1 + (cs.getD k (0, 0)).2) = [(cs.getD k (0, 0)).1 + (cs.getD k (0, 0)).2 - bef o cs k, (cs.getD k (0, 0)).1]) := Lib.hid (fun h h2 => hits_twice HGP.out HA.out hlt h rfl (fun _ => by omega))
        obtain ⟨⟨m1, m2⟩, n1, n2⟩ := mem_range HALL.out k hlt
        have HP0 : Hid (k = 0 → bef o cs k = o) := Lib.hid (fun h => by rw [h]; rfl)
        have HPS : Hid (∀ j, k = j + 1 → wr.cell? ⟨b, off + j * 2 + 1, none⟩ = some (.int .i64 (bef o cs k))) := Lib.hid (fun j h => by rw [h]; exact hch.o j (by omega))
        have hBb : -720 ≤ bef o cs k ∧ bef o cs k ≤ 840 := by
          cases k with
          | zero => exact ⟨o1, o2⟩
          | succ j => exact (mem_range HALL.out j (by omega)).2
        generalize (cs.getD k (0, 0)).1 = m at *
        generalize (cs.getD k (0, 0)).2 = q at *
        generalize bef o cs k = B at *
        obtain ⟨B1, B2⟩ := hBb
        obtain ⟨V, HV, hbV, s0, s1, f0, f1⟩ : ∃ V, Hid (wr.alloc (.cells #[.int .i64 m, .int .i64 q] 83) = V) ∧ Below wr.heap.size wr V ∧ V.cell? ⟨w.heap.size, 0, none⟩ = some (.int .i64 o) ∧ V.cell? ⟨w.heap.size, 1, none⟩ = some (.slice (some ⟨b, off, none⟩) cs.length cp) ∧ V.cell? ⟨wr.heap.size, 0, none⟩ = some (.int .i64 m) ∧ V.cell? ⟨wr.heap.size, 1, none⟩ = some (.int .i64 q) := ⟨_, Lib.hid rfl, below_alloc wr _, b_old (below_alloc wr _) r0, b_old (below_alloc wr _) r1, by simp, by simp⟩
        have hchV := hch.below hbV
        have HVS : Hid (SlV V (.slice (some ⟨b, off, none⟩) cs.length cp) cs) := Lib.hid (.inr ⟨b, off, cp, rfl, hchV⟩)
        have hbV2 := b_then hbr hbV
        go_upto_region 16 with fail
        rw [HV.out]
        clear HV hch hchV e2 e3
        have hgo : (k = 0 ∧ o = B) ∨ ∃ j, k = j + 1 ∧ V.cell? ⟨b, off + j * 2 + 1, none⟩ = some (.int .i64 B) := by
          cases k with
          | zero => exact .inl ⟨rfl, (HP0.out rfl).symm⟩
          | succ j => exact .inr ⟨j, rfl, b_old hbV (HPS.out j rfl)⟩
        have hcase : (B = q) ∨ (∃ loc, loc = m + B ∧ B < q ∧ min B q = B ∧ (B == q) = false ∧ (decide (B < q) = true ∧ decide (q < B) = false) ∧ univ o cs loc = []) ∨ (∃ loc, loc = m + q ∧ q < B ∧ min B q = q ∧ (B == q) = false ∧ decide (B < q) = false ∧ (180 ≤ m → ∃ x, univ o cs loc = [x, m])) := by
          rcases Int.lt_trichotomy B q with h | h | h
          · exact .inr (.inl ⟨_, rfl, h, by omega, by rw [beq_eq_false_iff_ne]; omega, ⟨decide_eq_true h, decide_eq_false (by omega)⟩, HSK.out h⟩)
          · exact .inl h
          · exact .inr (.inr ⟨_, rfl, h, by omega, by rw [beq_eq_false_iff_ne]; omega, decide_eq_false (by omega), fun h2 => ⟨_, HTW.out h h2⟩⟩)
        have HCASE := Lib.hid hcase
        clear hcase HSK HTW HP0 HPS hm hq
        rcases hgo with ⟨rfl, rfl⟩ | ⟨j, rfl, hpv⟩
        all_goals
          rcases HCASE.out with rfl | ⟨loc, hloc, hBq, hmin, hne, ⟨hBt, hqf⟩, hU⟩ | ⟨loc, hloc, hqB, hmin, hne, hBf, hU⟩
          · clear HCASE
            go_wp2_with fail
            go_roundw
            case rel => first | exact ⟨0 + 1, by omega, by go_num, hbV2⟩ | exact ⟨j + 1 + 1, by omega, by go_num, hbV2⟩
            case measure => first | (simp [intOf]; omega) | (simp [intOf]; intro h; rw [h] at hlt; simp at hlt)
          · clear HCASE
            have HU := Lib.hid hU
            clear hU
            by_cases l0 : 0 ≤ loc
            · by_cases l1 : loc ≤ 143999999
              · by_cases l2 : 180 ≤ m
                · have g0 : decide (loc < 0) = false := decide_eq_false (by omega)
                  have g1 : decide (143999999 < loc) = false := decide_eq_false (by omega)
                  have g2 : decide (m < 180) = false := decide_eq_false (by omega)
                  subst hloc
                  go_wp2_with fail
                  refine (Universal_v o _ _ cs _ HVS.out HZ.out l0 l1).mono ?_
                  rintro e w8 ⟨u, rfl, hown, hb⟩
                  replace f0 := b_old hb f0; replace f1 := b_old hb f1
                  have hb8 := b_then hbV2 hb
                  clear hb
                  rw [HU.out] at hown
                  rw [if_pos HU.out]
                  obtain ⟨A7, c7, rfl⟩ := own_zero1 hown
                  clear hown
                  go_wp2_with fail
                  go_quiet (fail)
                  go_wp2_with fail
                  go_roundw
                  case rel => first | exact ⟨0 + 1, by omega, by go_num, b_drewN hb8 _⟩ | exact ⟨j + 1 + 1, by omega, by go_num, b_drewN hb8 _⟩
                  case measure => first | (simp [intOf]; omega) | (simp [intOf]; intro h; rw [h] at hlt; simp at hlt)
                · have g0 : decide (loc < 0) = false := decide_eq_false (by omega)
                  have g1 : decide (143999999 < loc) = false := decide_eq_false (by omega)
                  have g2 : decide (m < 180) = true := decide_eq_true (by omega)
                  subst hloc
                  go_wp2_with fail
                  go_roundw
                  case rel => first | exact ⟨0 + 1, by omega, by go_num, hbV2⟩ | exact ⟨j + 1 + 1, by omega, by go_num, hbV2⟩
                  case measure => first | (simp [intOf]; omega) | (simp [intOf]; intro h; rw [h] at hlt; simp at hlt)
              · have g0 : decide (loc < 0) = false := decide_eq_false (by omega)
                have g1 : decide (143999999 < loc) = true := decide_eq_true (by omega)
                subst hloc
                go_wp2_with fail
                go_roundw
                case rel => first | exact ⟨0 + 1, by omega, by go_num, hbV2⟩ | exact ⟨j + 1 + 1, by omega, by go_num, hbV2⟩
                case measure => first | (simp [intOf]; omega) | (simp [intOf]; intro h; rw [h] at hlt; simp at hlt)
            · have g0 : decide (loc < 0) = true := decide_eq_true (by omega)
              subst hloc
              go_wp2_with fail
              go_roundw
              case rel => first | exact ⟨0 + 1, by omega, by go_num, hbV2⟩ | exact ⟨j + 1 + 1, by omega, by go_num, hbV2⟩
              case measure => first | (simp [intOf]; omega) | (simp [intOf]; intro h; rw [h] at hlt; simp at hlt)
          · clear HCASE
            have HU := Lib.hid hU
            clear hU
            by_cases l0 : 0 ≤ loc
            · by_cases l1 : loc ≤ 143999999
              · by_cases l2 : 180 ≤ m
                · have g0 : decide (loc < 0) = false := decide_eq_false (by omega)
                  have g1 : decide (143999999 < loc) = false := decide_eq_false (by omega)
                  have g2 : decide (m < 180) = false := decide_eq_false (by omega)
                  subst hloc
                  obtain ⟨x, hU2⟩ := HU.out l2
                  have HU2 := Lib.hid hU2
                  clear hU2
                  go_wp2_with fail
                  refine (Universal_v o _ _ cs _ HVS.out HZ.out l0 l1).mono ?_
                  rintro e w8 ⟨u, rfl, hown, hb⟩
                  replace f0 := b_old hb f0; replace f1 := b_old hb f1
                  have hb8 := b_then hbV2 hb
                  clear hb
                  rw [HU2.out] at hown
                  rw [if_neg (by rw [HU2.out]; simp)]
                  obtain ⟨g, cap, rfl, hi⟩ := own_ints (n := 1) hown rfl
                  have h1 : w8.cell? ⟨g, 1, none⟩ = some (.int .i64 m) := hi 1 (by simp)
                  clear hown hi
                  go_wp2_with fail
                  go_quiet (fail)
                  go_wp2_with fail
                  go_roundw
                  case rel => first | exact ⟨0 + 1, by omega, by go_num, b_drewN hb8 _⟩ | exact ⟨j + 1 + 1, by omega, by go_num, b_drewN hb8 _⟩
                  case measure => first | (simp [intOf]; omega) | (simp [intOf]; intro h; rw [h] at hlt; simp at hlt)
                · have g0 : decide (loc < 0) = false := decide_eq_false (by omega)
                  have g1 : decide (143999999 < loc) = false := decide_eq_false (by omega)
                  have g2 : decide (m < 180) = true := decide_eq_true (by omega)
                  subst hloc
                  go_wp2_with fail
                  go_roundw
                  case rel => first | exact ⟨0 + 1, by omega, by go_num, hbV2⟩ | exact ⟨j + 1 + 1, by omega, by go_num, hbV2⟩
                  case measure => first | (simp [intOf]; omega) | (simp [intOf]; intro h; rw [h] at hlt; simp at hlt)
              · have g0 : decide (loc < 0) = false := decide_eq_false (by omega)
                have g1 : decide (143999999 < loc) = true := decide_eq_true (by omega)
                subst hloc
                go_wp2_with fail
                go_roundw
                case rel => first | exact ⟨0 + 1, by omega, by go_num, hbV2⟩ | exact ⟨j + 1 + 1, by omega, by go_num, hbV2⟩
                case measure => first | (simp [intOf]; omega) | (simp [intOf]; intro h; rw [h] at hlt; simp at hlt)
            · have g0 : decide (loc < 0) = true := decide_eq_true (by omega)
              subst hloc
              go_wp2_with fail
              go_roundw
              case rel => first | exact ⟨0 + 1, by omega, by go_num, hbV2⟩ | exact ⟨j + 1 + 1, by omega, by go_num, hbV2⟩
              case measure => first | (simp [intOf]; omega) | (simp [intOf]; intro h; rw [h] at hlt; simp at hlt)
      · clear hvr
        have hO1 : -600 < o.tmod 600 := Int.lt_tmod_of_pos o (by decide)
        have hO2 : o.tmod 600 < 600 := Int.tmod_lt_of_pos o (by decide)
        go_wp2_with fail
        obtain ⟨O, hO⟩ : ∃ O, o.tmod 600 = O := ⟨_, rfl⟩
        rw [hO] at hO1 hO2 ⊢
        refine (Summer_ok O y y _ (reads_tab (reads_below HL.out hbz)) (by omega) (by omega) y1 (by omega) y2 (by omega)).mono ?_
        rintro e w10 ⟨v4, rfl, hown, hb⟩
        rw [show (y - y + 1).toNat = 1 by omega] at hown
        obtain ⟨g, cap, rfl⟩ : ∃ g cap, v4 = .slice (some ⟨g, 0, none⟩) 2 cap := ownsRow_succ (k := 1) hown
        have hch := chAt_own hown (by rw [sumCs_len])
        rw [sumCs_one] at hch
        replace r0 := b_old hb r0; replace r1 := b_old hb r1
        have hb10 := b_then hbz hb
        clear hb hown
        have h3b := ls3_bd y
        have h10b := ls10_bd y
        have hdb := Cal.db_bd y y1 (by omega)
        have hdm := Cal.db_mono y 2272 y2
        have hdz : Cal.db 2272 = 99346 := by decide
        rw [hdz] at hdm
        clear hdz
        have hFL := fDay_S y
        generalize Cal.ls y 3 = LA at *
        generalize Cal.ls y 10 = LB at *
        have hA0 : 0 ≤ LA := by omega
        have hAB : LA < LB := by omega
        obtain ⟨V1, HV1, hbV1, s0, s1⟩ : ∃ V1, Hid (w10.alloc (.cells #[.int .i64 O, .slice (some ⟨g, 0, none⟩) 2 cap] 72) = V1) ∧ Below w10.heap.size w10 V1 ∧ V1.cell? ⟨w10.heap.size, 0, none⟩ = some (.int .i64 O) ∧ V1.cell? ⟨w10.heap.size, 1, none⟩ = some (.slice (some ⟨g, 0, none⟩) 2 cap) := ⟨_, Lib.hid rfl, below_alloc w10 _, by simp, by simp⟩
        go_upto_region 26 with fail
        rw [HV1.out]
        clear HV1
        replace hch := hch.below hbV1
        replace r0 := b_old hbV1 r0
        have hb11 := b_then hb10 hbV1
        clear hbV1 hb10 r1
        go_wp2_with fail
        refine (Span_ok y _ _ (reads_tab (reads_below HL.out hb11)) y1 y2 kind_S).mono ?_
        rintro e w11 ⟨rfl, hb⟩
        rw [hFL.1, hFL.2]
        replace hch := hch.below hb
        replace r0 := b_old hb r0; replace s0 := b_old hb s0; replace s1 := b_old hb s1
        have hb12 := b_then hb11 hb
        clear hb hb11 hFL
        obtain ⟨V2, HV2, hbV2, p0, p1⟩ : ∃ V2, Hid (w11.alloc (.cells #[.int .i64 LA, .int .i64 (LB - 1), .int .i64 127] 23) = V2) ∧ Below w11.heap.size w11 V2 ∧ V2.cell? ⟨w11.heap.size, 0, none⟩ = some (.int .i64 LA) ∧ V2.cell? ⟨w11.heap.size, 1, none⟩ = some (.int .i64 (LB - 1)) := ⟨_, Lib.hid rfl, below_alloc w11 _, by simp, by simp⟩
        go_upto_region 27 with fail
        rw [HV2.out]
        clear HV2
        replace hch := hch.below hbV2
        replace r0 := b_old hbV2 r0; replace s0 := b_old hbV2 s0; replace s1 := b_old hbV2 s1
        have hb13 := b_then hb12 hbV2
        clear hbV2 hb12
        go_wp2_with fail
        refine (Local_v O t _ (oneCs O LA LB) _ (.inr ⟨g, 0, cap, rfl, hch⟩) (one_zone O LA LB hO1 hO2 hA0 hAB (by omega)) t1 t2).mono ?_
        rintro e w12 ⟨rfl, hb⟩
        rw [one_loc_any O LA LB t hA0 hAB (by omega) t1 t2]
        replace r0 := b_old hb r0; replace p0 := b_old hb p0; replace p1 := b_old hb p1
        have hb14 := b_then hb13 hb
        clear hb hb13 hch s0 s1
        have hseason : ∃ ah, Hid ((if 1440 * LA + 60 ≤ t ∧ t < 1440 * LB + 60 then (60 : Int) else 0) = ah) ∧ ((1440 * LA + 60 ≤ t ∧ decide (t < 1440 * LB + 60) = true ∧ ah = 60) ∨ (1440 * LA + 60 ≤ t ∧ decide (t < 1440 * LB + 60) = false ∧ ah = 0) ∨ (decide (1440 * LA + 60 ≤ t) = false ∧ ah = 0)) := by
          by_cases c1 : 1440 * LA + 60 ≤ t
          · by_cases c2 : t < 1440 * LB + 60
            · exact ⟨60, Lib.hid (if_pos ⟨c1, c2⟩), .inl ⟨c1, decide_eq_true c2, rfl⟩⟩
            · exact ⟨0, Lib.hid (if_neg (fun h => c2 h.2)), .inr (.inl ⟨c1, decide_eq_false c2, rfl⟩)⟩
          · exact ⟨0, Lib.hid (if_neg (fun h => c1 h.1)), .inr (.inr ⟨decide_eq_false c1, rfl⟩)⟩
        obtain ⟨ah, HAH, hse⟩ := hseason
        rw [HAH.out]
        clear HAH
        have hLA : LA ≤ 99999 := by omega
        have hLB : LB ≤ 99999 := by omega
        clear h3b h10b hdb hdm
        obtain ⟨va, e6, HLR, hcs⟩ := loc_case (t + O + ah)
        rw [HLR.out]
        clear HLR
        rcases hse with ⟨x1, x2, rfl⟩ | ⟨x1, x2, rfl⟩ | ⟨x1, rfl⟩
        all_goals
          (try rw [Int.add_zero] at hcs)
          rcases hcs with ⟨z1, z2, rfl, rfl⟩ | ⟨z1, rfl, rfl⟩
          · go_wp2_with fail
            go_ret
            exact ⟨rfl, hb14⟩
          · rcases (show t + O + 60 < 0 ∨ 143999999 < t + O + 60 ∨ t + O < 0 ∨ 143999999 < t + O from by omega) with z | z | z | z
            all_goals
              go_wp2_with fail
              go_ret
              exact ⟨rfl, hb14⟩
end Go.Proofs.YtbpoljebkhccjaaDoor
