/- Contracts of package calendar: Local and Universal of a zone with any slice of changes. -/
import Derived.Test.YtbpoljebkhccjaaDoorZoneE
namespace Go.Proofs.YtbpoljebkhccjaaDoor
open Go Go.RowKit
set_option maxRecDepth 100000 in
set_option maxHeartbeats 1000000 in
theorem Local_v (o t : Int) (v : Value) (cs : List (Int × Int)) (w : World) (hc : SlV w v cs) (hz : zoneErr o cs = 0) (ht1 : 0 ≤ t) (ht2 : t ≤ 143999999) :
    Calls Tryd.prog 42 #[.agg #[.int .i64 o, v], .int .i64 t] w fun r w' => r = .returned (locRes (locOf o cs t)) ∧ Below w.heap.size w w' := by
  obtain ⟨⟨h1, h2⟩, hn, -, hr⟩ := zone_good hz
  have HZ := Lib.hid hz; clear hz
  have HT : Hid (rng t 0 143999999 = 0) := Lib.hid (rng_ok ht1 ht2)
  have HR := Lib.hid hr; clear hr
  have HO : Hid (∀ i, i < cs.length + 1 → -720 ≤ ((strs 0 o cs).getD i (0, 0, 0)).2.2 ∧ ((strs 0 o cs).getD i (0, 0, 0)).2.2 ≤ 840) := Lib.hid (fun i hi => by
    have hl := strs_len 0 o cs
    have hi' : i < (strs 0 o cs).length := by omega
    simp only [List.getD_eq_getElem?_getD, List.getElem?_eq_getElem hi', Option.getD_some]
    exact strs_off 0 o cs ⟨h1, h2⟩ (fun c hc => (HR.out c hc).2) _ (List.getElem_mem hi'))
  obtain ⟨W, HW, hb0, hk0, hk1⟩ : ∃ W, Hid (w.alloc (.cells #[.int .i64 o, v] 72) = W) ∧ Below w.heap.size w W ∧ W.cell? ⟨w.heap.size, 0, none⟩ = some (.int .i64 o) ∧ W.cell? ⟨w.heap.size, 1, none⟩ = some (v) := ⟨_, Lib.hid rfl, below_alloc w _, by simp, by simp⟩
  go_enter Tryd.func42, Tryd.ntmps42
  go_wp2_with fail
  rw [HW.out]
  refine (CheckZone_v o v cs W (hc.below hb0)).mono ?_
  rintro e w1 ⟨rfl, hb1⟩
  rw [HZ.out]
  have hb01 := b_then hb0 hb1
  have k0 := b_old hb1 hk0
  have k1 := b_old hb1 hk1
  go_wp2_with fail
  refine (checkMoment_any _ _).mono ?_
  rintro e w1 ⟨rfl, rfl⟩
  rw [HT.out]
  go_wp2_with fail
  refine (fe_new [_, _] _ _ _ _ _ rfl rfl (by simp)).mono ?_
  rintro e w2 ⟨rfl, hw⟩
  have hz00 : (fst [0, 0] != 0) = false := rfl
  have hb2 : Below w1.heap.size w1 w2 := by rw [hw]; exact below_alloc _ _
  have hb02 := b_then hb01 hb2
  have l0 := b_old hb2 k0
  have l1 := b_old hb2 k1
  clear hw hb1 k0 k1 hk0 hk1 hb2 hb0
  go_wp2_with fail
  refine (stretches_v o v cs w2 (hc.below hb02) HZ.out).mono ?_
  rintro e w3 ⟨vs, rfl, hown, hb3⟩
  obtain ⟨g, cap3, rfl, hst⟩ := stAt_of_own hown (strs_len 0 o cs)
  have hb03 := b_then hb02 hb3
  clear hown l0 l1
  have HL := Lib.hid (strs_len 0 o cs)
  have HU : Hid (locOf o cs t = t + locs t (strs 0 o cs)) := Lib.hid rfl
  generalize strs 0 o cs = l at *
  go_wp2_with fail
  go_loopw [7, 23] (fun v i wr => ∃ (k : Nat) (x : Int), k ≤ cs.length + 1 ∧ i = .int .i64 k ∧ v = .int .i64 (t + x) ∧ Hid (x = locs t (l.take k)) ∧ -1000 * (k : Int) ≤ x ∧ x ≤ 1000 * (k : Int) ∧ Below w3.heap.size w3 wr) (fun _ i _ => cs.length + 1 - (intOf i).toNat)
  case atStart => exact ⟨0, 0, Nat.zero_le _, rfl, by simp, Lib.hid (by simp [locs]), by simp, by simp, Below.refl _ _⟩
  case round =>
    obtain ⟨k, x, hk, rfl, rfl, HX, hx1, hx2, hbr⟩ := hrel
    by_cases hlt : k < cs.length + 1
    · have hst' := hst.below hbr
      have hkl : k < l.length := by have := HL.out; omega
      have hf := hst'.f k hkl
      have hto := hst'.t k hkl
      have hof := hst'.o k hkl
      obtain ⟨ho1, ho2⟩ := HO.out k hlt
      have HH := Lib.hid (locs_take t l k hkl)
      generalize hsv : l.getD k (0, 0, 0) = sv at *
      obtain ⟨s1, s2, s3⟩ := sv
      simp only at hf hto hof ho1 ho2
      clear hsv hst'
      by_cases c1 : s1 ≤ t
      · by_cases c2 : t ≤ s2
        · have HN : Hid (locs t (l.take (k + 1)) = x + s3) := Lib.hid (by rw [HH.out, ← HX.out]; simp [inS, c1, c2])
          clear HH HX
          go_wp2_with fail
          go_roundw
          case rel => exact ⟨k + 1, x + s3, by omega, by go_num, by go_num, Lib.hid HN.out.symm, by omega, by omega, hbr.alloc hbr.size _⟩
          case measure => simp [intOf]; omega
        · have HN : Hid (locs t (l.take (k + 1)) = x) := Lib.hid (by rw [HH.out, ← HX.out]; simp [inS, c2])
          clear HH HX
          go_wp2_with fail
          go_roundw
          case rel => exact ⟨k + 1, x, by omega, by go_num, rfl, Lib.hid HN.out.symm, by omega, by omega, hbr.alloc hbr.size _⟩
          case measure => simp [intOf]; omega
      · have HN : Hid (locs t (l.take (k + 1)) = x) := Lib.hid (by rw [HH.out, ← HX.out]; simp [inS, c1])
        clear HH HX
        go_wp2_with fail
        go_roundw
        case rel => exact ⟨k + 1, x, by omega, by go_num, rfl, Lib.hid HN.out.symm, by omega, by omega, hbr.alloc hbr.size _⟩
        case measure => simp [intOf]; omega
    · obtain rfl : k = cs.length + 1 := by omega
      have HA : Hid (locOf o cs t = t + x) := Lib.hid (by rw [HU.out, HX.out, List.take_of_length_le (by have := HL.out; omega)])
      have hbf := b_then hb03 hbr
      by_cases hin : 0 ≤ t + x ∧ t + x ≤ 143999999
      · have HN : Hid (rng (t + x) 0 143999999 = 0) := Lib.hid (rng_ok hin.1 hin.2)
        clear hin
        go_wp2_with fail
        refine (checkMoment_any _ _).mono ?_
        rintro e w5 ⟨rfl, rfl⟩
        rw [HN.out]
        go_wp2_with fail
        go_ret2
        exact ⟨by rw [HA.out]; unfold locRes; rw [if_pos HN.out]; rfl, hbf⟩
      · have HN : Hid (rng (t + x) 0 143999999 = 3) := Lib.hid (rng_bad hin)
        clear hin
        go_wp2_with fail
        refine (checkMoment_any _ _).mono ?_
        rintro e w5 ⟨rfl, rfl⟩
        rw [HN.out]
        go_wp2_with fail
        go_ret2
        exact ⟨by rw [HA.out]; unfold locRes; rw [if_neg (by rw [HN.out]; decide)]; rfl, hbf⟩
set_option maxRecDepth 100000 in
set_option maxHeartbeats 1000000 in
theorem Universal_v (o t : Int) (v : Value) (cs : List (Int × Int)) (w : World) (hc : SlV w v cs) (hz : zoneErr o cs = 0) (ht1 : 0 ≤ t) (ht2 : t ≤ 143999999) :
    Calls Tryd.prog 43 #[.agg #[.int .i64 o, v], .int .i64 t] w (UnivRes w o cs t) := by
  obtain ⟨i0, hi, hz0, hz1, hz2⟩ := info_parts infoInt
  obtain ⟨⟨h1, h2⟩, hn, -, hr⟩ := zone_good hz
  have HZ := Lib.hid hz; clear hz
  have HT : Hid (rng t 0 143999999 = 0) := Lib.hid (rng_ok ht1 ht2)
  have HR := Lib.hid hr; clear hr
  have HO : Hid (∀ i, i < cs.length + 1 → -720 ≤ ((strs 0 o cs).getD i (0, 0, 0)).2.2 ∧ ((strs 0 o cs).getD i (0, 0, 0)).2.2 ≤ 840) := Lib.hid (fun i hi => by
    have hl := strs_len 0 o cs
    have hi' : i < (strs 0 o cs).length := by omega
    simp only [List.getD_eq_getElem?_getD, List.getElem?_eq_getElem hi', Option.getD_some]
    exact strs_off 0 o cs ⟨h1, h2⟩ (fun c hc => (HR.out c hc).2) _ (List.getElem_mem hi'))
  obtain ⟨W, HW, hb0, hk0, hk1⟩ : ∃ W, Hid (w.alloc (.cells #[.int .i64 o, v] 72) = W) ∧ Below w.heap.size w W ∧ W.cell? ⟨w.heap.size, 0, none⟩ = some (.int .i64 o) ∧ W.cell? ⟨w.heap.size, 1, none⟩ = some (v) := ⟨_, Lib.hid rfl, below_alloc w _, by simp, by simp⟩
  go_enter Tryd.func43, Tryd.ntmps43
  go_wp2_with fail
  rw [HW.out]
  refine (CheckZone_v o v cs W (hc.below hb0)).mono ?_
  rintro e w1 ⟨rfl, hb1⟩
  rw [HZ.out]
  have hb01 := b_then hb0 hb1
  have k0 := b_old hb1 hk0
  have k1 := b_old hb1 hk1
  go_wp2_with fail
  refine (checkMoment_any _ _).mono ?_
  rintro e w1 ⟨rfl, rfl⟩
  rw [HT.out]
  go_wp2_with fail
  refine (fe_new [_, _] _ _ _ _ _ rfl rfl (by simp)).mono ?_
  rintro e w2 ⟨rfl, hw⟩
  have hz00 : (fst [0, 0] != 0) = false := rfl
  have hb2 : Below w1.heap.size w1 w2 := by rw [hw]; exact below_alloc _ _
  have hb02 := b_then hb01 hb2
  have l0 := b_old hb2 k0
  have l1 := b_old hb2 k1
  clear hw hb1 k0 k1 hk0 hk1 hb2 hb0
  go_wp2_with fail
  refine (stretches_v o v cs w2 (hc.below hb02) HZ.out).mono ?_
  rintro e w3 ⟨vs, rfl, hown, hb3⟩
  obtain ⟨g, cap3, rfl, hst⟩ := stAt_of_own hown (strs_len 0 o cs)
  have hb03 := b_then hb02 hb3
  clear hown l0 l1
  have HL := Lib.hid (strs_len 0 o cs)
  have HU : Hid (univ o cs t = hits t (strs 0 o cs)) := Lib.hid rfl
  generalize strs 0 o cs = l at *
  go_wp2_with fail
  go_loopw [7, 23] (fun v i wr => ∃ (k : Nat), k ≤ cs.length + 1 ∧ i = .int .i64 k ∧ wr.ownsRow w3.heap.size 3 1 v (hits t (l.take k)).length ((hits t (l.take k)).map (Value.int .i64)) ∧ Below w3.heap.size w3 wr) (fun _ i _ => cs.length + 1 - (intOf i).toNat)
  case atStart => exact ⟨0, Nat.zero_le _, rfl, World.ownsRow_nil _ _ _ _, Below.refl _ _⟩
  case round =>
    obtain ⟨k, hk, rfl, hown, hbr⟩ := hrel
    by_cases hlt : k < cs.length + 1
    · have hst' := hst.below hbr
      have hkl : k < l.length := by have := HL.out; omega
      have hf := hst'.f k hkl
      have hto := hst'.t k hkl
      have hof := hst'.o k hkl
      obtain ⟨ho1, ho2⟩ := HO.out k hlt
      have HH := Lib.hid (hits_take t l k hkl)
      generalize hsv : l.getD k (0, 0, 0) = sv at *
      obtain ⟨s1, s2, s3⟩ := sv
      simp only at hf hto hof ho1 ho2
      clear hsv hst'
      have hll := hits_len t (l.take k)
      have hkk : (hits t (l.take k)).length ≤ k := by simp at hll; omega
      clear hll
      by_cases c1 : s1 ≤ t - s3
      · by_cases c2 : t - s3 ≤ s2
        · have HN : Hid (hits t (l.take (k + 1)) = hits t (l.take k) ++ [t - s3]) := Lib.hid (by rw [HH.out]; simp [hit, c1, c2])
          clear HH
          go_upto_region 10 with (fail)
          obtain ⟨V, hV, hownV, hbV⟩ : ∃ V, wr.alloc (.cells #[.int .i64 s1, .int .i64 s2, .int .i64 s3] 121) = V ∧ V.ownsRow w3.heap.size 3 1 u7 (hits t (l.take k)).length ((hits t (l.take k)).map (Value.int .i64)) ∧ Below w3.heap.size w3 V := ⟨_, rfl, hown.alloc _, hbr.alloc hbr.size _⟩
          rw [hV]
          clear hV
          have hsV := hbV.size
          have hl1 : (hits t (l.take k)).length + 1 ≤ maxLen := by unfold maxLen; omega
          iterate 10 go_step
          refine wpList_append_own _ rfl _ _ 36 rfl w3.heap.size 3 i0 (.int .i64 0) 1 8 Tryd.underlying36 hi hz0 hz1 hz2 rfl (by decide) _ (hits t (l.take k)).length _ rfl (hownV.alloc _) ⟨V.heap.size, 0, none⟩ 1 1 [.int .i64 (t - s3)] rfl rfl
            (World.news_of_block (cs := #[.int .i64 (t - s3)]) (t := 3) (fr := (0, 0)) (heap_alloc_new V _)) (by simp [Value.oneCell']) hl1 (by omega) (by simp; omega) ?_
          intro v' w4 hown' hgrow _
          have hgrow2 : (V.alloc (.cells #[.int .i64 (t - s3)] 3)).grownBy w4 u7.ownBlock := hgrow
          have hb4 : Below w3.heap.size w3 w4 := (hbV.alloc hbV.size _).grown hgrow2 (by simp; omega) (own_block hownV)
          have HOW : Hid (w4.ownsRow w3.heap.size 3 1 v' (hits t (l.take (k + 1))).length ((hits t (l.take (k + 1))).map (Value.int .i64))) := Lib.hid (by rw [HN.out]; simpa using hown')
          clear hgrow hgrow2 hown' hownV hown
          go_wp2_with fail
          go_roundw
          case rel => exact ⟨k + 1, by omega, by go_num, HOW.out, hb4⟩
          case measure => simp [intOf]; omega
        · have HN : Hid (hits t (l.take (k + 1)) = hits t (l.take k)) := Lib.hid (by rw [HH.out]; simp [hit, c2])
          clear HH
          go_wp2_with fail
          go_roundw
          case rel => exact ⟨k + 1, by omega, by go_num, by rw [HN.out]; exact hown.alloc _, hbr.alloc hbr.size _⟩
          case measure => simp [intOf]; omega
      · have HN : Hid (hits t (l.take (k + 1)) = hits t (l.take k)) := Lib.hid (by rw [HH.out]; simp [hit, c1])
        clear HH
        go_wp2_with fail
        go_roundw
        case rel => exact ⟨k + 1, by omega, by go_num, by rw [HN.out]; exact hown.alloc _, hbr.alloc hbr.size _⟩
        case measure => simp [intOf]; omega
    · obtain rfl : k = cs.length + 1 := by omega
      have HA : Hid (univ o cs t = hits t (l.take (cs.length + 1))) := Lib.hid (by rw [HU.out, List.take_of_length_le (by have := HL.out; omega)])
      have hbf := b_then hb03 hbr
      have hb3s : w.heap.size ≤ w3.heap.size := hb03.size
      generalize hits t (l.take (cs.length + 1)) = res at *
      cases res with
      | nil =>
        rcases hown.2 with ⟨rfl, _⟩ | ⟨g2, cap2, cur2, rfl, _⟩
        all_goals
          have hown3 := own_mono hown hb3s
          clear hown
          go_wp2_with (go_at_call 55; refine (unless_any _ _ _).mono ?_; rintro e w' ⟨rfl, rfl⟩)
          go_ret2
          exact ⟨_, by rw [HA.out]; rfl, by rw [HA.out]; exact hown3, hbf⟩
      | cons x r =>
        obtain ⟨g2, cap2, rfl⟩ := ownsRow_succ hown
        have hown3 := own_mono hown hb3s
        clear hown
        go_wp2_with (go_at_call 55; refine (unless_any _ _ _).mono ?_; rintro e w' ⟨rfl, rfl⟩)
        go_ret2
        exact ⟨_, by rw [HA.out]; rfl, by rw [HA.out]; exact hown3, hbf⟩
theorem zt_err (o t : Int) (cs : List (Int × Int)) : fst [zoneErr o cs, rng t 0 143999999] = if zoneErr o cs ≠ 0 then zoneErr o cs else rng t 0 143999999 := by
  by_cases h : zoneErr o cs = 0
  · rw [if_neg (by simp [h]), h]
    by_cases h2 : rng t 0 143999999 = 0 <;> simp [fst, h2]
  · rw [if_pos h]; simp [fst, h]
set_option maxRecDepth 100000 in
theorem Local_err (o t : Int) (v : Value) (cs : List (Int × Int)) (w : World) (hc : SlV w v cs) (he : fst [zoneErr o cs, rng t 0 143999999] ≠ 0) :
    Calls Tryd.prog 42 #[.agg #[.int .i64 o, v], .int .i64 t] w fun r w' => r = .returned (.tuple #[.int .i64 0, .int .i64 (fst [zoneErr o cs, rng t 0 143999999])]) ∧ Below w.heap.size w w' := by
  have HE : Hid ((fst [zoneErr o cs, rng t 0 143999999] != 0) = true) := Lib.hid (by rw [bne_iff_ne]; exact he)
  clear he
  obtain ⟨W, HW, hb0⟩ : ∃ W, Hid (w.alloc (.cells #[.int .i64 o, v] 72) = W) ∧ Below w.heap.size w W := ⟨_, Lib.hid rfl, below_alloc w _⟩
  go_enter Tryd.func42, Tryd.ntmps42
  go_wp2_with fail
  rw [HW.out]
  refine (CheckZone_v o v cs W (hc.below hb0)).mono ?_
  rintro e w1 ⟨rfl, hb1⟩
  have hb01 := b_then hb0 hb1
  go_wp2_with fail
  refine (checkMoment_any _ _).mono ?_
  rintro e w1 ⟨rfl, rfl⟩
  go_wp2_with fail
  refine (fe_new [_, _] _ _ _ _ _ rfl rfl (by simp)).mono ?_
  rintro e w2 ⟨rfl, hw⟩
  have hee := HE.out
  generalize hE : fst [zoneErr o cs, rng t 0 143999999] = E at *
  have HEq := Lib.hid hE
  clear hE HE
  have hb2 : Below w1.heap.size w1 w2 := by rw [hw]; exact below_alloc _ _
  have hb02 := b_then hb01 hb2
  clear hw
  go_wp2_with fail
  go_ret2
  exact ⟨by rw [HEq.out]; rfl, hb02⟩
set_option maxRecDepth 100000 in
theorem Universal_err (o t : Int) (v : Value) (cs : List (Int × Int)) (w : World) (hc : SlV w v cs) (he : fst [zoneErr o cs, rng t 0 143999999] ≠ 0) :
    Calls Tryd.prog 43 #[.agg #[.int .i64 o, v], .int .i64 t] w fun r w' => r = .returned (.tuple #[.slice none 0 0, .int .i64 (fst [zoneErr o cs, rng t 0 143999999])]) ∧ Below w.heap.size w w' := by
  have HE : Hid ((fst [zoneErr o cs, rng t 0 143999999] != 0) = true) := Lib.hid (by rw [bne_iff_ne]; exact he)
  clear he
  obtain ⟨W, HW, hb0⟩ : ∃ W, Hid (w.alloc (.cells #[.int .i64 o, v] 72) = W) ∧ Below w.heap.size w W := ⟨_, Lib.hid rfl, below_alloc w _⟩
  go_enter Tryd.func43, Tryd.ntmps43
  go_wp2_with fail
  rw [HW.out]
  refine (CheckZone_v o v cs W (hc.below hb0)).mono ?_
  rintro e w1 ⟨rfl, hb1⟩
  have hb01 := b_then hb0 hb1
  go_wp2_with fail
  refine (checkMoment_any _ _).mono ?_
  rintro e w1 ⟨rfl, rfl⟩
  go_wp2_with fail
  refine (fe_new [_, _] _ _ _ _ _ rfl rfl (by simp)).mono ?_
  rintro e w2 ⟨rfl, hw⟩
  have hee := HE.out
  generalize hE : fst [zoneErr o cs, rng t 0 143999999] = E at *
  have HEq := Lib.hid hE
  clear hE HE
  have hb2 : Below w1.heap.size w1 w2 := by rw [hw]; exact below_alloc _ _
  have hb02 := b_then hb01 hb2
  clear hw
  go_wp2_with fail
  go_ret2
  exact ⟨by rw [HEq.out]; rfl, hb02⟩
end Go.Proofs.YtbpoljebkhccjaaDoor
