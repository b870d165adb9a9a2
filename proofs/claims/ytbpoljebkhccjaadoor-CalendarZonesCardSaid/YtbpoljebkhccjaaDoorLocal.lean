/- Contracts of package calendar: Local. -/
import Derived.Test.YtbpoljebkhccjaaDoorUniv
namespace Go.Proofs.YtbpoljebkhccjaaDoor
open Go.RowKit
def inS (t : Int) (s : Int × Int × Int) : Int := if s.1 ≤ t ∧ t ≤ s.2.1 then s.2.2 else 0
def locs (t : Int) (l : List (Int × Int × Int)) : Int := (l.map (inS t)).sum
theorem locs_take (t : Int) (l : List (Int × Int × Int)) (k : Nat) (h : k < l.length) : locs t (l.take (k + 1)) = locs t (l.take k) + inS t (l.getD k (0, 0, 0)) := by
  unfold locs
  rw [List.take_succ_eq_append_getElem h, List.map_append, List.sum_append]
  simp only [List.getD_eq_getElem?_getD, List.getElem?_eq_getElem h, Option.getD_some, List.map_cons, List.map_nil, List.sum_cons, List.sum_nil, Int.add_zero]
def locOf (o : Int) (cs : List (Int × Int)) (t : Int) : Int := t + locs t (strs 0 o cs)
def locRes (x : Int) : Value := if rng x 0 143999999 = 0 then .tuple #[.int .i64 x, .int .i64 0] else .tuple #[.int .i64 0, .int .i64 30]
set_option maxRecDepth 100000 in
set_option maxHeartbeats 1000000 in
theorem Local_some (o t : Int) (b off cap : Nat) (cs : List (Int × Int)) (w : World) (hc : ChAt w b off cs) (hn : cs.length ≤ 64) (h1 : -720 ≤ o) (h2 : o ≤ 840) (hr : ∀ c ∈ cs, (0 ≤ c.1 ∧ c.1 ≤ 143999999) ∧ -720 ≤ c.2 ∧ c.2 ≤ 840) (hz : zoneErr o cs = 0) (ht1 : 0 ≤ t) (ht2 : t ≤ 143999999) :
    Calls Tryd.prog 42 #[.agg #[.int .i64 o, .slice (some ⟨b, off, none⟩) cs.length cap], .int .i64 t] w fun r w' => r = .returned (locRes (locOf o cs t)) ∧ Below w.heap.size w w' := by
  have HZ := Lib.hid hz; clear hz
  have HT : Hid (rng t 0 143999999 = 0) := Lib.hid (rng_ok ht1 ht2)
  have HR := Lib.hid hr; clear hr
  have HO : Hid (∀ i, i < cs.length + 1 → -720 ≤ ((strs 0 o cs).getD i (0, 0, 0)).2.2 ∧ ((strs 0 o cs).getD i (0, 0, 0)).2.2 ≤ 840) := Lib.hid (fun i hi => by
    have hl := strs_len 0 o cs
    have hi' : i < (strs 0 o cs).length := by omega
    simp only [List.getD_eq_getElem?_getD, List.getElem?_eq_getElem hi', Option.getD_some]
    exact strs_off 0 o cs ⟨h1, h2⟩ (fun c hc => (HR.out c hc).2) _ (List.getElem_mem hi'))
  obtain ⟨W, HW, hb0, hk0, hk1⟩ : ∃ W, Hid (w.alloc (.cells #[.int .i64 o, .slice (some ⟨b, off, none⟩) cs.length cap] 72) = W) ∧ Below w.heap.size w W ∧ W.cell? ⟨w.heap.size, 0, none⟩ = some (.int .i64 o) ∧ W.cell? ⟨w.heap.size, 1, none⟩ = some (.slice (some ⟨b, off, none⟩) cs.length cap) := ⟨_, Lib.hid rfl, below_alloc w _, by simp, by simp⟩
  go_enter Tryd.func42, Tryd.ntmps42
  go_wp2_with fail
  rw [HW.out]
  refine (CheckZone_some o b off cap cs W (hc.below hb0) hn h1 h2).mono ?_
  rintro e w1 ⟨rfl, hb1⟩
  rw [HZ.out]
  have hb01 := b_then hb0 hb1
  have k0 := b_old hb1 hk0
  have k1 := b_old hb1 hk1
  go_wp2_with fail
  refine (checkMoment_any _ _).mono ?_
  rintro e w1 ⟨rfl, rfl⟩
  rw [HT.out]
  go_wp2_with fail
  refine (fe_new [_, _] _ _ _ _ _ rfl rfl (by simp)).mono ?_
  rintro e w2 ⟨rfl, hw⟩
  have hz00 : (fst [0, 0] != 0) = false := rfl
  have hb2 : Below w1.heap.size w1 w2 := by rw [hw]; exact below_alloc _ _
  have hb02 := b_then hb01 hb2
  have l0 := b_old hb2 k0
  have l1 := b_old hb2 k1
  clear hw hb1 k0 k1 hk0 hk1 hb2 hb0
  go_wp2_with fail
  refine (stretches_some o b off cap cs w2 (hc.below hb02) hn (fun i hi => (mem_range HR.out i hi).1)).mono ?_
  rintro e w3 ⟨v, rfl, hown, hb3⟩
  obtain ⟨g, cap3, rfl, hst⟩ := stAt_of_own hown (strs_len 0 o cs)
  have hb03 := b_then hb02 hb3
  clear hown l0 l1
  have HL := Lib.hid (strs_len 0 o cs)
  have HU : Hid (locOf o cs t = t + locs t (strs 0 o cs)) := Lib.hid rfl
  generalize strs 0 o cs = l at *
  go_wp2_with fail
  go_loopw [7, 23] (fun v i wr => ∃ (k : Nat) (x : Int), k ≤ cs.length + 1 ∧ i = .int .i64 k ∧ v = .int .i64 (t + x) ∧ Hid (x = locs t (l.take k)) ∧ -1000 * (k : Int) ≤ x ∧ x ≤ 1000 * (k : Int) ∧ Below w3.heap.size w3 wr) (fun _ i _ => cs.length + 1 - (intOf i).toNat)
  case atStart => exact ⟨0, 0, Nat.zero_le _, rfl, by simp, Lib.hid (by simp [locs]), by simp, by simp, Below.refl _ _⟩
  case round =>
    obtain ⟨k, x, hk, rfl, rfl, HX, hx1, hx2, hbr⟩ := hrel
    by_cases hlt : k < cs.length + 1
    · have hst' := hst.below hbr
      have hkl : k < l.length := by have := HL.out; omega
      have hf := hst'.f k hkl
      have hto := hst'.t k hkl
      have hof := hst'.o k hkl
      obtain ⟨ho1, ho2⟩ := HO.out k hlt
      have HH := Lib.hid (locs_take t l k hkl)
      generalize hsv : l.getD k (0, 0, 0) = sv at *
      obtain ⟨s1, s2, s3⟩ := sv
      simp only at hf hto hof ho1 ho2
      clear hsv hst'
      by_cases c1 : s1 ≤ t
      · by_cases c2 : t ≤ s2
        · have HN : Hid (locs t (l.take (k + 1)) = x + s3) := Lib.hid (by rw [HH.out, ← HX.out]; simp [inS, c1, c2])
          clear HH HX
          go_wp2_with fail
          go_roundw
          case rel => exact ⟨k + 1, x + s3, by omega, by go_num, by go_num, Lib.hid HN.out.symm, by omega, by omega, hbr.alloc hbr.size _⟩
          case measure => simp [intOf]; omega
        · have HN : Hid (locs t (l.take (k + 1)) = x) := Lib.hid (by rw [HH.out, ← HX.out]; simp [inS, c2])
          clear HH HX
          go_wp2_with fail
          go_roundw
          case rel => exact ⟨k + 1, x, by omega, by go_num, rfl, Lib.hid HN.out.symm, by omega, by omega, hbr.alloc hbr.size _⟩
          case measure => simp [intOf]; omega
      · have HN : Hid (locs t (l.take (k + 1)) = x) := Lib.hid (by rw [HH.out, ← HX.out]; simp [inS, c1])
        clear HH HX
        go_wp2_with fail
        go_roundw
        case rel => exact ⟨k + 1, x, by omega, by go_num, rfl, Lib.hid HN.out.symm, by omega, by omega, hbr.alloc hbr.size _⟩
        case measure => simp [intOf]; omega
    · obtain rfl : k = cs.length + 1 := by omega
      have HA : Hid (locOf o cs t = t + x) := Lib.hid (by rw [HU.out, HX.out, List.take_of_length_le (by have := HL.out; omega)])
      have hbf := b_then hb03 hbr
      by_cases hin : 0 ≤ t + x ∧ t + x ≤ 143999999
      · have HN : Hid (rng (t + x) 0 143999999 = 0) := Lib.hid (rng_ok hin.1 hin.2)
        clear hin
        go_wp2_with fail
        refine (checkMoment_any _ _).mono ?_
        rintro e w5 ⟨rfl, rfl⟩
        rw [HN.out]
        go_wp2_with fail
        go_ret2
        exact ⟨by rw [HA.out]; unfold locRes; rw [if_pos HN.out]; rfl, hbf⟩
      · have HN : Hid (rng (t + x) 0 143999999 = 3) := Lib.hid (rng_bad hin)
        clear hin
        go_wp2_with fail
        refine (checkMoment_any _ _).mono ?_
        rintro e w5 ⟨rfl, rfl⟩
        rw [HN.out]
        go_wp2_with fail
        go_ret2
        exact ⟨by rw [HA.out]; unfold locRes; rw [if_neg (by rw [HN.out]; decide)]; rfl, hbf⟩
end Go.Proofs.YtbpoljebkhccjaaDoor
