/- Contracts: the reference's zones: ShortZone, Offset, Local, Universal. -/
import Derived.Test.YtbpoljebkhccjaaGreatDoorLocalV
import Derived.Test.YtbpoljebkhccjaaGreatDoorIntsC
import Derived.Test.YtbpoljebkhccjaaGreatDoorArr3
import Derived.Laws.AppendOwn
import Derived.Lib.MinMax
import Derived.OwnWalk
namespace Go.Proofs.YtbpoljebkhccjaaGreatDoor
open Go Go.RowKit
theorem slv_len {w : World} {v : Value} {cs : List (Int × Int)} (h : SlV w v cs) : ∃ A cap, v = .slice A cs.length cap := by
  rcases h with ⟨A, c, rfl, rfl⟩ | ⟨b, off, cap, rfl, -⟩
  · exact ⟨A, c, rfl⟩
  · exact ⟨_, _, rfl⟩
def shortB (n : Nat) : Bool := decide ((n : Int) ≤ 6) || (decide ((64 : Int) < n) && decide ((n : Int) ≤ 66))
set_option maxRecDepth 100000 in
theorem ShortZone_v (o : Int) (v : Value) (cs : List (Int × Int)) (w : World) (h : SlV w v cs) :
    Calls Tryz.prog 54 #[.agg #[.int .i64 o, v], .int .i64 6] w fun r w' => r = .returned (.bool (shortB cs.length)) ∧ Below w.heap.size w w' := by
  obtain ⟨A, cap, rfl⟩ := slv_len h
  generalize cs.length = n at *
  obtain ⟨W, HW, hb0, c0, c1⟩ : ∃ W, Hid (w.alloc (.cells #[.int .i64 o, .slice A n cap] 82) = W) ∧ Below w.heap.size w W ∧ W.cell? ⟨w.heap.size, 0, none⟩ = some (.int .i64 o) ∧ W.cell? ⟨w.heap.size, 1, none⟩ = some (.slice A n cap) := ⟨_, Lib.hid rfl, below_alloc w _, by simp, by simp⟩
  have HS : Hid (shortB n = (decide ((n : Int) ≤ 6) || (decide ((64 : Int) < n) && decide ((n : Int) ≤ 66)))) := Lib.hid rfl
  cases h1 : decide ((n : Int) ≤ 6) <;> cases h2 : decide ((64 : Int) < n) <;> cases h3 : decide ((n : Int) ≤ 66)
  all_goals
    have HB : Hid (shortB n = _) := Lib.hid (by rw [HS.out, h1, h2, h3])
    go_enter Tryz.func54, Tryz.ntmps54
    go_wp2_with fail
    rw [HW.out]
    first
    | (go_quiet (fail)
       go_wp2_with fail
       go_ret
       exact ⟨by rw [HB.out]; rfl, b_drewN hb0 _⟩)
    | (go_wp2_with fail
       go_ret
       exact ⟨by rw [HB.out]; rfl, hb0⟩)
set_option maxRecDepth 100000 in
theorem qOffset_v (o t : Int) (v : Value) (cs : List (Int × Int)) (w : World) (h : SlV w v cs) (hn : cs.length ≤ 1000) :
    Calls Tryz.prog 105 #[.agg #[.int .i64 o, v], .int .i64 t] w fun r w' => r = .returned (.int .i64 (offR o cs t)) ∧ Below w.heap.size w w' := by
  obtain ⟨W, HW, hb0, c0, c1⟩ : ∃ W, Hid (w.alloc (.cells #[.int .i64 o, v] 82) = W) ∧ Below w.heap.size w W ∧ W.cell? ⟨w.heap.size, 0, none⟩ = some (.int .i64 o) ∧ W.cell? ⟨w.heap.size, 1, none⟩ = some v := ⟨_, Lib.hid rfl, below_alloc w _, by simp, by simp⟩
  rcases h with ⟨A, c, rfl, rfl⟩ | ⟨b, off, cap, rfl, hc⟩
  · have HO : Hid (offR o [] t = o) := Lib.hid rfl
    go_enter Tryz.func105, Tryz.ntmps105
    go_wp2_with fail
    rw [HW.out]
    go_wp2_with fail
    go_loop [5, 6] (fun x i => x = .int .i64 o ∧ i = .int .i64 0) (fun _ _ => 0)
    case atStart => exact ⟨rfl, rfl⟩
    case round =>
      obtain ⟨rfl, rfl⟩ := hrel
      go_wp2_with fail
      go_ret
      exact ⟨by rw [HO.out]; rfl, hb0⟩
  · have HC := Lib.hid (hc.below hb0)
    clear hc
    go_enter Tryz.func105, Tryz.ntmps105
    go_wp2_with fail
    rw [HW.out]
    go_wp2_with fail
    go_loop [5, 6] (fun x i => ∃ k : Nat, k ≤ cs.length ∧ i = .int .i64 k ∧ x = .int .i64 (offR o (cs.take k) t)) (fun _ i => cs.length - (intOf i).toNat)
    case atStart => exact ⟨0, Nat.zero_le _, rfl, rfl⟩
    case round =>
      obtain ⟨k, hk, rfl, rfl⟩ := hrel
      by_cases hlt : k < cs.length
      · have hm := HC.out.m k hlt
        have ho := HC.out.o k hlt
        have HT := Lib.hid (offR_take o cs t k hlt)
        generalize (cs.getD k (0, 0)).1 = m at *
        generalize (cs.getD k (0, 0)).2 = q at *
        generalize offR o (cs.take k) t = x at *
        by_cases hmt : m ≤ t
        · have HN : Hid (offR o (cs.take (k + 1)) t = q) := Lib.hid (by rw [HT.out, if_pos hmt])
          clear HT
          go_wp2_with fail
          go_round
          case rel => exact ⟨k + 1, by omega, by go_num, by rw [HN.out]⟩
          case measure => simp [intOf]; omega
        · have HN : Hid (offR o (cs.take (k + 1)) t = x) := Lib.hid (by rw [HT.out, if_neg hmt])
          clear HT
          go_wp2_with fail
          go_round
          case rel => exact ⟨k + 1, by omega, by go_num, by rw [HN.out]⟩
          case measure => simp [intOf]; omega
      · have HN : Hid (offR o (cs.take k) t = offR o cs t) := Lib.hid (by rw [List.take_of_length_le (by omega)])
        rw [HN.out]
        go_wp2_with fail
        go_ret
        exact ⟨rfl, hb0⟩
theorem qLocal_v (o t : Int) (v : Value) (cs : List (Int × Int)) (w : World) (h : SlV w v cs) (hz : zoneErr o cs = 0) (ht1 : 0 ≤ t) (ht2 : t ≤ 143999999) :
    Calls Tryz.prog 60 #[.agg #[.int .i64 o, v], .int .i64 t] w fun r w' => r = .returned (.int .i64 (t + offR o cs t)) ∧ Below w.heap.size w w' := by
  obtain ⟨ho, hl, -, hr⟩ := zone_good hz
  have hin := offR_in (t := t) ho (fun c hc => (hr c hc).2)
  have HOF := Lib.hid (fun w (h : SlV w v cs) => qOffset_v o t v cs w h (by omega))
  clear hr hz
  obtain ⟨W, HW, hb0⟩ : ∃ W, Hid (w.alloc (.cells #[.int .i64 o, v] 82) = W) ∧ Below w.heap.size w W := ⟨_, Lib.hid rfl, below_alloc w _⟩
  generalize offR o cs t = x at *
  go_enter Tryz.func60, Tryz.ntmps60
  go_wp2_with fail
  refine (HOF.out _ (h.below (below_alloc _ _))).mono ?_
  rintro e w1 ⟨rfl, hb⟩
  have hb1 := b_then (below_alloc w _) hb
  clear hb
  go_wp2_with fail
  go_ret
  exact ⟨rfl, hb1⟩
theorem lcB_snoc (p : Int → Bool) (a : Int) (k : Nat) (b : Bool) (h : p (a + k) = b) : rf p a (k + 1) = rf p a k ++ (if b = true then [a + (k : Int)] else []) := by rw [rf_snoc, h]
set_option maxRecDepth 100000 in
set_option maxHeartbeats 1000000 in
theorem qUniversal_v (o t : Int) (v : Value) (cs : List (Int × Int)) (w : World) (h : SlV w v cs) (hz : zoneErr o cs = 0) (ht1 : 0 ≤ t) (ht2 : t ≤ 143999999) :
    Calls Tryz.prog 61 #[.agg #[.int .i64 o, v], .int .i64 t] w fun r w' => ∃ v2, r = .returned v2 ∧ IntsAt w' w.heap.size v2 (univ o cs t) ∧ Below w.heap.size w w' := by
  obtain ⟨i0, hi, hz0, hz1, hz2⟩ := info_parts infoInt
  obtain ⟨ho, hl, ha, hr⟩ := zone_good hz
  obtain ⟨lo, hlo⟩ : ∃ lo, lo = max 0 (t - 840) := ⟨_, rfl⟩
  obtain ⟨hh, hhi⟩ : ∃ hh, hh = min 143999999 (t + 720) := ⟨_, rfl⟩
  obtain ⟨n, hn⟩ : ∃ n, n = (hh - lo + 1).toNat := ⟨_, rfl⟩
  have HU := Lib.hid (univ_rf ha ho (fun c hc => (hr c hc).2) lo hh n hlo hhi hn ht1 ht2)
  have HLC := Lib.hid (fun u w (h : SlV w v cs) (h1 : 0 ≤ u) (h2 : u ≤ 143999999) => qLocal_v o u v cs w h hz h1 h2)
  have HB : Hid (∀ u, lcB o cs t u = (u + offR o cs u == t)) := Lib.hid (fun u => by unfold lcB; rw [Bool.eq_iff_iff]; simp)
  have hlo0 : 0 ≤ lo := by omega
  have hhi0 : hh ≤ 143999999 := by omega
  have hnn : hh - lo + 1 = (n : Int) := by omega
  have hn2 : n ≤ 2000 := by omega
  have HLO := Lib.hid hlo.symm
  have HHI := Lib.hid hhi.symm
  clear hlo hhi hn hr ha hz
  generalize lcB o cs t = p at *
  obtain ⟨W, HW, hb0, c0, c1⟩ : ∃ W, Hid (w.alloc (.cells #[.int .i64 o, v] 82) = W) ∧ Below w.heap.size w W ∧ W.cell? ⟨w.heap.size, 0, none⟩ = some (.int .i64 o) ∧ W.cell? ⟨w.heap.size, 1, none⟩ = some v := ⟨_, Lib.hid rfl, below_alloc w _, by simp, by simp⟩
  have HSL := Lib.hid (h.below hb0)
  clear h
  go_enter Tryz.func61, Tryz.ntmps61
  go_wp2_with fail
  rw [HW.out]
  rw [HLO.out]
  go_loopw [5, 6] (fun out i wr => ∃ k : Nat, k ≤ n ∧ i = .int .i64 (lo + k) ∧ IntsAt wr W.heap.size out (rf p lo k) ∧ Below W.heap.size W wr) (fun _ i _ => (hh + 1 - intOf i).toNat)
  case atStart => exact ⟨0, Nat.zero_le _, by simp, ⟨World.ownsRow_nil _ _ _ _, by simp [rf]⟩, Below.refl _ _⟩
  case round =>
    obtain ⟨k, hk, rfl, hints, hbr⟩ := hrel
    have d0 := b_old hbr c0
    have d1 := b_old hbr c1
    by_cases hlt : k < n
    · have hle : lo + (k : Int) ≤ min 143999999 (t + 720) := by rw [HHI.out]; omega
      have hSL := HSL.out.below hbr
      have hlen := rf_len p lo k
      have hs := hbr.size
      have HS := Lib.hid (rf_snoc p lo k)
      have hBu := HB.out (lo + k)
      cases hp : p (lo + k)
      · have HN : Hid (rf p lo (k + 1) = rf p lo k) := Lib.hid (by rw [HS.out, hp]; simp)
        have hne : (lo + (k : Int) + offR o cs (lo + k) == t) = false := by rw [← hBu, hp]
        clear HS hBu hp
        go_wp2_with fail
        refine (HLC.out _ _ hSL (by omega) (by omega)).mono ?_
        rintro e w1 ⟨rfl, hb1⟩
        go_wp2_with fail
        go_roundw
        case rel => exact ⟨k + 1, by omega, by go_num, by rw [HN.out]; exact hints.below hb1, b_then hbr hb1⟩
        case measure => simp [intOf]; omega
      · have HN : Hid (rf p lo (k + 1) = rf p lo k ++ [lo + (k : Int)]) := Lib.hid (by rw [HS.out, hp]; simp)
        have hne : (lo + (k : Int) + offR o cs (lo + k) == t) = true := by rw [← hBu, hp]
        clear HS hBu hp
        go_wp2_with fail
        refine (HLC.out _ _ hSL (by omega) (by omega)).mono ?_
        rintro e w1 ⟨rfl, hb1⟩
        have hints1 := hints.below hb1
        have hb2 := b_then hbr hb1
        have hs1 := hb2.size
        clear hints d0 d1
        go_wp2_with (at_builtin; refine Hid.out ?_)
        refine Lib.hid ?_
        refine wpList_append_own _ rfl _ _ 50 rfl W.heap.size 3 i0 (.int .i64 0) 1 8 Tryz.underlying50 hi hz0 hz1 hz2 rfl (by decide) _ (rf p lo k).length _ rfl (hints1.own.alloc _) ⟨w1.heap.size, 0, none⟩ 1 1 [.int .i64 (lo + k)] rfl rfl
          (World.news_of_block (cs := #[.int .i64 (lo + k)]) (t := 3) (fr := (0, 0)) (heap_alloc_new w1 _)) (by simp [Value.oneCell']) (by unfold maxLen; omega) (by omega) (by simp; omega) ?_
        intro v' w4 hown' hgrow _
        have hb4 : Below W.heap.size W w4 := (hb2.alloc hb2.size _).grown hgrow (by simp; omega) (own_block hints1.own)
        obtain ⟨g, cap, rfl⟩ := ownsRow_succ hown'
        have HOW : Hid (IntsAt w4 W.heap.size (.slice (some ⟨g, 0, none⟩) ((rf p lo k).length + 1) cap) (rf p lo (k + 1))) := Lib.hid ⟨by rw [HN.out]; simpa using hown', ⟨fun e => by simp at e, fun e => by rw [HN.out] at e; simp at e⟩⟩
        clear hgrow hown'
        go_wp2_with fail
        go_roundw
        case rel => exact ⟨k + 1, by omega, by go_num, HOW.out, hb4⟩
        case measure => simp [intOf]; omega
    · obtain rfl : k = n := by omega
      have hgt : ¬ lo + (k : Int) ≤ min 143999999 (t + 720) := by rw [HHI.out]; omega
      have hfin := hints.down hb0.size
      rw [← HU.out] at hfin
      go_wp2_with fail
      go_ret
      exact ⟨_, rfl, hfin, b_then hb0 hbr⟩
end Go.Proofs.YtbpoljebkhccjaaGreatDoor
