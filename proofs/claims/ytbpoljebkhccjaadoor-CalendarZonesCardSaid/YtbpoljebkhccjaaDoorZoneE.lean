/- Contracts of package calendar: zones with any slice of changes: the nil slice, the head's errors. -/
import Derived.Test.YtbpoljebkhccjaaDoorZoneM
namespace Go.Proofs.YtbpoljebkhccjaaDoor
open Go Go.RowKit
/-- A value that is a slice of changes: one of length 0, or one whose cells hold them. -/
def SlV (w : World) (v : Value) (cs : List (Int × Int)) : Prop := (∃ A c, v = .slice A 0 c ∧ cs = []) ∨ ∃ b off cap, v = .slice (some ⟨b, off, none⟩) cs.length cap ∧ ChAt w b off cs
theorem SlV.below {w w' : World} {v : Value} {cs : List (Int × Int)} (h : SlV w v cs) (hb : Below w.heap.size w w') : SlV w' v cs := by
  rcases h with h | ⟨b, off, cap, h, hc⟩
  · exact .inl h
  · exact .inr ⟨b, off, cap, h, hc.below hb⟩
set_option maxRecDepth 100000 in
set_option maxHeartbeats 1000000 in
theorem CheckZone_head (o : Int) (A : Option Addr) (n cap : Nat) (w : World) (he : zoneHead o n ≠ 0) :
    Calls Tryd.prog 82 #[.agg #[.int .i64 o, .slice A n cap]] w fun r w' => r = .returned (.int .i64 (zoneHead o n)) ∧ Below w.heap.size w w' := by
  have HE : Hid ((zoneHead o n != 0) = true) := Lib.hid (by rw [bne_iff_ne]; exact he)
  have HD : Hid (zoneHead o n = fst [rng o (-720) 840, unl (decide ((n : Int) ≤ 64)) 5]) := Lib.hid rfl
  clear he
  have hbl : Below w.heap.size w (w.alloc (.cells #[.int .i64 o, .slice A n cap] 72)).drew := (below_alloc w _).drew
  go_enter Tryd.func82, Tryd.ntmps82
  go_wp2_with fail
  refine still_tail 8 (by kernel_rfl) (by kernel_rfl) ?_
  simp only [List.take_succ_cons, List.take_zero, List.drop_succ_cons, List.drop_zero]
  repeat (refine wpStill_step (fun K hK => ?_); go_simp; (first | (with_reducible refine hK _ ?_) | (with_reducible refine ⟨_, checkOffset_any _ _, hK _ ?_⟩) | (with_reducible refine ⟨_, unless_any _ _ _, hK _ ?_⟩)); clear hK K)
  refine wpStill_nil ?_
  obtain ⟨W, hW, hbl⟩ : ∃ W, (w.alloc (.cells #[.int .i64 o, .slice A n cap] 72)).drew = W ∧ Below w.heap.size w W := ⟨_, rfl, (below_alloc w _).drew⟩
  rw [hW]
  clear hW
  go_wp2_with fail
  refine (fe_new [_, _] _ _ _ _ _ rfl rfl (by simp)).mono ?_
  rintro e w1 ⟨rfl, hw⟩
  have hbV : Below W.heap.size W w1 := by rw [hw]; exact below_alloc _ _
  clear hw
  rw [← HD.out]
  have hee := HE.out
  generalize hE : zoneHead o n = E at *
  have HEq := Lib.hid hE
  clear hE HE HD
  go_wp2_with fail
  go_ret
  exact ⟨by rw [HEq.out]; rfl, b_then hbl hbV⟩
set_option maxRecDepth 100000 in
set_option maxHeartbeats 1000000 in
theorem CheckZone_nil (o : Int) (A : Option Addr) (c : Nat) (w : World) (h1 : -720 ≤ o) (h2 : o ≤ 840) :
    Calls Tryd.prog 82 #[.agg #[.int .i64 o, .slice A 0 c]] w fun r w' => r = .returned (.int .i64 0) ∧ Below w.heap.size w w' := by
  have HO : Hid (rng o (-720) 840 = 0) := Lib.hid (rng_ok h1 h2)
  go_enter Tryd.func82, Tryd.ntmps82
  go_wp2_with fail
  refine still_tail 8 (by kernel_rfl) (by kernel_rfl) ?_
  simp only [List.take_succ_cons, List.take_zero, List.drop_succ_cons, List.drop_zero]
  repeat (refine wpStill_step (fun K hK => ?_); go_simp; (first | (with_reducible refine hK _ ?_) | (with_reducible refine ⟨_, checkOffset_any _ _, hK _ ?_⟩) | (with_reducible refine ⟨_, unless_t _ _, hK _ ?_⟩)); clear hK K)
  refine wpStill_nil ?_
  obtain ⟨W, hW, hbl, hk0, hk1⟩ : ∃ W, (w.alloc (.cells #[.int .i64 o, .slice A 0 c] 72)).drew = W ∧ Below w.heap.size w W ∧ W.cell? ⟨w.heap.size, 0, none⟩ = some (.int .i64 o) ∧ W.cell? ⟨w.heap.size, 1, none⟩ = some (.slice A 0 c) := ⟨_, rfl, (below_alloc w _).drew, by simp, by simp⟩
  rw [hW]
  clear hW
  go_wp2_with fail
  refine (fe_new [_, _] _ _ _ _ _ rfl rfl (by simp)).mono ?_
  rintro e w1 ⟨rfl, hw⟩
  have hbV : Below W.heap.size W w1 := by rw [hw]; exact below_alloc _ _
  clear hw
  rw [HO.out]
  have hz0 : (fst [0, 0] != 0) = false := rfl
  have hv0 := b_old hbV hk0
  have hv1 := b_old hbV hk1
  go_wp2_with fail
  go_loopw [4, 26] (fun p i wr => i = .int .i64 0 ∧ wr = w1) (fun _ _ _ => 0)
  case atStart => exact ⟨rfl, rfl⟩
  case round =>
    obtain ⟨rfl, rfl⟩ := hrel
    go_wp2_with fail
    go_ret
    exact ⟨rfl, b_then hbl hbV⟩
theorem zoneErr_nil {o : Int} (h : -720 ≤ o ∧ o ≤ 840) : zoneErr o [] = 0 := by
  have e : zoneHead o ([] : List (Int × Int)).length = 0 := by
    unfold zoneHead
    rw [rng_ok h.1 h.2]; rfl
  unfold zoneErr
  rw [if_neg (by rw [e]; simp)]
  rfl
theorem CheckZone_v (o : Int) (v : Value) (cs : List (Int × Int)) (w : World) (h : SlV w v cs) :
    Calls Tryd.prog 82 #[.agg #[.int .i64 o, v]] w fun r w' => r = .returned (.int .i64 (zoneErr o cs)) ∧ Below w.heap.size w w' := by
  by_cases hd : zoneHead o cs.length = 0
  · have hd' := hd
    unfold zoneHead at hd
    obtain ⟨ho, hd⟩ := fst_cons_zero hd
    obtain ⟨hl, -⟩ := fst_cons_zero hd
    have ho := rng_zero ho
    have hl : cs.length ≤ 64 := by
      by_cases hx : (cs.length : Int) ≤ 64
      · omega
      · rw [decide_eq_false hx] at hl; simp [unl] at hl
    rcases h with ⟨A, c, rfl, rfl⟩ | ⟨b, off, cap, rfl, hc⟩
    · rw [zoneErr_nil ho]
      exact CheckZone_nil o A c w ho.1 ho.2
    · exact CheckZone_some o b off cap cs w hc hl ho.1 ho.2
  · have e : zoneErr o cs = zoneHead o cs.length := by unfold zoneErr; rw [if_pos hd]
    rw [e]
    rcases h with ⟨A, c, rfl, rfl⟩ | ⟨b, off, cap, rfl, hc⟩
    · exact CheckZone_head o A 0 c w hd
    · exact CheckZone_head o (some ⟨b, off, none⟩) cs.length cap w hd
set_option maxRecDepth 100000 in
set_option maxHeartbeats 1000000 in
theorem stretches_nil (o : Int) (A : Option Addr) (c : Nat) (w : World) :
    Calls Tryd.prog 84 #[.agg #[.int .i64 o, .slice A 0 c]] w (StrRes w o []) := by
  obtain ⟨i0, hi, hz0, hz1, hz2⟩ := info_parts infoStr
  obtain ⟨W, HW, hb0, m0, m1, m2, R, hsz⟩ : ∃ W, Hid ((w.alloc (.cells #[.int .i64 o, .slice A 0 c] 72)).alloc (.cells #[.int .i64 0, .int .i64 0, .int .i64 o] 121) = W) ∧ Below w.heap.size w W ∧
      W.cell? ⟨w.heap.size + 1, 0, none⟩ = some (.int .i64 0) ∧ W.cell? ⟨w.heap.size + 1, 1, none⟩ = some (.int .i64 0) ∧ W.cell? ⟨w.heap.size + 1, 2, none⟩ = some (.int .i64 o) ∧ Res 3 (w.heap.size + 1) W W ∧ W.heap.size = w.heap.size + 2 := ⟨_, Lib.hid rfl, below_alloc2 w _ _, by simp, by simp, by simp, ⟨fun i hi => by
        match i, hi with
        | 0, _ => exact ⟨.int .i64 0, by simp⟩
        | 1, _ => exact ⟨.int .i64 0, by simp⟩
        | 2, _ => exact ⟨.int .i64 o, by simp⟩, fun i hi => by
        match i, hi with
        | 0, _ => simp
        | 1, _ => simp
        | 2, _ => simp, Below.refl _ _⟩, by simp⟩
  have HSZ := Lib.hid hsz
  have hsz1 : w.heap.size + 2 ≤ W.heap.size := by omega
  clear hsz
  go_enter Tryd.func84, Tryd.ntmps84
  go_wp2_with fail
  rw [HW.out]
  have hown0 : W.ownsRow (w.heap.size + 2) 121 3 (.slice none 0 0) 0 (flat3 []) := World.ownsRow_nil _ _ _ _
  go_loopw [3, 13] (fun v i wr => v = .slice none 0 0 ∧ i = .int .i64 0 ∧ wr = W) (fun _ _ _ => 0)
  case atStart => exact ⟨rfl, rfl, rfl⟩
  case round =>
    obtain ⟨rfl, rfl, rfl⟩ := hrel
    have mf0 := R.frozen 0 (by decide)
    have mf1 := R.frozen 1 (by decide)
    have mf2 := R.frozen 2 (by decide)
    go_upto_region 11 with (fail)
    obtain ⟨V2, hV2, g0, g1, g2, hown2, R2, gsz⟩ : ∃ V2, wr.setCell ⟨w.heap.size + 1, 1, none⟩ (.int .i64 143999999) = V2 ∧ V2.cell? ⟨w.heap.size + 1, 0, none⟩ = some (.int .i64 0) ∧ V2.cell? ⟨w.heap.size + 1, 1, none⟩ = some (.int .i64 143999999) ∧ V2.cell? ⟨w.heap.size + 1, 2, none⟩ = some (.int .i64 o) ∧
        V2.ownsRow (w.heap.size + 2) 121 3 (.slice none 0 0) 0 (flat3 []) ∧ Res 3 (w.heap.size + 1) wr V2 ∧ V2.heap.size = wr.heap.size :=
      ⟨_, rfl, set_other m0 (by simp), set_same m1, set_other m2 (by simp), ownsRow_setCell_below hown0 (Nat.lt_succ_self _) _, R.set _ _, set_size _ _ _⟩
    rw [hV2]
    have q0 := R2.frozen 0 (by decide)
    have q1 := R2.frozen 1 (by decide)
    have q2 := R2.frozen 2 (by decide)
    have hs2 : w.heap.size + 2 ≤ V2.heap.size := by omega
    clear hV2 m0 m1 m2 mf0 mf1 mf2 gsz hown0 R
    iterate 10 go_step
    refine wpList_append_own _ rfl _ _ 118 rfl (w.heap.size + 2) 121 i0 (.agg #[.int .i64 0, .int .i64 0, .int .i64 0]) 3 24 Tryd.underlying118 hi hz0 hz1 hz2 rfl (by decide) _ 0 _ rfl (hown2.alloc _) ⟨V2.heap.size, 0, none⟩ 1 1 [.int .i64 0, .int .i64 143999999, .int .i64 o] rfl rfl
      (World.news_of_block (cs := #[.int .i64 0, .int .i64 143999999, .int .i64 o]) (t := 121) (fr := (0, 0)) (heap_alloc_new V2 _)) (by simp [Value.oneCell']) (by unfold maxLen; omega) (by omega) (by simp; omega) ?_
    intro v' w1 hown' hgrow _
    have hgrow2 : (V2.alloc (.cells #[.int .i64 0, .int .i64 143999999, .int .i64 o] 121)).grownBy w1 (Value.slice none 0 0).ownBlock := hgrow
    have hbV1 : Below (w.heap.size + 2) V2 w1 := ((Below.refl _ V2).alloc hs2 _).grown hgrow2 (by simp; omega) (own_block hown2)
    have hfin : Below w.heap.size w w1 := hb0.trans ((R2.below.mono (by omega)).trans (hbV1.mono (by omega)))
    clear hgrow hgrow2 g0 g1 g2 q0 q1 q2 hown2 hbV1 R2
    rw [← flat3_snoc] at hown'
    go_wp2_with fail
    go_ret
    exact ⟨v', rfl, by rw [show strs 0 o [] = [(0, 143999999, o)] from rfl]; simpa using hown', hfin⟩
theorem stretches_v (o : Int) (v : Value) (cs : List (Int × Int)) (w : World) (h : SlV w v cs) (hz : zoneErr o cs = 0) : Calls Tryd.prog 84 #[.agg #[.int .i64 o, v]] w (StrRes w o cs) := by
  obtain ⟨-, hl, -, hr⟩ := zone_good hz
  rcases h with ⟨A, c, rfl, rfl⟩ | ⟨b, off, cap, rfl, hc⟩
  · exact stretches_nil o A c w
  · exact stretches_some o b off cap cs w hc hl (fun i hi => (mem_range hr i hi).1)
end Go.Proofs.YtbpoljebkhccjaaDoor
