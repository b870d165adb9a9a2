/- beaconDay returns true. -/
import Derived.Test.YtoaimgfekbnijaaDoorBeacon
import Derived.Test.YtoaimgfekbnijaaDoorYears0
namespace Go.Proofs.YtoaimgfekbnijaaDoor
open Go.RowKit
set_option maxRecDepth 100000 in
set_option maxHeartbeats 2000000 in
theorem beaconDay_true (w : World) (ht : HeldTab w) (hs : HeldSea w) : Calls Tryd.prog 49 #[] w (IsTrue w) := by
  have HT := Lib.hid ht
  have HS := Lib.hid hs
  clear ht hs
  go_enter Tryd.func49, Tryd.ntmps49
  go_wp2_with fail
  refine (ParseDate_txt _ _ HT.out txt_is).mono ?_
  rintro e w1 ⟨rfl, hb1⟩
  rw [txt_st, show num2 (dayErr 2026 3 29) (Cal.dn 2026 (3 : Int).toNat 29) = .tuple #[.int .i64 9584, .int .i64 0] from by rw [b_err, b_dn]; rfl]
  go_wp2_with fail
  refine (SeasonOf_ok 9584 2026 _ (HT.out.below hb1) (HS.out.below hb1) (by omega) (by omega) (by omega) (by omega) b_db.1 b_db.2).mono ?_
  rintro e w2 ⟨rfl, hb2⟩
  rw [b_sea.1, b_sea.2]
  have hb12 := b_then hb1 hb2
  clear hb1 hb2
  obtain ⟨W2, hW2, hbW2, p0, p1⟩ : ∃ W2, w2.alloc (.cells #[.int .i64 2026, .string ⟨#[83]⟩] 61) = W2 ∧ Below w.heap.size w W2 ∧ W2.cell? ⟨w2.heap.size, 0, none⟩ = some (.int .i64 2026) ∧ W2.cell? ⟨w2.heap.size, 1, none⟩ = some (.string ⟨#[83]⟩) := ⟨_, rfl, b_then hb12 (below_alloc _ _), by simp, by simp⟩
  go_wp2_with fail
  clear hW2
  refine (Span_ok 2026 ⟨#[83]⟩ _ (HT.out.below hbW2) (by omega) (by omega) b_kind).mono ?_
  rintro e w3 ⟨rfl, hb3⟩
  rw [b_span.1, b_span.2]
  have q0 := b_old hb3 p0
  have q1 := b_old hb3 p1
  have hb13 := b_then hbW2 hb3
  clear hb3 hbW2 p0 p1
  obtain ⟨W3, hW3, hbW3, q0', q1', p0, p1, p2⟩ : ∃ W3, w3.alloc (.cells #[.int .i64 9584, .int .i64 9793, .int .i64 127] 23) = W3 ∧ Below w.heap.size w W3 ∧ W3.cell? ⟨w2.heap.size, 0, none⟩ = some (.int .i64 2026) ∧ W3.cell? ⟨w2.heap.size, 1, none⟩ = some (.string ⟨#[83]⟩) ∧ W3.cell? ⟨w3.heap.size, 0, none⟩ = some (.int .i64 9584) ∧ W3.cell? ⟨w3.heap.size, 1, none⟩ = some (.int .i64 9793) ∧ W3.cell? ⟨w3.heap.size, 2, none⟩ = some (.int .i64 127) :=
    ⟨_, rfl, b_then hb13 (below_alloc _ _), b_old (below_alloc _ _) q0, b_old (below_alloc _ _) q1, by simp, by simp, by simp⟩
  clear q0 q1 hb13
  go_wp2_with fail
  clear hW3
  refine (Count_ok 9584 9793 127 _ (by omega) (by omega) (by omega) (by omega) (by omega) (by omega)).mono ?_
  rintro e w4 ⟨rfl, hb4⟩
  rw [b_count]
  have q0 := b_old hb4 q0'
  have q1 := b_old hb4 q1'
  have hb14 := b_then hbW3 hb4
  clear hb4 hbW3 q0' q1' p0 p1 p2
  go_wp2_with fail
  refine (Summer_ok 60 2026 2026 _ (HT.out.below hb14) (by omega) (by omega) (by omega) (by omega) (by omega) (by omega)).mono ?_
  rintro e w5 ⟨v, rfl, hown, hb5⟩
  rw [show ((2026 : Int) - 2026 + 1).toNat = 1 from rfl, b_cs] at hown
  obtain ⟨g, cap, rfl, hg, hch⟩ := chAt_of_own hown rfl (by decide)
  have r0 := b_old hb5 q0
  have r1 := b_old hb5 q1
  have hb15 := b_then hb14 hb5
  clear hb5 hb14 q0 q1 hown
  obtain ⟨W5, hW5, hbW5, q0, q1, z0, z1, hch5⟩ : ∃ W5, w5.alloc (.cells #[.int .i64 60, .slice (some ⟨g, 0, none⟩) 2 cap] 72) = W5 ∧ Below w.heap.size w W5 ∧ W5.cell? ⟨w2.heap.size, 0, none⟩ = some (.int .i64 2026) ∧ W5.cell? ⟨w2.heap.size, 1, none⟩ = some (.string ⟨#[83]⟩) ∧ W5.cell? ⟨w5.heap.size, 0, none⟩ = some (.int .i64 60) ∧ W5.cell? ⟨w5.heap.size, 1, none⟩ = some (.slice (some ⟨g, 0, none⟩) 2 cap) ∧ ChAt W5 g 0 [(13801020, 120), (14103420, 60)] :=
    ⟨_, rfl, b_then hb15 (below_alloc _ _), b_old (below_alloc _ _) r0, b_old (below_alloc _ _) r1, by simp, by simp, hch.below (below_alloc _ _)⟩
  clear r0 r1 hb15 hch
  go_wp2_with fail
  clear hW5
  refine (Universal_some 60 13801680 g 0 cap [(13801020, 120), (14103420, 60)] _ hch5 (by decide) (by omega) (by omega) (by decide) b_zone (by omega) (by omega)).mono ?_
  rintro e w6 ⟨v6, rfl, hown6, hb6⟩
  rw [b_univ] at hown6 ⊢
  obtain ⟨g6, cap6, rfl, hint⟩ := intAt_of_own hown6 (by decide)
  rw [show ([13801560] : List Int).length = 1 from rfl, if_neg (by simp)]
  have r0 := b_old hb6 q0
  have r1 := b_old hb6 q1
  have hb16 := b_then hbW5 hb6
  clear hb6 hbW5 q0 q1 z0 z1 hown6
  go_wp2_with fail
  refine (SameInts_some [13801560] [13801560] g6 0 cap6 w6.heap.size 0 1 _ (hint.below (below_alloc _ _)) (fun i hi => by
    match i, hi with
    | 0, _ => exact cell_fresh w6 [.int .i64 13801560] 3 0 _ rfl) (by decide) (by decide)).mono ?_
  rintro e w7 ⟨rfl, q, hw7⟩
  have hb17 : Below w.heap.size w w7 := by rw [hw7]; exact (b_then hb16 (below_alloc _ _)).trans ⟨rfl, rfl, rfl, Nat.le_refl _, fun _ _ => rfl⟩
  rw [show decide (([13801560] : List Int) = [13801560]) = true from rfl]
  clear hw7 hint r0 r1
  go_wp2_with fail
  go_ret
  exact ⟨rfl, hb17⟩
end Go.Proofs.YtoaimgfekbnijaaDoor
