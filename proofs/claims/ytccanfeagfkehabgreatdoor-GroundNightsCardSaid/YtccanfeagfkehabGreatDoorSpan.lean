
/- Contracts of package calendar: Span. -/
import Derived.Test.YtccanfeagfkehabGreatDoorSeason
import Derived.Deep.RegionHeld3
namespace Go.Proofs.YtccanfeagfkehabGreatDoor
open Go.RowKit
def periodVal (a b d : Int) : Value := .agg #[.int .i64 a, .int .i64 b, .int .i64 d]
set_option maxRecDepth 100000 in
set_option maxHeartbeats 1000000 in
theorem Span_ok (y : Int) (s : ByteArray) (w : World) (ht : HeldTab w) (h1 : 2000 ≤ y) (h2 : y ≤ 2272) (hk : kindErr s = 0) :
    Calls Tryz.prog 92 #[.agg #[.int .i64 y, .string s]] w fun r w' => r = .returned (.tuple #[.agg #[.int .i64 (fDay y s), .int .i64 (lDay y s), .int .i64 127], .int .i64 0]) ∧ Below w.heap.size w w' := by
  have HE : Hid (seasonErr y s = 0) := Lib.hid (by simp [seasonErr, fst, rng, h1, h2, hk])
  have hlb := fDay_bd y s (by omega) (by omega)
  have HK := Lib.hid hk; clear hk
  obtain ⟨W, HW, hb0, hc0, hc1, R0, hsz⟩ : ∃ W, Hid ((w.alloc (.cells #[.int .i64 y, .string s] 25)).alloc (.cells #[.int .i64 0, .int .i64 0, .int .i64 0] 157) = W) ∧ Below w.heap.size w W ∧
      W.cell? ⟨w.heap.size, 0, none⟩ = some (.int .i64 y) ∧ W.cell? ⟨w.heap.size, 1, none⟩ = some (.string s) ∧ Res 3 (w.heap.size + 1) W W ∧ w.heap.size + 2 ≤ W.heap.size :=
    ⟨_, Lib.hid rfl, below_alloc2 w _ _, by simp, by simp, ⟨fun i hi => by
        match i, hi with
        | 0, _ => exact ⟨.int .i64 0, by simp⟩
        | 1, _ => exact ⟨.int .i64 0, by simp⟩
        | 2, _ => exact ⟨.int .i64 0, by simp⟩, fun i hi => by
        match i, hi with
        | 0, _ => simp
        | 1, _ => simp
        | 2, _ => simp, Below.refl _ _⟩, by simp⟩
  go_enter Tryz.func92, Tryz.ntmps92
  go_wp2_with fail
  rw [HW.out]
  refine (CheckSeason_any _ _ _).mono ?_
  rintro e w1 ⟨rfl, hb1⟩
  rw [HE.out]
  have R1 := R0.more (by omega) hb1
  have k0 := b_old hb1 hc0
  have k1 := b_old hb1 hc1
  clear hb1
  go_wp2_with fail
  go_region_held3 (fun w' => w'.cell? ⟨w.heap.size, 0, none⟩ = some (.int .i64 y) ∧ w'.cell? ⟨w.heap.size, 1, none⟩ = some (.string s) ∧ Res 3 (w.heap.size + 1) W w')
    (first | exact ⟨k0, k1, R1.drew⟩ | exact ⟨RC.old (by omega) hc0, RC.old (by omega) hc1, RC⟩ | exact ⟨RB.old (by omega) hc0, RB.old (by omega) hc1, RB⟩ | exact ⟨RA.old (by omega) hc0, RA.old (by omega) hc1, RA⟩ | exact ⟨(((RB.set _ _).set _ _).set _ _).old (by omega) hc0, (((RB.set _ _).set _ _).set _ _).old (by omega) hc1, ((RB.set _ _).set _ _).set _ _⟩)
    (first
      | (go_at_call 106; rename_i hHA _ _; refine (firstDay_any _ _ _ (ht.below (hb0.trans (hHA.2.2.below.mono (by omega)))) (by omega) (by omega)).mono ?_; rintro e w2 ⟨rfl, hbA⟩; have RA := hHA.2.2.more (hHA.2.2.pos (by decide)) hbA)
      | (go_at_call 107; rename_i hHB _ _; refine (lastDay_any _ _ _ (ht.below (hb0.trans (hHB.2.2.below.mono (by omega)))) (by omega) (by omega)).mono ?_; rintro e w3 ⟨rfl, hbB⟩; have RB := hHB.2.2.more (hHB.2.2.pos (by decide)) hbB; obtain ⟨v0, q0⟩ := RB.cell 0 (by decide); obtain ⟨v1, q1⟩ := RB.cell 1 (by decide); obtain ⟨v2, q2⟩ := RB.cell 2 (by decide); have qf0 := RB.frozen 0 (by decide); have qf1 := RB.frozen 1 (by decide); have qf2 := RB.frozen 2 (by decide)))
  have RF := ((RB.set 0 (.int .i64 (fDay y s))).set 1 (.int .i64 (lDay y s))).set 2 (.int .i64 127)
  go_wp2_with fail
  exact bodyPost_ret (v := .tuple #[.agg #[.int .i64 (fDay y s), .int .i64 (lDay y s), .int .i64 127], .int .i64 0]) (by simp [results, Tryz.results92, go_sem, q0, q1, q2]) rfl ⟨rfl, hb0.trans (RF.below.mono (by omega))⟩
end Go.Proofs.YtccanfeagfkehabGreatDoor
