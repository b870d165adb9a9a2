/- Contracts of package calendar: SeasonOf. -/
import Derived.Test.YtoaimgfekbnijaaDoorSpan
namespace Go.Proofs.YtoaimgfekbnijaaDoor
open Go.RowKit
/-- What the two seasons at the ends hold. -/
structure HeldSea (w : World) : Prop where
  a0 : w.cell? ⟨0, 0, none⟩ = some (.int .i64 2000)
  a1 : w.cell? ⟨0, 1, none⟩ = some (.string ⟨#[83]⟩)
  b0 : w.cell? ⟨1, 0, none⟩ = some (.int .i64 2272)
  b1 : w.cell? ⟨1, 1, none⟩ = some (.string ⟨#[87]⟩)
theorem HeldSea.below {w w' : World} (h : HeldSea w) (hb : Below w.heap.size w w') : HeldSea w' := ⟨b_old hb h.a0, b_old hb h.a1, b_old hb h.b0, b_old hb h.b1⟩
theorem first_day : fDay 2000 ⟨#[83]⟩ = 85 := by unfold fDay; rw [if_pos isS_S]; decide
theorem last_day : lDay 2272 ⟨#[87]⟩ = 99799 := by
  unfold lDay follY follK
  rw [if_neg (by simp [isS_W]), if_neg (by simp [isS_W])]
  unfold fDay; rw [if_pos isS_S]; decide
theorem sea_keep {w W w' : World} {n : Nat} (hs : HeldSea w) (hb0 : Below w.heap.size w W) (R : Res n w.heap.size W w') :
    w'.cell? ⟨0, 0, none⟩ = some (.int .i64 2000) ∧ w'.cell? ⟨0, 1, none⟩ = some (.string ⟨#[83]⟩) ∧ w'.cell? ⟨1, 0, none⟩ = some (.int .i64 2272) ∧ w'.cell? ⟨1, 1, none⟩ = some (.string ⟨#[87]⟩) ∧ Res n w.heap.size W w' :=
  have h := hs.below (hb0.trans R.below)
  ⟨h.a0, h.a1, h.b0, h.b1, R⟩
def seaY (d y : Int) : Int := if d < Cal.ls y 3 then y - 1 else y
def seaK (d y : Int) : ByteArray := if d < Cal.ls y 3 then ⟨#[87]⟩ else if d < Cal.ls y 10 then ⟨#[83]⟩ else ⟨#[87]⟩
set_option maxRecDepth 100000 in
set_option maxHeartbeats 2000000 in
theorem SeasonOf_ok (d y : Int) (w : World) (ht : HeldTab w) (hs : HeldSea w) (h1 : 85 ≤ d) (h2 : d ≤ 99799) (hy1 : 2000 ≤ y) (hy2 : y ≤ 2273) (hd1 : Cal.db y ≤ d) (hd2 : d < Cal.db (y + 1)) :
    Calls Tryd.prog 34 #[.int .i64 d] w fun r w' => r = .returned (.tuple #[.agg #[.int .i64 (seaY d y), .string (seaK d y)], .int .i64 0]) ∧ Below w.heap.size w w' := by
  have HR : Hid (rng d 0 99999 = 0) := Lib.hid (by simp [rng]; omega)
  have hl3 := ls_bd y 3 (by omega) (by omega) (by omega)
  have hl10 := ls_bd y 10 (by omega) (by omega) (by omega)
  obtain ⟨W, HW, hb0, R0, hsz⟩ : ∃ W, Hid (w.alloc (.cells #[.int .i64 0, .string ⟨#[]⟩] 61) = W) ∧ Below w.heap.size w W ∧ Res 2 w.heap.size W W ∧ w.heap.size + 1 ≤ W.heap.size :=
    ⟨_, Lib.hid rfl, below_alloc w _, ⟨fun i hi => by
        match i, hi with
        | 0, _ => exact ⟨.int .i64 0, by simp⟩
        | 1, _ => exact ⟨.string ⟨#[]⟩, by simp⟩, fun i hi => by
        match i, hi with
        | 0, _ => simp
        | 1, _ => simp, Below.refl _ _⟩, by simp⟩
  have hs0 := hs.below hb0
  have a0 := hs0.a0
  have a1 := hs0.a1
  have c0 := hs0.b0
  have c1 := hs0.b1
  go_enter Tryd.func34, Tryd.ntmps34
  go_wp2_with fail
  rw [HW.out]
  go_region_held3 (fun w' => w'.cell? ⟨0, 0, none⟩ = some (.int .i64 2000) ∧ w'.cell? ⟨0, 1, none⟩ = some (.string ⟨#[83]⟩) ∧ w'.cell? ⟨1, 0, none⟩ = some (.int .i64 2272) ∧ w'.cell? ⟨1, 1, none⟩ = some (.string ⟨#[87]⟩) ∧ Res 2 w.heap.size W w')
    (first | exact ⟨a0, a1, c0, c1, R0.drew⟩ | exact sea_keep hs hb0 RB | exact sea_keep hs hb0 RA | exact sea_keep hs hb0 (RB.more (RB.pos (by decide)) (below_alloc _ _)) | (trace_state; fail))
    (first
      | (go_at_call 66; refine (checkDay_any _ _).mono ?_; rintro e w2 ⟨rfl, rfl⟩; rw [HR.out])
      | (go_at_call 77; rename_i hHA _ _; refine (firstDay_any _ _ _ (ht.below (hb0.trans hHA.2.2.2.2.below)) (by omega) (by omega)).mono ?_; rintro e w2 ⟨rfl, hbA⟩; have RA := hHA.2.2.2.2.more (hHA.2.2.2.2.pos (by decide)) hbA; rw [first_day])
      | (go_at_call 78; rename_i hHB _ _; refine (lastDay_any _ _ _ (ht.below (hb0.trans hHB.2.2.2.2.below)) (by omega) (by omega)).mono ?_; rintro e w3 ⟨rfl, hbB⟩; have RB := hHB.2.2.2.2.more (hHB.2.2.2.2.pos (by decide)) hbB; rw [last_day])
      | (go_at_call 55; refine (unless_t _ _).mono ?_; rintro e w4 ⟨rfl, rfl⟩)
      | (go_at_call 53; refine (fe_new [_, _] _ _ _ _ _ rfl rfl (by simp)).mono ?_; rintro e w5 ⟨rfl, rfl⟩))
  rename_i hHV
  have RV := hHV.2.2.2.2
  have hbV := hb0.trans RV.below
  have htV := ht.below hbV
  obtain ⟨v0, q0⟩ := RV.cell 0 (by decide)
  obtain ⟨v1, q1⟩ := RV.cell 1 (by decide)
  have qf0 := RV.frozen 0 (by decide)
  have qf1 := RV.frozen 1 (by decide)
  clear hHV a0 a1 c0 c1
  go_wp2_with fail
  refine (yearOf_any d y _ (by omega) (by omega) hd1 hd2 (by omega) (by omega)).mono ?_
  rintro e w5 ⟨rfl, rfl⟩
  go_wp2_with fail
  refine (lastSunday_any _ _ _ htV (by omega) (by omega) (by omega) (by omega)).mono ?_
  rintro e w5 ⟨rfl, rfl⟩
  rw [show (3 : Int).toNat = 3 from rfl]
  by_cases hA : d < Cal.ls y 3
  · have HQ : Hid (seaY d y = y - 1 ∧ seaK d y = ⟨#[87]⟩) := Lib.hid (by simp [seaY, seaK, hA])
    go_wp2_with fail
    exact bodyPost_ret (v := .tuple #[.agg #[.int .i64 (y - 1), .string ⟨#[87]⟩], .int .i64 0]) (by simp [results, Tryd.results34, go_sem, q0, q1]) rfl ⟨by rw [HQ.out.1, HQ.out.2], hb0.trans (((RV.set 0 _).set 1 _).below)⟩
  · go_wp2_with fail
    refine (lastSunday_any _ _ _ htV (by omega) (by omega) (by omega) (by omega)).mono ?_
    rintro e w5 ⟨rfl, rfl⟩
    rw [show (10 : Int).toNat = 10 from rfl]
    by_cases hB : d < Cal.ls y 10
    · have HQ : Hid (seaY d y = y ∧ seaK d y = ⟨#[83]⟩) := Lib.hid ⟨by unfold seaY; rw [if_neg (by omega)], by unfold seaK; rw [if_neg (by omega), if_pos (by omega)]⟩
      go_wp2_with fail
      exact bodyPost_ret (v := .tuple #[.agg #[.int .i64 (y), .string ⟨#[83]⟩], .int .i64 0]) (by simp [results, Tryd.results34, go_sem, q0, q1]) rfl ⟨by rw [HQ.out.1, HQ.out.2], hb0.trans (((RV.set 0 _).set 1 _).below)⟩
    · have HQ : Hid (seaY d y = y ∧ seaK d y = ⟨#[87]⟩) := Lib.hid ⟨by unfold seaY; rw [if_neg (by omega)], by unfold seaK; rw [if_neg (by omega), if_neg (by omega)]⟩
      go_wp2_with fail
      exact bodyPost_ret (v := .tuple #[.agg #[.int .i64 (y), .string ⟨#[87]⟩], .int .i64 0]) (by simp [results, Tryd.results34, go_sem, q0, q1]) rfl ⟨by rw [HQ.out.1, HQ.out.2], hb0.trans (((RV.set 0 _).set 1 _).below)⟩
end Go.Proofs.YtoaimgfekbnijaaDoor
