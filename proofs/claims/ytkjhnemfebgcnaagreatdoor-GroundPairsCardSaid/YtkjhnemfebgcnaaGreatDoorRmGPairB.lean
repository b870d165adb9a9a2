/- Contracts of package ground and of the reference of chapter 4: overlap (the reference's), buffers, a pair that fits. -/
import Derived.Test.YtkjhnemfebgcnaaGreatDoorRmGPairA
namespace Go.Proofs.YtkjhnemfebgcnaaGreatDoor
open Go Go.RowKit
theorem rBuf_any (n : Int) (w : World) : Calls Tryz.prog 37 #[.int .i64 n] w fun r w' => r = .returned (.int .i64 (rng n 0 240)) ∧ w' = w := by
  go_enter Tryz.func37, Tryz.ntmps37
  go_wp2_with fail
  refine (gRange_any _ _ _ _).mono ?_
  rintro e w' ⟨rfl, rfl⟩
  go_wp2_with fail
  go_ret
  exact ⟨rfl, rfl⟩
set_option maxRecDepth 100000 in
theorem refOverlap_any (a b : TurnV) (n : Int) (w : World) (ha : TurnB a) (hb : TurnB b) (h0 : 0 ≤ n) (h1 : n ≤ 240) :
    Calls Tryz.prog 38 #[.agg a.cells, .agg b.cells, .int .i64 n] w fun r w' => r = .returned (.bool (overlapV a b n)) ∧ Below w.heap.size w w' := by
  obtain ⟨W, HW, hb0, R0⟩ := Turn_new w a 61
  obtain ⟨W1, HW1, hb1, R⟩ := Turn_new W b 61
  have HO := Lib.hid (overlap_occ a b n)
  have hB := b_then hb0 hb1
  obtain ⟨p0, p1, p2, p3, p4⟩ := R0
  have hsz : W.heap.size = w.heap.size + 1 := by rw [← HW.out]; simp
  rw [hsz] at R
  have p0 := b_old hb1 p0
  have p1 := b_old hb1 p1
  have p2 := b_old hb1 p2
  have p3 := b_old hb1 p3
  have p4 := b_old hb1 p4
  obtain ⟨r0, r1, r2, r3, r4⟩ := R
  by_cases hlt : a.start < b.start
  · have hmx : max a.start b.start = b.start := by omega
    rw [hmx] at HO
    clear hmx
    have HA := Lib.hid (fun w => occ_any a n b.start w ha h0 h1)
    have HB := Lib.hid (fun w => occ_any b n b.start w hb h0 h1)
    clear ha hb h0 h1
    cases h1 : occV a n b.start
    · rw [h1] at HA HO
      generalize occV b n b.start = ob at *
      have HO' : Hid (overlapV a b n = false) := Lib.hid (by rw [HO.out]; rfl)
      clear HO h1
      generalize overlapV a b n = oo at *
      obtain ⟨name, start, fin, size, terminal⟩ := a
      obtain ⟨sname, sstart, sfin, ssize, sterminal⟩ := b
      simp only [TurnV.cells] at *
      go_enter Tryz.func38, Tryz.ntmps38
      go_wp2_with fail
      rw [HW.out, HW1.out]
      refine (HA.out _).mono ?_
      rintro e w2 ⟨rfl, hb2⟩
      go_wp2_with fail
      go_ret
      exact ⟨by rw [HO'.out]; rfl, b_then hB hb2⟩
    · rw [h1] at HA HO
      generalize occV b n b.start = ob at *
      have HO' : Hid (overlapV a b n = ob) := Lib.hid (by rw [HO.out]; rfl)
      clear HO h1
      generalize overlapV a b n = oo at *
      obtain ⟨name, start, fin, size, terminal⟩ := a
      obtain ⟨sname, sstart, sfin, ssize, sterminal⟩ := b
      simp only [TurnV.cells] at *
      go_enter Tryz.func38, Tryz.ntmps38
      go_wp2_with fail
      rw [HW.out, HW1.out]
      refine (HA.out _).mono ?_
      rintro e w2 ⟨rfl, hb2⟩
      have r0 := b_old hb2 r0
      have r1 := b_old hb2 r1
      have r2 := b_old hb2 r2
      have r3 := b_old hb2 r3
      have r4 := b_old hb2 r4
      go_wp2_with fail
      refine (HB.out _).mono ?_
      rintro e w3 ⟨rfl, hb3⟩
      go_wp2_with fail
      go_ret
      exact ⟨by rw [HO'.out]; rfl, b_then (b_then hB hb2) hb3⟩
  · have hmx : max a.start b.start = a.start := by omega
    rw [hmx] at HO
    clear hmx
    have HA := Lib.hid (fun w => occ_any a n a.start w ha h0 h1)
    have HB := Lib.hid (fun w => occ_any b n a.start w hb h0 h1)
    clear ha hb h0 h1
    cases h1 : occV a n a.start
    · rw [h1] at HA HO
      generalize occV b n a.start = ob at *
      have HO' : Hid (overlapV a b n = false) := Lib.hid (by rw [HO.out]; rfl)
      clear HO h1
      generalize overlapV a b n = oo at *
      obtain ⟨name, start, fin, size, terminal⟩ := a
      obtain ⟨sname, sstart, sfin, ssize, sterminal⟩ := b
      simp only [TurnV.cells] at *
      go_enter Tryz.func38, Tryz.ntmps38
      go_wp2_with fail
      rw [HW.out, HW1.out]
      refine (HA.out _).mono ?_
      rintro e w2 ⟨rfl, hb2⟩
      go_wp2_with fail
      go_ret
      exact ⟨by rw [HO'.out]; rfl, b_then hB hb2⟩
    · rw [h1] at HA HO
      generalize occV b n a.start = ob at *
      have HO' : Hid (overlapV a b n = ob) := Lib.hid (by rw [HO.out]; rfl)
      clear HO h1
      generalize overlapV a b n = oo at *
      obtain ⟨name, start, fin, size, terminal⟩ := a
      obtain ⟨sname, sstart, sfin, ssize, sterminal⟩ := b
      simp only [TurnV.cells] at *
      go_enter Tryz.func38, Tryz.ntmps38
      go_wp2_with fail
      rw [HW.out, HW1.out]
      refine (HA.out _).mono ?_
      rintro e w2 ⟨rfl, hb2⟩
      have r0 := b_old hb2 r0
      have r1 := b_old hb2 r1
      have r2 := b_old hb2 r2
      have r3 := b_old hb2 r3
      have r4 := b_old hb2 r4
      go_wp2_with fail
      refine (HB.out _).mono ?_
      rintro e w3 ⟨rfl, hb3⟩
      go_wp2_with fail
      go_ret
      exact ⟨by rw [HO'.out]; rfl, b_then (b_then hB hb2) hb3⟩
def fitV (a d : MovV) (x y : Int) : Bool := decide (x ≤ wrap64 (d.moment - a.moment)) && decide (wrap64 (d.moment - a.moment) ≤ y) && decide (a.size = d.size) && agreeV a.terminal d.terminal
set_option maxRecDepth 100000 in
set_option maxHeartbeats 1000000 in
theorem fit_any (a d : MovV) (x y : Int) (w : World) :
    Calls Tryz.prog 98 #[.agg a.cells, .agg d.cells, .int .i64 x, .int .i64 y] w fun r w' => r = .returned (.bool (fitV a d x y)) ∧ Below w.heap.size w w' := by
  obtain ⟨W, HW, hb0, R0⟩ := Mov_new w a 50
  obtain ⟨W1, HW1, hb1, R⟩ := Mov_new W d 50
  obtain ⟨s0, s1, s2, s3, s4, s5, s6⟩ := R0
  have s0 := b_old hb1 s0
  have s2 := b_old hb1 s2
  have s4 := b_old hb1 s4
  have hsz : W.heap.size = w.heap.size + 1 := by rw [← HW.out]; simp
  rw [hsz] at R
  obtain ⟨r0, r1, r2, r3, r4, r5, r6⟩ := R
  have hB := b_then hb0 hb1
  by_cases h1 : x ≤ wrap64 (d.moment - a.moment)
  · by_cases h2 : wrap64 (d.moment - a.moment) ≤ y
    · by_cases h3 : a.size = d.size
      · have HO : Hid (fitV a d x y = agreeV a.terminal d.terminal) := Lib.hid (by unfold fitV; simp [h1, h2, h3])
        obtain ⟨am, ak, ater, asts, az, an, aname⟩ := a
        obtain ⟨dm, dk, dt, ds, dz, dn, dname⟩ := d
        simp only [MovV.cells] at *
        subst h3
        go_enter Tryz.func98, Tryz.ntmps98
        go_wp2_with fail
        rw [HW.out, HW1.out]
        refine (agree_any _ _ _).mono ?_
        rintro e w1 ⟨rfl, rfl⟩
        go_wp2_with fail
        go_ret
        exact ⟨by rw [HO.out]; rfl, hB⟩
      · have HO : Hid (fitV a d x y = false) := Lib.hid (by unfold fitV; simp [h3])
        obtain ⟨am, ak, ater, asts, az, an, aname⟩ := a
        obtain ⟨dm, dk, dt, ds, dz, dn, dname⟩ := d
        simp only [MovV.cells] at *
        go_enter Tryz.func98, Tryz.ntmps98
        go_wp2_with fail
        rw [HW.out, HW1.out]
        go_ret
        exact ⟨by rw [HO.out]; rfl, hB⟩
    · have HO : Hid (fitV a d x y = false) := Lib.hid (by unfold fitV; simp [h2])
      obtain ⟨am, ak, ater, asts, az, an, aname⟩ := a
      obtain ⟨dm, dk, dt, ds, dz, dn, dname⟩ := d
      simp only [MovV.cells] at *
      go_enter Tryz.func98, Tryz.ntmps98
      go_wp2_with fail
      rw [HW.out, HW1.out]
      go_ret
      exact ⟨by rw [HO.out]; rfl, hB⟩
  · have HO : Hid (fitV a d x y = false) := Lib.hid (by unfold fitV; simp [h1])
    obtain ⟨am, ak, ater, asts, az, an, aname⟩ := a
    obtain ⟨dm, dk, dt, ds, dz, dn, dname⟩ := d
    simp only [MovV.cells] at *
    go_enter Tryz.func98, Tryz.ntmps98
    go_wp2_with fail
    rw [HW.out, HW1.out]
    go_ret
    exact ⟨by rw [HO.out]; rfl, hB⟩
end Go.Proofs.YtkjhnemfebgcnaaGreatDoor
