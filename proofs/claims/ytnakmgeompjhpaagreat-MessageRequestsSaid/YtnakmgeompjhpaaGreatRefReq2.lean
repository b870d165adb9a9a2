/- Contract of the reference's CheckRequest. -/
import Derived.Test.YtnakmgeompjhpaaGreatRefReq
namespace Go.Proofs.YtnakmgeompjhpaaGreat
open Go Go.RowKit
set_option maxRecDepth 100000 in
set_option maxHeartbeats 4000000 in
theorem refReq_any (q : ReqV) (w : World) :
    Calls Tryz.prog 12 #[.agg q.cells] w fun r w' => r = .returned (.int .i64 (reqErr q)) ∧ Below w.heap.size w w' := by
  have HE : Hid (reqErr q = fst [unl (decide (isName q.name)) 8, unl (decide (isName q.carrier)) 8, unl (decide (isName q.partner)) 8, unl (q.terminal.toList == [] || decide (isName q.terminal)) 8, unl (q.link.toList == [] || decide (isName q.link)) 8,
      unl (isKindB q.kind) 13, unl (q.link.toList != q.name.toList) 32, perErr q.from_ q.to q.days, rng q.minute 0 1439, rng q.seats 0 999, rng q.size 1 9, rng q.noise 0 99]) := Lib.hid rfl
  generalize reqErr q = re at HE ⊢
  have h1 := qIsName_any q.name
  have h2 := qIsName_any q.carrier
  have h3 := qIsName_any q.partner
  have h4 := refOpt_any q.terminal
  have h5 := refOpt_any q.link
  generalize decide (isName q.name) = p1 at h1 HE
  generalize decide (isName q.carrier) = p2 at h2 HE
  generalize decide (isName q.partner) = p3 at h3 HE
  generalize (q.terminal.toList == [] || decide (isName q.terminal)) = p4 at h4 HE
  generalize (q.link.toList == [] || decide (isName q.link)) = p5 at h5 HE
  obtain ⟨W, HW, hb0, R⟩ := req_new w q 25
  obtain ⟨name, carrier, kind, terminal, partner, link, a, b, d, m, s, z, n⟩ := q
  obtain ⟨r0, r1, r2, r3, r4, r5, r6, r7, r8, r9, r10, r11, r12⟩ := R
  simp only [ReqV.cells, isKindB] at *
  have k0 : ∀ x : KeptW W, x.v.cell? ⟨w.heap.size, 0, none⟩ = _ := fun x => x.cell r0
  have k1 : ∀ x : KeptW W, x.v.cell? ⟨w.heap.size, 1, none⟩ = _ := fun x => x.cell r1
  have k2 : ∀ x : KeptW W, x.v.cell? ⟨w.heap.size, 2, none⟩ = _ := fun x => x.cell r2
  have k3 : ∀ x : KeptW W, x.v.cell? ⟨w.heap.size, 3, none⟩ = _ := fun x => x.cell r3
  have k4 : ∀ x : KeptW W, x.v.cell? ⟨w.heap.size, 4, none⟩ = _ := fun x => x.cell r4
  have k5 : ∀ x : KeptW W, x.v.cell? ⟨w.heap.size, 5, none⟩ = _ := fun x => x.cell r5
  have k6 : ∀ x : KeptW W, x.v.cell? ⟨w.heap.size, 6, none⟩ = _ := fun x => x.cell r6
  have k7 : ∀ x : KeptW W, x.v.cell? ⟨w.heap.size, 7, none⟩ = _ := fun x => x.cell r7
  have k8 : ∀ x : KeptW W, x.v.cell? ⟨w.heap.size, 8, none⟩ = _ := fun x => x.cell r8
  have k9 : ∀ x : KeptW W, x.v.cell? ⟨w.heap.size, 9, none⟩ = _ := fun x => x.cell r9
  have k10 : ∀ x : KeptW W, x.v.cell? ⟨w.heap.size, 10, none⟩ = _ := fun x => x.cell r10
  have k11 : ∀ x : KeptW W, x.v.cell? ⟨w.heap.size, 11, none⟩ = _ := fun x => x.cell r11
  have k12 : ∀ x : KeptW W, x.v.cell? ⟨w.heap.size, 12, none⟩ = _ := fun x => x.cell r12
  clear r0 r1 r2 r3 r4 r5 r6 r7 r8 r9 r10 r11 r12
  obtain ⟨x0, hx0⟩ : ∃ x : KeptW W, W = x.v := ⟨⟨W, Below.refl _ _⟩, rfl⟩
  have HX := Lib.hid (HW.out.trans hx0)
  clear hx0 HW
  go_enter Tryz.func12, Tryz.ntmps12
  go_wp2_with fail
  rw [HX.out]
  clear HX
  go_wp2_with fail
  refine (KeptW.calls (h1 _)).mono ?_
  rintro e1 _ ⟨rfl, x1, rfl⟩
  cases p1
  · have HZ := Lib.hid (show re = 8 by rw [HE.out]; simp [fst, unl])
    go_wp2_with fail
    go_ret
    exact ⟨by rw [HZ.out]; rfl, b_then hb0 x1.below⟩
  go_wp2_with fail
  refine (KeptW.calls (h2 _)).mono ?_
  rintro e2 _ ⟨rfl, x2, rfl⟩
  cases p2
  · have HZ := Lib.hid (show re = 8 by rw [HE.out]; simp [fst, unl])
    go_wp2_with fail
    go_ret
    exact ⟨by rw [HZ.out]; rfl, b_then hb0 x2.below⟩
  go_wp2_with fail
  refine (KeptW.calls (h3 _)).mono ?_
  rintro e3 _ ⟨rfl, x3, rfl⟩
  cases p3
  · have HZ := Lib.hid (show re = 8 by rw [HE.out]; simp [fst, unl])
    go_wp2_with fail
    go_ret
    exact ⟨by rw [HZ.out]; rfl, b_then hb0 x3.below⟩
  go_wp2_with fail
  refine (KeptW.calls (h4 _)).mono ?_
  rintro e4 _ ⟨rfl, x4, rfl⟩
  cases p4
  · have HZ := Lib.hid (show re = 8 by rw [HE.out]; simp [fst, unl])
    go_wp2_with fail
    go_ret
    exact ⟨by rw [HZ.out]; rfl, b_then hb0 x4.below⟩
  go_wp2_with fail
  refine (KeptW.calls (h5 _)).mono ?_
  rintro e5 _ ⟨rfl, x5, rfl⟩
  cases p5
  · have HZ := Lib.hid (show re = 8 by rw [HE.out]; simp [fst, unl])
    go_wp2_with fail
    go_ret
    exact ⟨by rw [HZ.out]; rfl, b_then hb0 x5.below⟩
  have hper := hPeriod_any a b d
  generalize perErr a b d = pe at hper HE
  cases ha : (kind.toList == [65])
  · cases hd : (kind.toList == [68])
    · have HZ := Lib.hid (show re = 13 by rw [HE.out]; simp [fst, unl, ha, hd])
      go_wp2_with fail
      go_ret
      exact ⟨by rw [HZ.out]; rfl, b_then hb0 x5.below⟩
    · cases hl : (link.toList == name.toList)
      · go_wp2_with fail
        refine (KeptW.calls (hper _)).mono ?_
        rintro e6 _ ⟨rfl, x6, rfl⟩
        by_cases hpe : pe = 0
        · subst hpe
          have HR := Lib.hid (show re = fst [rng m 0 1439, rng s 0 999, rng z 1 9, rng n 0 99] by rw [HE.out]; simp [fst, unl, bne, ha, hd, hl])
          clear HE hper
          have m9 : ∀ y : KeptW x6.v, y.v.cell? ⟨w.heap.size, 9, none⟩ = _ := fun y => y.cell (k9 x6)
          have m10 : ∀ y : KeptW x6.v, y.v.cell? ⟨w.heap.size, 10, none⟩ = _ := fun y => y.cell (k10 x6)
          have m11 : ∀ y : KeptW x6.v, y.v.cell? ⟨w.heap.size, 11, none⟩ = _ := fun y => y.cell (k11 x6)
          have m12 : ∀ y : KeptW x6.v, y.v.cell? ⟨w.heap.size, 12, none⟩ = _ := fun y => y.cell (k12 x6)
          have hne6 : Nonempty (KeptW x6.v) := ⟨⟨x6.v, Below.refl _ _⟩⟩
          clear k0 k1 k2 k3 k4 k5 k6 k7 k8 k9 k10 k11 k12
          go_wp2_with fail
          refine tail_kept 12 (by kernel_rfl) (by kernel_rfl) ?_
          simp only [List.take_succ_cons, List.take_zero, List.drop_succ_cons, List.drop_zero]
          iterate 4
            iterate 2 (go_big_quiet_step (fail))
            go_big_quiet_step (exact KeptW.calls_same (hRange_any _ _ _ _))
          refine wpQuiet_nil ?_
          rintro _ ⟨y, rfl⟩
          have hby := b_then (b_then hb0 x6.below) y.below
          clear m9 m10 m11 m12
          go_wp2_with fail
          refine (hFirst_new [_, _, _, _] _ _ _ _ _ rfl rfl (by simp)).mono ?_
          rintro e7 w7 ⟨rfl, hw⟩
          have hb7 : Below w.heap.size w w7 := by rw [hw]; exact b_then hby (below_alloc _ _)
          clear hw
          go_wp2_with fail
          go_ret
          exact ⟨by rw [HR.out]; rfl, hb7⟩
        · have hb : (pe != 0) = true := by simpa using hpe
          have HZ := Lib.hid (show re = pe by rw [HE.out]; simp [fst, unl, bne, ha, hd, hl, hpe])
          clear hpe
          go_wp2_with fail
          go_ret
          exact ⟨by rw [HZ.out]; rfl, b_then hb0 x6.below⟩
      · have HZ := Lib.hid (show re = 32 by rw [HE.out]; simp [fst, unl, bne, ha, hd, hl])
        go_wp2_with fail
        go_ret
        exact ⟨by rw [HZ.out]; rfl, b_then hb0 x5.below⟩
  · cases hl : (link.toList == name.toList)
    · go_wp2_with fail
      refine (KeptW.calls (hper _)).mono ?_
      rintro e6 _ ⟨rfl, x6, rfl⟩
      by_cases hpe : pe = 0
      · subst hpe
        have HR := Lib.hid (show re = fst [rng m 0 1439, rng s 0 999, rng z 1 9, rng n 0 99] by rw [HE.out]; simp [fst, unl, bne, ha, hl])
        clear HE hper
        have m9 : ∀ y : KeptW x6.v, y.v.cell? ⟨w.heap.size, 9, none⟩ = _ := fun y => y.cell (k9 x6)
        have m10 : ∀ y : KeptW x6.v, y.v.cell? ⟨w.heap.size, 10, none⟩ = _ := fun y => y.cell (k10 x6)
        have m11 : ∀ y : KeptW x6.v, y.v.cell? ⟨w.heap.size, 11, none⟩ = _ := fun y => y.cell (k11 x6)
        have m12 : ∀ y : KeptW x6.v, y.v.cell? ⟨w.heap.size, 12, none⟩ = _ := fun y => y.cell (k12 x6)
        have hne6 : Nonempty (KeptW x6.v) := ⟨⟨x6.v, Below.refl _ _⟩⟩
        clear k0 k1 k2 k3 k4 k5 k6 k7 k8 k9 k10 k11 k12
        go_wp2_with fail
        refine tail_kept 12 (by kernel_rfl) (by kernel_rfl) ?_
        simp only [List.take_succ_cons, List.take_zero, List.drop_succ_cons, List.drop_zero]
        iterate 4
          iterate 2 (go_big_quiet_step (fail))
          go_big_quiet_step (exact KeptW.calls_same (hRange_any _ _ _ _))
        refine wpQuiet_nil ?_
        rintro _ ⟨y, rfl⟩
        have hby := b_then (b_then hb0 x6.below) y.below
        clear m9 m10 m11 m12
        go_wp2_with fail
        refine (hFirst_new [_, _, _, _] _ _ _ _ _ rfl rfl (by simp)).mono ?_
        rintro e7 w7 ⟨rfl, hw⟩
        have hb7 : Below w.heap.size w w7 := by rw [hw]; exact b_then hby (below_alloc _ _)
        clear hw
        go_wp2_with fail
        go_ret
        exact ⟨by rw [HR.out]; rfl, hb7⟩
      · have hb : (pe != 0) = true := by simpa using hpe
        have HZ := Lib.hid (show re = pe by rw [HE.out]; simp [fst, unl, bne, ha, hl, hpe])
        clear hpe
        go_wp2_with fail
        go_ret
        exact ⟨by rw [HZ.out]; rfl, b_then hb0 x6.below⟩
    · have HZ := Lib.hid (show re = 32 by rw [HE.out]; simp [fst, unl, bne, ha, hl])
      go_wp2_with fail
      go_ret
      exact ⟨by rw [HZ.out]; rfl, b_then hb0 x5.below⟩
end Go.Proofs.YtnakmgeompjhpaaGreat
