/- Contracts of the reference of chapter 4: CheckPair. -/
import Derived.Test.YtkjhnemfebgcnaaGreatDoorRmGPairC
import Derived.Test.YtkjhnemfebgcnaaGreatDoorGc2
namespace Go.Proofs.YtkjhnemfebgcnaaGreatDoor
open Go Go.RowKit
theorem one_sl {α : Type} [Inhabited α] (f : α → Array Value) (k : Nat) (x : α) (w : World) (T : TypeId) (n c : Nat) (hn : n = w.heap.size) (hc : 1 ≤ c) : SlArg f k (w.alloc (.cells (f x) T)) (.slice (some ⟨n, 0, none⟩) 1 c) [x] := by
  subst hn
  refine .inr ⟨by simp, w.heap.size, 0, c, rfl, ⟨fun i hi t v hv => ?_⟩, by simpa using hc, by simp⟩
  obtain rfl : i = 0 := by simp at hi; omega
  have := cell_fresh w (f x).toList T t v (by simpa using hv)
  simpa using this
theorem qf_new (es : List Int) (b n c T : Nat) (w : World) (hb : b = w.heap.size) (hn : n = es.length) (hl : es.length ≤ 100) :
    Calls Tryz.prog 85 #[.slice (some ⟨b, 0, none⟩) n c] (w.alloc (.cells (es.map (Value.int .i64)).toArray T)) fun r w' => r = .returned (.int .i64 (fst es)) ∧ w' = w.alloc (.cells (es.map (Value.int .i64)).toArray T) := by
  subst hn hb
  exact qFirst_any es _ c _ (fun i hi => cell_fresh _ _ _ _ _ (by simp [hi])) hl
theorem movsErr_one (a : MovV) : movsErr [a] = movE a := by
  unfold movsErr plainErr
  by_cases h : movE a = 0
  · simp [h, plainErr]
  · simp [h]
theorem movE_bd {a : MovV} (h : movE a = 0) : 0 ≤ a.moment ∧ a.moment ≤ 143999999 := by
  unfold movE at h
  by_cases h1 : 0 ≤ a.moment ∧ a.moment ≤ 143999999
  · exact h1
  · simp [fst, rng, h1] at h
theorem rMov1 (a : MovV) (w : World) (T : TypeId) (n : Nat) (hn : n = w.heap.size) :
    Calls Tryz.prog 27 #[.slice (some ⟨n, 0, none⟩) 1 1] (w.alloc (.cells a.cells T)) fun e w' => e = .returned (.int .i64 (movE a)) ∧ Below w.heap.size w w' := by
  rw [← movsErr_one]
  exact (refMovs_any [a] _ _ _ (one_sl MovV.cells 7 a w T n 1 hn (by decide)) (Below.refl _ _) (by simp)).mono fun e w' ⟨h1, h2⟩ => ⟨h1, b_then (below_alloc _ _) h2⟩
theorem fitV_in {a d : MovV} {x y : Int} (h1 : 0 ≤ a.moment) (h2 : a.moment ≤ 143999999) (h3 : 0 ≤ d.moment) (h4 : d.moment ≤ 143999999) :
    fitV a d x y = (decide (x ≤ d.moment - a.moment) && decide (d.moment - a.moment ≤ y) && decide (a.size = d.size) && agreeV a.terminal d.terminal) := by
  unfold fitV
  rw [show wrap64 (d.moment - a.moment) = d.moment - a.moment from IntWalk.wrap64_in _ ⟨by omega, by omega⟩]
set_option maxRecDepth 100000 in
set_option maxHeartbeats 8000000 in
theorem rCheckPair_any (a d : MovV) (x y : Int) (w : World) :
    Calls Tryz.prog 31 #[.agg a.cells, .agg d.cells, .int .i64 x, .int .i64 y] w fun r w' => r = .returned (.int .i64 (pairErr a d x y)) ∧ Below w.heap.size w w' := by
  have HE : Hid (pairErr a d x y = fst [movE a, unl (a.kind.toList == [65]) 13, movE d, unl (d.kind.toList == [68]) 13, rng x 0 10080, rng y 0 10080, unl (decide (x ≤ y)) 11, unl (fitV a d x y) 32]) := Lib.hid rfl
  obtain ⟨W, HW, hb0, R0⟩ := Mov_new w a 50
  obtain ⟨W1, HW1, hb1, R⟩ := Mov_new W d 50
  have hsz : W.heap.size = w.heap.size + 1 := by rw [← HW.out]; simp
  have hsz1 : W1.heap.size = w.heap.size + 1 + 1 := by rw [← HW1.out]; simp [hsz]
  have HMA := Lib.hid (fun w T n hn => rMov1 a w T n hn)
  have HMD := Lib.hid (fun w T n hn => rMov1 d w T n hn)
  have HBA := Lib.hid (@movE_bd a)
  have HBD := Lib.hid (@movE_bd d)
  have HFI := Lib.hid (@fitV_in a d x y)
  rw [hsz] at R
  obtain ⟨s0, s1, s2, s3, s4, s5, s6⟩ := R0
  have s0 := b_old hb1 s0
  have s1 := b_old hb1 s1
  have s2 := b_old hb1 s2
  have s3 := b_old hb1 s3
  have s4 := b_old hb1 s4
  have s5 := b_old hb1 s5
  have s6 := b_old hb1 s6
  obtain ⟨r0, r1, r2, r3, r4, r5, r6⟩ := R
  have hB := b_then hb0 hb1
  generalize movE a = e1 at *
  generalize movE d = e3 at *
  generalize fitV a d x y = f8 at *
  generalize pairErr a d x y = pe at *
  obtain ⟨am, ak, ater, asts, az, an, aname⟩ := a
  obtain ⟨dm, dk, dt, ds, dz, dn, dname⟩ := d
  simp only [MovV.cells] at *
  go_enter Tryz.func31, Tryz.ntmps31
  go_wp2_with fail
  rw [HW.out, HW1.out]
  refine (HMA.out _ _ _ (by first | rfl | exact hsz1.symm)).mono ?_
  rintro e w3 ⟨rfl, hb3⟩
  have s0 := b_old hb3 s0
  have s1 := b_old hb3 s1
  have s2 := b_old hb3 s2
  have s3 := b_old hb3 s3
  have s4 := b_old hb3 s4
  have s5 := b_old hb3 s5
  have s6 := b_old hb3 s6
  have r0 := b_old hb3 r0
  have r1 := b_old hb3 r1
  have r2 := b_old hb3 r2
  have r3 := b_old hb3 r3
  have r4 := b_old hb3 r4
  have r5 := b_old hb3 r5
  have r6 := b_old hb3 r6
  have hB3 := b_then hB hb3
  clear hb3
  by_cases z1 : ¬ e1 = 0
  · have HO : Hid (pe = e1) := Lib.hid (by rw [HE.out]; simp [fst, z1])
    go_wp2_with fail
    refine (gRange_any _ _ _ _).mono ?_
    rintro _ _ ⟨rfl, rfl⟩
    go_wp2_with fail
    refine (gRange_any _ _ _ _).mono ?_
    rintro _ _ ⟨rfl, rfl⟩
    go_wp2_with fail
    refine (qf_new [_, _, _] _ _ _ _ _ rfl rfl (by simp)).mono ?_
    rintro _ wz ⟨rfl, hw⟩
    have hbz := b_then hB3 (show Below _ _ wz by rw [hw]; exact below_alloc _ _)
    clear hw
    rw [show fst [e1, rng x 0 10080, rng y 0 10080] = e1 by simp [fst, z1]]
    go_wp2_with fail
    go_ret
    exact ⟨by rw [HO.out]; rfl, hbz⟩
  replace z1 : e1 = 0 := Decidable.not_not.1 z1
  subst z1
  cases z2 : (ak.toList == [65])
  · have HO : Hid (pe = 13) := Lib.hid (by rw [HE.out]; simp [fst, unl, z2])
    go_wp2_with fail
    refine (gRange_any _ _ _ _).mono ?_
    rintro _ _ ⟨rfl, rfl⟩
    go_wp2_with fail
    refine (gRange_any _ _ _ _).mono ?_
    rintro _ _ ⟨rfl, rfl⟩
    go_wp2_with fail
    refine (qf_new [_, _, _] _ _ _ _ _ rfl rfl (by simp)).mono ?_
    rintro _ wz ⟨rfl, hw⟩
    have hbz := b_then hB3 (show Below _ _ wz by rw [hw]; exact below_alloc _ _)
    clear hw
    rw [show fst [13, rng x 0 10080, rng y 0 10080] = 13 by simp [fst]]
    go_wp2_with fail
    go_ret
    exact ⟨by rw [HO.out]; rfl, hbz⟩
  go_wp2_with fail
  refine (HMD.out _ _ _ rfl).mono ?_
  rintro e w4 ⟨rfl, hb4⟩
  have s0 := b_old hb4 s0
  have s1 := b_old hb4 s1
  have s2 := b_old hb4 s2
  have s3 := b_old hb4 s3
  have s4 := b_old hb4 s4
  have s5 := b_old hb4 s5
  have s6 := b_old hb4 s6
  have r0 := b_old hb4 r0
  have r1 := b_old hb4 r1
  have r2 := b_old hb4 r2
  have r3 := b_old hb4 r3
  have r4 := b_old hb4 r4
  have r5 := b_old hb4 r5
  have r6 := b_old hb4 r6
  have hB4 := b_then hB3 hb4
  clear hb4
  by_cases z3 : ¬ e3 = 0
  · have HO : Hid (pe = e3) := Lib.hid (by rw [HE.out]; simp [fst, unl, z2, z3])
    go_wp2_with fail
    refine (gRange_any _ _ _ _).mono ?_
    rintro _ _ ⟨rfl, rfl⟩
    go_wp2_with fail
    refine (gRange_any _ _ _ _).mono ?_
    rintro _ _ ⟨rfl, rfl⟩
    go_wp2_with fail
    refine (qf_new [_, _, _] _ _ _ _ _ rfl rfl (by simp)).mono ?_
    rintro _ wz ⟨rfl, hw⟩
    have hbz := b_then hB4 (show Below _ _ wz by rw [hw]; exact below_alloc _ _)
    clear hw
    rw [show fst [e3, rng x 0 10080, rng y 0 10080] = e3 by simp [fst, z3]]
    go_wp2_with fail
    go_ret
    exact ⟨by rw [HO.out]; rfl, hbz⟩
  replace z3 : e3 = 0 := Decidable.not_not.1 z3
  subst z3
  cases z4 : (dk.toList == [68])
  · have HO : Hid (pe = 13) := Lib.hid (by rw [HE.out]; simp [fst, unl, z2, z4])
    go_wp2_with fail
    refine (gRange_any _ _ _ _).mono ?_
    rintro _ _ ⟨rfl, rfl⟩
    go_wp2_with fail
    refine (gRange_any _ _ _ _).mono ?_
    rintro _ _ ⟨rfl, rfl⟩
    go_wp2_with fail
    refine (qf_new [_, _, _] _ _ _ _ _ rfl rfl (by simp)).mono ?_
    rintro _ wz ⟨rfl, hw⟩
    have hbz := b_then hB4 (show Below _ _ wz by rw [hw]; exact below_alloc _ _)
    clear hw
    rw [show fst [13, rng x 0 10080, rng y 0 10080] = 13 by simp [fst]]
    go_wp2_with fail
    go_ret
    exact ⟨by rw [HO.out]; rfl, hbz⟩
  go_wp2_with fail
  refine (gRange_any _ _ _ _).mono ?_
  rintro _ _ ⟨rfl, rfl⟩
  go_wp2_with fail
  refine (gRange_any _ _ _ _).mono ?_
  rintro _ _ ⟨rfl, rfl⟩
  go_wp2_with fail
  refine (qf_new [_, _, _] _ _ _ _ _ rfl rfl (by simp)).mono ?_
  rintro _ wz ⟨rfl, hw⟩
  have hbz := show Below _ _ wz by rw [hw]; exact below_alloc _ _
  clear hw
  have s0 := b_old hbz s0
  have s1 := b_old hbz s1
  have s2 := b_old hbz s2
  have s3 := b_old hbz s3
  have s4 := b_old hbz s4
  have s5 := b_old hbz s5
  have s6 := b_old hbz s6
  have r0 := b_old hbz r0
  have r1 := b_old hbz r1
  have r2 := b_old hbz r2
  have r3 := b_old hbz r3
  have r4 := b_old hbz r4
  have r5 := b_old hbz r5
  have r6 := b_old hbz r6
  have hB5 := b_then hB4 hbz
  clear hbz
  obtain ⟨a0, a1⟩ := HBA.out (by first | rfl | trivial)
  obtain ⟨d0, d1⟩ := HBD.out (by first | rfl | trivial)
  have HF := Lib.hid (HFI.out a0 a1 d0 d1)
  by_cases z5 : ¬ rng x 0 10080 = 0
  · rw [show fst [0, rng x 0 10080, rng y 0 10080] = rng x 0 10080 by simp [fst, z5]]
    have HO : Hid (pe = rng x 0 10080) := Lib.hid (by rw [HE.out]; simp [fst, unl, z2, z4, z5])
    go_wp2_with fail
    go_ret
    exact ⟨by rw [HO.out]; rfl, hB5⟩
  replace z5 : rng x 0 10080 = 0 := Decidable.not_not.1 z5
  by_cases z6 : ¬ rng y 0 10080 = 0
  · rw [show fst [0, rng x 0 10080, rng y 0 10080] = rng y 0 10080 by simp [fst, z5, z6]]
    have HO : Hid (pe = rng y 0 10080) := Lib.hid (by rw [HE.out]; simp [fst, unl, z2, z4, z5, z6])
    go_wp2_with fail
    go_ret
    exact ⟨by rw [HO.out]; rfl, hB5⟩
  replace z6 : rng y 0 10080 = 0 := Decidable.not_not.1 z6
  rw [show fst [0, rng x 0 10080, rng y 0 10080] = 0 by simp [fst, z5, z6]]
  by_cases z7 : y < x
  · have z7q : ¬ x ≤ y := by omega
    have HO : Hid (pe = 11) := Lib.hid (by rw [HE.out]; simp [fst, unl, z2, z4, z5, z6, z7q])
    go_wp2_with fail
    go_ret
    exact ⟨by rw [HO.out]; rfl, hB5⟩
  have z7q : x ≤ y := by omega
  by_cases c1 : dm - am < x
  · have HFq : f8 = false := by rw [HF.out]; simp; omega
    have HO : Hid (pe = 32) := Lib.hid (by rw [HE.out]; simp [fst, unl, z2, z4, z5, z6, z7q, HFq])
    go_wp2_with fail
    go_ret
    exact ⟨by rw [HO.out]; rfl, hB5⟩
  by_cases c2 : dm - am > y
  · have HFq : f8 = false := by rw [HF.out]; simp; omega
    have HO : Hid (pe = 32) := Lib.hid (by rw [HE.out]; simp [fst, unl, z2, z4, z5, z6, z7q, HFq])
    go_wp2_with fail
    go_ret
    exact ⟨by rw [HO.out]; rfl, hB5⟩
  by_cases c3 : ¬ az = dz
  · have HFq : f8 = false := by rw [HF.out]; simp [c3]
    have HO : Hid (pe = 32) := Lib.hid (by rw [HE.out]; simp [fst, unl, z2, z4, z5, z6, z7q, HFq])
    go_wp2_with fail
    go_ret
    exact ⟨by rw [HO.out]; rfl, hB5⟩
  replace c3 : az = dz := Decidable.not_not.1 c3
  have HFq : f8 = agreeV ater dt := by
    rw [HF.out, decide_eq_true (show x ≤ dm - am by omega), decide_eq_true (show dm - am ≤ y by omega), decide_eq_true c3]
    rfl
  subst c3
  go_wp2_with fail
  refine (alike_any _ _ _).mono ?_
  rintro _ _ ⟨rfl, rfl⟩
  cases z8 : agreeV ater dt
  · rw [z8] at HFq
    have HO : Hid (pe = 32) := Lib.hid (by rw [HE.out]; simp [fst, unl, z2, z4, z5, z6, z7q, HFq])
    go_wp2_with fail
    go_ret
    exact ⟨by rw [HO.out]; rfl, hB5⟩
  · rw [z8] at HFq
    have HO : Hid (pe = 0) := Lib.hid (by rw [HE.out]; simp [fst, unl, z2, z4, z5, z6, z7q, HFq])
    go_wp2_with fail
    go_ret
    exact ⟨by rw [HO.out]; rfl, hB5⟩
end Go.Proofs.YtkjhnemfebgcnaaGreatDoor
