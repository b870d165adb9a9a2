/- Contracts of package ground and of the reference of chapter 4: a pair. -/
import Derived.Test.YtkjhnemfebgcnaaGreatDoorRmGPairB
import Derived.Test.YtkjhnemfebgcnaaGreatDoorGc3
import Derived.Test.YtkjhnemfebgcnaaGreatDoorGc13
namespace Go.Proofs.YtkjhnemfebgcnaaGreatDoor
open Go Go.RowKit
def orV (s t : ByteArray) : ByteArray := if (s.toList == []) = true then t else s
theorem nil_list : (⟨#[]⟩ : ByteArray).toList = [] := by first | decide | (unfold ByteArray.toList; unfold ByteArray.toList.loop; rw [if_neg (by decide)]; rfl)
theorem str_none {t : ByteArray} (h : (t.toList == []) = true) : t = ⟨#[]⟩ := str_eq.1 (by rw [nil_list]; exact h)
set_option maxRecDepth 100000 in
theorem or2_any (s t : ByteArray) (b c : Nat) (w : World) (h0 : w.cell? ⟨b, 0, none⟩ = some (.string s)) (h1 : w.cell? ⟨b, 1, none⟩ = some (.string t)) :
    Calls Tryz.prog 99 #[.slice (some ⟨b, 0, none⟩) 2 c] w fun r w' => r = .returned (.string (orV s t)) ∧ w' = w := by
  cases e0 : (s.toList == [])
  · have HO : Hid (orV s t = s) := Lib.hid (by unfold orV; rw [e0]; rfl)
    go_enter Tryz.func99, Tryz.ntmps99
    go_wp2_with fail
    go_loopw [8] (fun v8 wr => v8 = .int .i64 0 ∧ wr = w) (fun _ _ => 0)
    case atStart => exact ⟨rfl, rfl⟩
    case round =>
      obtain ⟨rfl, rfl⟩ := hrel
      go_wp2_with fail
      go_ret
      exact ⟨by rw [HO.out]; rfl, rfl⟩
  · cases e1 : (t.toList == [])
    · have HO : Hid (orV s t = t) := Lib.hid (by unfold orV; rw [e0]; rfl)
      go_enter Tryz.func99, Tryz.ntmps99
      go_wp2_with fail
      go_loopw [8] (fun v8 wr => (v8 = .int .i64 0 ∨ v8 = .int .i64 1) ∧ wr = w) (fun v8 _ => 2 - (intOf v8).toNat)
      case atStart => exact ⟨.inl rfl, rfl⟩
      case round =>
        obtain ⟨rfl | rfl, rfl⟩ := hrel
        · go_wp2_with fail
          go_roundw
          case rel => exact ⟨.inr rfl, by first | rfl | trivial⟩
          case measure => simp [intOf]
        · go_wp2_with fail
          go_ret
          exact ⟨by rw [HO.out]; rfl, rfl⟩
    · have HO : Hid (orV s t = ⟨#[]⟩) := Lib.hid (by unfold orV; rw [e0]; exact str_none e1)
      go_enter Tryz.func99, Tryz.ntmps99
      go_wp2_with fail
      go_loopw [8] (fun v8 wr => (v8 = .int .i64 0 ∨ v8 = .int .i64 1 ∨ v8 = .int .i64 2) ∧ wr = w) (fun v8 _ => 2 - (intOf v8).toNat)
      case atStart => exact ⟨.inl rfl, rfl⟩
      case round =>
        obtain ⟨rfl | rfl | rfl, rfl⟩ := hrel
        · go_wp2_with fail
          go_roundw
          case rel => exact ⟨.inr (.inl rfl), by first | rfl | trivial⟩
          case measure => simp [intOf]
        · go_wp2_with fail
          go_roundw
          case rel => exact ⟨.inr (.inr rfl), by first | rfl | trivial⟩
          case measure => simp [intOf]
        · go_wp2_with fail
          go_ret
          exact ⟨by rw [HO.out]; rfl, rfl⟩
def pairErr (a d : MovV) (x y : Int) : Int := fst [movE a, unl (a.kind.toList == [65]) 13, movE d, unl (d.kind.toList == [68]) 13, rng x 0 10080, rng y 0 10080, unl (decide (x ≤ y)) 11, unl (fitV a d x y) 32]
def pairT (a d : MovV) : TurnV := ⟨a.name, a.moment, d.moment, a.size, orV a.terminal d.terminal⟩
def zeroT : TurnV := ⟨⟨#[]⟩, 0, 0, 0, ⟨#[]⟩⟩
def pairOut (a d : MovV) (x y : Int) : TurnV := if pairErr a d x y = 0 then pairT a d else zeroT
set_option maxRecDepth 100000 in
set_option maxHeartbeats 4000000 in
theorem Pair_any (a d : MovV) (x y : Int) (w : World) :
    Calls Tryz.prog 30 #[.agg a.cells, .agg d.cells, .int .i64 x, .int .i64 y] w fun r w' => r = .returned (.tuple #[.agg (pairOut a d x y).cells, .int .i64 (pairErr a d x y)]) ∧ Below w.heap.size w w' := by
  have HE : Hid (pairErr a d x y = fst [movE a, unl (a.kind.toList == [65]) 13, movE d, unl (d.kind.toList == [68]) 13, rng x 0 10080, rng y 0 10080, unl (decide (x ≤ y)) 11, unl (fitV a d x y) 32]) := Lib.hid rfl
  obtain ⟨W, HW, hb0, R0⟩ := Mov_new w a 50
  obtain ⟨W1, HW1, hb1, R⟩ := Mov_new W d 50
  obtain ⟨W2, HW2, hb2, Z⟩ := Turn_new W1 zeroT 56
  have hsz : W.heap.size = w.heap.size + 1 := by rw [← HW.out]; simp
  have hsz1 : W1.heap.size = w.heap.size + 1 + 1 := by rw [← HW1.out]; simp [hsz]
  have fz : ∀ i, i < 5 → W2.frozen? ⟨w.heap.size + 1 + 1, i, none⟩ = false := fun i hi => by rw [← HW2.out, ← hsz1]; simp [zeroT, TurnV.cells]
  have HMA := Lib.hid (fun w => mov1_any a w)
  have HMD := Lib.hid (fun w => mov1_any d w)
  have HFT := Lib.hid (fun w => fit_any a d x y w)
  rw [hsz] at R
  rw [hsz1] at Z
  have hb12 := b_then hb1 hb2
  obtain ⟨s0, s1, s2, s3, s4, s5, s6⟩ := R0
  have s0 := b_old hb12 s0
  have s1 := b_old hb12 s1
  have s2 := b_old hb12 s2
  have s3 := b_old hb12 s3
  have s4 := b_old hb12 s4
  have s5 := b_old hb12 s5
  have s6 := b_old hb12 s6
  obtain ⟨r0, r1, r2, r3, r4, r5, r6⟩ := R
  have r0 := b_old hb2 r0
  have r1 := b_old hb2 r1
  have r2 := b_old hb2 r2
  have r3 := b_old hb2 r3
  have r4 := b_old hb2 r4
  have r5 := b_old hb2 r5
  have r6 := b_old hb2 r6
  have hB := b_then hb0 hb12
  have hT : a.terminal = a.terminal := rfl
  clear hT
  have HP : Hid (pairOut a d x y = if pairErr a d x y = 0 then ⟨a.name, a.moment, d.moment, a.size, orV a.terminal d.terminal⟩ else zeroT) := Lib.hid rfl
  generalize movE a = e1 at *
  generalize movE d = e3 at *
  generalize fitV a d x y = f8 at *
  generalize pairErr a d x y = pe at *
  generalize pairOut a d x y = po at *
  obtain ⟨am, ak, ater, asts, az, an, aname⟩ := a
  obtain ⟨dm, dk, dt, ds, dz, dn, dname⟩ := d
  simp only [MovV.cells, zeroT, TurnV.cells] at *
  have k0 : ∀ x : KeptW W2, x.v.cell? ⟨w.heap.size, 0, none⟩ = _ := fun x => x.cell s0
  have k1 : ∀ x : KeptW W2, x.v.cell? ⟨w.heap.size, 1, none⟩ = _ := fun x => x.cell s1
  have k2 : ∀ x : KeptW W2, x.v.cell? ⟨w.heap.size, 2, none⟩ = _ := fun x => x.cell s2
  have k3 : ∀ x : KeptW W2, x.v.cell? ⟨w.heap.size, 3, none⟩ = _ := fun x => x.cell s3
  have k4 : ∀ x : KeptW W2, x.v.cell? ⟨w.heap.size, 4, none⟩ = _ := fun x => x.cell s4
  have k5 : ∀ x : KeptW W2, x.v.cell? ⟨w.heap.size, 5, none⟩ = _ := fun x => x.cell s5
  have k6 : ∀ x : KeptW W2, x.v.cell? ⟨w.heap.size, 6, none⟩ = _ := fun x => x.cell s6
  have j0 : ∀ x : KeptW W2, x.v.cell? ⟨w.heap.size + 1, 0, none⟩ = _ := fun x => x.cell r0
  have j1 : ∀ x : KeptW W2, x.v.cell? ⟨w.heap.size + 1, 1, none⟩ = _ := fun x => x.cell r1
  have j2 : ∀ x : KeptW W2, x.v.cell? ⟨w.heap.size + 1, 2, none⟩ = _ := fun x => x.cell r2
  have j3 : ∀ x : KeptW W2, x.v.cell? ⟨w.heap.size + 1, 3, none⟩ = _ := fun x => x.cell r3
  have j4 : ∀ x : KeptW W2, x.v.cell? ⟨w.heap.size + 1, 4, none⟩ = _ := fun x => x.cell r4
  have j5 : ∀ x : KeptW W2, x.v.cell? ⟨w.heap.size + 1, 5, none⟩ = _ := fun x => x.cell r5
  have j6 : ∀ x : KeptW W2, x.v.cell? ⟨w.heap.size + 1, 6, none⟩ = _ := fun x => x.cell r6
  have hne : Nonempty (KeptW W2) := ⟨⟨W2, Below.refl _ _⟩⟩
  go_enter Tryz.func30, Tryz.ntmps30
  go_wp2_with fail
  rw [HW.out, HW1.out, HW2.out]
  refine tail_kept 26 (by kernel_rfl) (by kernel_rfl) ?_
  simp only [List.take_succ_cons, List.take_zero, List.drop_succ_cons, List.drop_zero]
  go_big_quiet_step (fail)
  go_big_quiet_step (exact KeptW.calls (HMA.out _))
  iterate 3 (go_big_quiet_step (fail))
  go_big_quiet_step (exact KeptW.calls_same (unless_any _ _ _))
  go_big_quiet_step (fail)
  go_big_quiet_step (exact KeptW.calls (HMD.out _))
  iterate 3 (go_big_quiet_step (fail))
  go_big_quiet_step (exact KeptW.calls_same (unless_any _ _ _))
  go_big_quiet_step (fail)
  go_big_quiet_step (exact KeptW.calls_same (checkRange_any _ _ _ _))
  go_big_quiet_step (fail)
  go_big_quiet_step (exact KeptW.calls_same (checkRange_any _ _ _ _))
  iterate 3 (go_big_quiet_step (fail))
  go_big_quiet_step (exact KeptW.calls_same (unless_any _ _ _))
  iterate 4 (go_big_quiet_step (fail))
  go_big_quiet_step (exact KeptW.calls (HFT.out _))
  go_big_quiet_step (exact KeptW.calls_same (unless_any _ _ _))
  refine wpQuiet_nil ?_
  rintro _ ⟨q, rfl⟩
  have hbx := b_then hB q.below
  have s0 := k0 q
  have s1 := k1 q
  have s2 := k2 q
  have s3 := k3 q
  have s4 := k4 q
  have s5 := k5 q
  have s6 := k6 q
  have r0 := j0 q
  have r1 := j1 q
  have r2 := j2 q
  have r3 := j3 q
  have r4 := j4 q
  have r5 := j5 q
  have r6 := j6 q
  have zz0 := b_old q.below Z.c0
  have zz1 := b_old q.below Z.c1
  have zz2 := b_old q.below Z.c2
  have zz3 := b_old q.below Z.c3
  have zz4 := b_old q.below Z.c4
  clear k0 k1 k2 k3 k4 k5 k6 j0 j1 j2 j3 j4 j5 j6 hne
  go_wp2_with fail
  refine (fe_new [_, _, _, _, _, _, _, _] _ _ _ _ _ rfl rfl (by simp)).mono ?_
  rintro e2 w2 ⟨rfl, hw⟩
  rw [← HE.out]
  have hb3 : Below q.v.heap.size q.v w2 := by rw [hw]; exact below_alloc _ _
  clear hw
  have hB2 := b_then hbx hb3
  have s0 := b_old hb3 s0
  have s1 := b_old hb3 s1
  have s2 := b_old hb3 s2
  have s3 := b_old hb3 s3
  have s4 := b_old hb3 s4
  have s5 := b_old hb3 s5
  have s6 := b_old hb3 s6
  have r0 := b_old hb3 r0
  have r1 := b_old hb3 r1
  have r2 := b_old hb3 r2
  have r3 := b_old hb3 r3
  have r4 := b_old hb3 r4
  have r5 := b_old hb3 r5
  have r6 := b_old hb3 r6
  have z0 := b_old hb3 zz0
  have z1 := b_old hb3 zz1
  have z2 := b_old hb3 zz2
  have z3 := b_old hb3 zz3
  have z4 := b_old hb3 zz4
  have g0 := b_frozen hb3 zz0 (b_frozen q.below Z.c0 (fz 0 (by decide)))
  have g1 := b_frozen hb3 zz1 (b_frozen q.below Z.c1 (fz 1 (by decide)))
  have g2 := b_frozen hb3 zz2 (b_frozen q.below Z.c2 (fz 2 (by decide)))
  have g3 := b_frozen hb3 zz3 (b_frozen q.below Z.c3 (fz 3 (by decide)))
  have g4 := b_frozen hb3 zz4 (b_frozen q.below Z.c4 (fz 4 (by decide)))
  have hN : w.heap.size ≤ w.heap.size + 1 + 1 := by omega
  by_cases hp : pe = 0
  · have HP2 := HP.out
    rw [if_pos hp] at HP2
    subst hp
    go_wp2_with fail
    refine HN.heldK_way (fun o => o.dst == some 55 || o.dst == some 56) (fun o v x => (o.dst = some 55 → ∃ b c, v = .slice (some ⟨b, 0, none⟩) 2 c ∧ x.cell? ⟨b, 0, none⟩ = some (.string ater) ∧ x.cell? ⟨b, 1, none⟩ = some (.string dt)) ∧ (o.dst = some 56 → v = .string (orV ater dt))) 15 [13, 12] (by kernel_rfl) (by kernel_rfl) (by kernel_rfl) (fun _ v x y hx hy => ⟨fun ho => ?_, hx.2⟩) ?_
    · obtain ⟨b, c, rfl, h1, h2⟩ := hx.1 ho
      exact ⟨b, c, rfl, b_old hy h1, b_old hy h2⟩
    simp only [List.take_succ_cons, List.take_zero, List.drop_succ_cons, List.drop_zero]
    refine HN.holdK_run 12 (by kernel_rfl) (fun u1 hu1 => ?_)
    simp only [List.take_succ_cons, List.take_zero, List.drop_succ_cons, List.drop_zero]
    have k0 : ∀ x : KeptW u1, x.v.cell? ⟨w.heap.size, 0, none⟩ = _ := fun x => x.cell (b_old hu1 s0)
    have k2 : ∀ x : KeptW u1, x.v.cell? ⟨w.heap.size, 2, none⟩ = _ := fun x => x.cell (b_old hu1 s2)
    have k4 : ∀ x : KeptW u1, x.v.cell? ⟨w.heap.size, 4, none⟩ = _ := fun x => x.cell (b_old hu1 s4)
    have k6 : ∀ x : KeptW u1, x.v.cell? ⟨w.heap.size, 6, none⟩ = _ := fun x => x.cell (b_old hu1 s6)
    have j0 : ∀ x : KeptW u1, x.v.cell? ⟨w.heap.size + 1, 0, none⟩ = _ := fun x => x.cell (b_old hu1 r0)
    have j2 : ∀ x : KeptW u1, x.v.cell? ⟨w.heap.size + 1, 2, none⟩ = _ := fun x => x.cell (b_old hu1 r2)
    have hne2 : Nonempty (KeptW u1) := ⟨⟨u1, Below.refl _ _⟩⟩
    iterate 12 (go_big_quiet_step (fail))
    refine wpQuiet_nil ?_
    clear k0 k2 k4 k6 j0 j2 hne2
    intro K1 _
    refine HN.holdK_atG rfl (by first | rfl | kernel_rfl) (fun x hux _ => ?_) ?_
    · refine HN.heldUpon_made (o := .cells #[.string ater, .string dt] 9) (v := .slice (some ⟨x.heap.size, 0, none⟩) 2 2) (by simp [go_sem]) ?_
      exact ⟨fun _ => ⟨_, _, rfl, by simp, by simp⟩, (fun h => by cases h)⟩
    rintro v55 ⟨x55, -, -, hv, -⟩
    obtain ⟨b55, c55, rfl, -, -⟩ := hv (by first | rfl | trivial)
    clear hv x55
    simp only [Act.put, List.setIfInBounds_toArray, List.set_cons_succ, List.set_cons_zero]
    refine HN.holdK_atG rfl (by first | rfl | kernel_rfl) (fun x hux hk => ?_) ?_
    · obtain ⟨b', c', he, hc1, hc2⟩ := hk.2.1 (by first | rfl | trivial)
      obtain ⟨rfl, rfl⟩ : b55 = b' ∧ c55 = c' := by simpa using he
      refine HN.heldUpon_enter (f := 99) (args := #[.slice (some ⟨b55, 0, none⟩) 2 c55]) (by simp [go_sem]) ((or2_any ater dt b55 c55 x hc1 hc2).mono ?_)
      rintro e y ⟨rfl, rfl⟩
      exact ⟨_, rfl, KpW.self _, (fun h => by cases h), (fun _ => rfl)⟩
    rintro v56 ⟨x56, -, -, -, hv⟩
    obtain rfl := hv (by first | rfl | trivial)
    clear hv x56
    refine HN.holdK_run 1 (by kernel_rfl) (fun u3 hu3 => ?_)
    simp only [List.take_succ_cons, List.take_zero, List.drop_succ_cons, List.drop_zero, Act.put, List.setIfInBounds_toArray, List.set_cons_succ, List.set_cons_zero]
    have hne3 : Nonempty (KeptW u3) := ⟨⟨u3, Below.refl _ _⟩⟩
    go_big_quiet_step (fail)
    refine wpQuiet_nil ?_
    clear hne3
    intro K3 hK3 w5 hb6 _
    clear hK3
    have hB5 := b_then hB2 hb6
    have y0 := b_old hb6 z0
    have x0 := b_frozen hb6 z0 g0
    have y1 := b_old hb6 z1
    have x1 := b_frozen hb6 z1 g1
    have y2 := b_old hb6 z2
    have x2 := b_frozen hb6 z2 g2
    have y3 := b_old hb6 z3
    have x3 := b_frozen hb6 z3 g3
    have y4 := b_old hb6 z4
    have x4 := b_frozen hb6 z4 g4
    have BF : ∀ v0 v1 v2 v3 v4, Below w.heap.size w (((((w5.setCell ⟨w.heap.size + 1 + 1, 0, none⟩ v0).setCell ⟨w.heap.size + 1 + 1, 1, none⟩ v1).setCell ⟨w.heap.size + 1 + 1, 2, none⟩ v2).setCell ⟨w.heap.size + 1 + 1, 3, none⟩ v3).setCell ⟨w.heap.size + 1 + 1, 4, none⟩ v4) := fun v0 v1 v2 v3 v4 => (((((hB5.setCell (p := ⟨w.heap.size + 1 + 1, 0, none⟩) hN v0).setCell (p := ⟨w.heap.size + 1 + 1, 1, none⟩) hN v1).setCell (p := ⟨w.heap.size + 1 + 1, 2, none⟩) hN v2).setCell (p := ⟨w.heap.size + 1 + 1, 3, none⟩) hN v3).setCell (p := ⟨w.heap.size + 1 + 1, 4, none⟩) hN v4)
    clear g0 g1 g2 g3 g4 z0 z1 z2 z3 z4
    go_wp2_with fail
    exact bodyPost_ret (v := .tuple #[.agg #[.string aname, .int .i64 am, .int .i64 dm, .int .i64 az, .string (orV ater dt)], .int .i64 0]) (by simp [results, Tryz.results30, go_sem, y0, y1, y2, y3, y4]) rfl ⟨by rw [HP2], BF _ _ _ _ _⟩
  · have HP2 := HP.out
    rw [if_neg hp] at HP2
    have BF : ∀ v0 v1 v2 v3 v4, Below w.heap.size w (((((w2.setCell ⟨w.heap.size + 1 + 1, 0, none⟩ v0).setCell ⟨w.heap.size + 1 + 1, 1, none⟩ v1).setCell ⟨w.heap.size + 1 + 1, 2, none⟩ v2).setCell ⟨w.heap.size + 1 + 1, 3, none⟩ v3).setCell ⟨w.heap.size + 1 + 1, 4, none⟩ v4) := fun v0 v1 v2 v3 v4 => (((((hB2.setCell (p := ⟨w.heap.size + 1 + 1, 0, none⟩) hN v0).setCell (p := ⟨w.heap.size + 1 + 1, 1, none⟩) hN v1).setCell (p := ⟨w.heap.size + 1 + 1, 2, none⟩) hN v2).setCell (p := ⟨w.heap.size + 1 + 1, 3, none⟩) hN v3).setCell (p := ⟨w.heap.size + 1 + 1, 4, none⟩) hN v4)
    go_wp2_with fail
    exact bodyPost_ret (v := .tuple #[.agg #[.string ⟨#[]⟩, .int .i64 0, .int .i64 0, .int .i64 0, .string ⟨#[]⟩], .int .i64 pe]) (by simp [results, Tryz.results30, go_sem, z0, z1, z2, z3, z4]) rfl ⟨by rw [HP2], BF _ _ _ _ _⟩
end Go.Proofs.YtkjhnemfebgcnaaGreatDoor
