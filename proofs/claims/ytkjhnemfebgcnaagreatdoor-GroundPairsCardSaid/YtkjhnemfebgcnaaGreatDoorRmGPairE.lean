/- Contracts of package ground: Suits, Overlap. -/
import Derived.Test.YtkjhnemfebgcnaaGreatDoorRmGPairD
import Derived.Test.YtkjhnemfebgcnaaGreatDoorRmHeldL
namespace Go.Proofs.YtkjhnemfebgcnaaGreatDoor
open Go Go.RowKit Go.ChangeMaps Go.MapKept
def suitsErr (s : StandV) (t : TurnV) : Int := fst [standsErr [s], turnsErr [t]]
def suitsOut (s : StandV) (t : TurnV) : Bool := if suitsErr s t = 0 then suitsV s t else false
theorem cStand1 (s : StandV) (hs : s.name.size ≤ maxLen) (v : Value) (w : World) (hv : SlArg StandV.cells 3 w v [s]) : Calls Tryz.prog 22 #[v] w fun e w' => e = .returned (.int .i64 (standsErr [s])) ∧ Below w.heap.size w w' :=
  CheckStands_any [s] v w w hv (Below.refl _ _) (fun k hk => by obtain rfl : k = 0 := by simp at hk; omega
                                                                exact hs)
theorem cTurn1 (s : TurnV) (hs : s.name.size ≤ maxLen) (v : Value) (w : World) (hv : SlArg TurnV.cells 5 w v [s]) : Calls Tryz.prog 24 #[v] w fun e w' => e = .returned (.int .i64 (turnsErr [s])) ∧ Below w.heap.size w w' :=
  CheckTurns_any [s] v w w hv (Below.refl _ _) (fun k hk => by obtain rfl : k = 0 := by simp at hk; omega
                                                               exact hs)
set_option maxRecDepth 100000 in
set_option maxHeartbeats 4000000 in
theorem Suits_any (s : StandV) (t : TurnV) (hs : s.name.size ≤ maxLen) (ht : t.name.size ≤ maxLen) (w : World) :
    Calls Tryz.prog 33 #[.agg s.cells, .agg t.cells] w fun r w' => r = .returned (.tuple #[.bool (suitsOut s t), .int .i64 (suitsErr s t)]) ∧ Below w.heap.size w w' := by
  have HE : Hid (suitsErr s t = fst [standsErr [s], turnsErr [t]]) := Lib.hid rfl
  have HP : Hid (suitsOut s t = if suitsErr s t = 0 then suitsV s t else false) := Lib.hid rfl
  obtain ⟨W, HW, hb0, R0⟩ := Stand_new w s 54
  obtain ⟨W1, HW1, hb1, R⟩ := Turn_new W t 56
  have hsz : W.heap.size = w.heap.size + 1 := by rw [← HW.out]; simp
  rw [hsz] at R
  have HCS := Lib.hid (cStand1 s hs)
  have HCT := Lib.hid (cTurn1 t ht)
  have HSU := Lib.hid (fun w => suits_any s t w)
  clear hs ht
  obtain ⟨s0, s1, s2⟩ := R0
  have s0 := b_old hb1 s0
  have s1 := b_old hb1 s1
  have s2 := b_old hb1 s2
  obtain ⟨r0, r1, r2, r3, r4⟩ := R
  have hB := b_then hb0 hb1
  obtain ⟨sn, ss, st⟩ := s
  obtain ⟨tn, ta, te, tz, tt⟩ := t
  generalize standsErr [⟨sn, ss, st⟩] = e1 at *
  generalize turnsErr [⟨tn, ta, te, tz, tt⟩] = e2 at *
  generalize suitsV ⟨sn, ss, st⟩ ⟨tn, ta, te, tz, tt⟩ = sv at *
  generalize suitsErr ⟨sn, ss, st⟩ ⟨tn, ta, te, tz, tt⟩ = pe at *
  generalize suitsOut ⟨sn, ss, st⟩ ⟨tn, ta, te, tz, tt⟩ = po at *
  simp only [StandV.cells, TurnV.cells] at *
  go_enter Tryz.func33, Tryz.ntmps33
  go_wp2_with fail
  rw [HW.out, HW1.out]
  refine HL.held_ways (fun o => o.dst == some 8 || o.dst == some 9 || o.dst == some 11 || o.dst == some 12 || o.dst == some 13 || o.dst == some 14) (fun o p => (o.dst == some 9 && p.dst == some 8) || (o.dst == some 12 && p.dst == some 11) || (o.dst == some 14 && p.dst == some 13)) (fun o v x => (o.dst = some 8 → ∃ b c, v = .slice (some ⟨b, 0, none⟩) 1 c ∧ SlArg StandV.cells 3 x v [⟨sn, ss, st⟩]) ∧ (o.dst = some 9 → v = .int .i64 e1) ∧ (o.dst = some 11 → ∃ b c, v = .slice (some ⟨b, 0, none⟩) 1 c ∧ SlArg TurnV.cells 5 x v [⟨tn, ta, te, tz, tt⟩]) ∧ (o.dst = some 12 → v = .int .i64 e2) ∧ (o.dst = some 13 → ∃ b c, v = .slice (some ⟨b, 0, none⟩) 2 c ∧ x.cell? ⟨b, 0, none⟩ = some (.int .i64 e1) ∧ x.cell? ⟨b, 1, none⟩ = some (.int .i64 e2)) ∧ (o.dst = some 14 → v = .int .i64 (fst [e1, e2]))) 8 [[2, 1], [5, 4], [7, 6]] (by kernel_rfl) (by kernel_rfl) (by kernel_rfl) (fun _ v x y hx hy => ⟨fun ho => ?_, hx.2.1, fun ho => ?_, hx.2.2.2.1, fun ho => ?_, hx.2.2.2.2.2⟩) ?_
  · obtain ⟨b, c, h1, h2⟩ := hx.1 ho; exact ⟨b, c, h1, h2.below hy⟩
  · obtain ⟨b, c, h1, h2⟩ := hx.2.2.1 ho; exact ⟨b, c, h1, h2.below hy⟩
  · obtain ⟨b, c, h1, h2, h3⟩ := hx.2.2.2.2.1 ho; exact ⟨b, c, h1, b_old hy h2, b_old hy h3⟩
  simp only [List.take_succ_cons, List.take_zero, List.drop_succ_cons, List.drop_zero]
  refine HL.hold_run 1 (by kernel_rfl) (fun u1 hu1 => ?_)
  simp only [List.take_succ_cons, List.take_zero, List.drop_succ_cons, List.drop_zero]
  have k0 : ∀ x : KeptW u1, x.v.cell? ⟨w.heap.size, 0, none⟩ = _ := fun x => x.cell (b_old hu1 s0)
  have k1 : ∀ x : KeptW u1, x.v.cell? ⟨w.heap.size, 1, none⟩ = _ := fun x => x.cell (b_old hu1 s1)
  have k2 : ∀ x : KeptW u1, x.v.cell? ⟨w.heap.size, 2, none⟩ = _ := fun x => x.cell (b_old hu1 s2)
  have hne : Nonempty (KeptW u1) := ⟨⟨u1, Below.refl _ _⟩⟩
  iterate 1 (go_big_quiet_step (fail))
  refine wpQuiet_nil ?_
  clear hne k0 k1 k2
  intro K1 hK1
  refine HL.hold_at rfl (by first | rfl | kernel_rfl) (fun x hux _ => ?_) ?_
  · refine HN.heldUpon_made (o := .cells #[.string sn, .int .i64 ss, .string st] 54) (v := .slice (some ⟨x.heap.size, 0, none⟩) 1 1) (by simp [go_sem]) ?_
    exact ⟨(fun _ => ⟨_, _, rfl, one_sl StandV.cells 3 ⟨sn, ss, st⟩ x _ _ 1 rfl (by decide)⟩), (fun h => by cases h), (fun h => by cases h), (fun h => by cases h), (fun h => by cases h), (fun h => by cases h)⟩
  rintro v8 ⟨x8, -, -, hv, -, -, -, -, -⟩
  obtain ⟨b8, c8, rfl, -⟩ := hv (by first | rfl | trivial)
  clear hv x8
  simp only [Act.put, List.setIfInBounds_toArray, List.set_cons_succ, List.set_cons_zero]
  refine HL.hold_at rfl (by first | rfl | kernel_rfl) (fun x hux hk => ?_) ?_
  · have hS := (hk.2 (by first | rfl | trivial)).1 (by first | rfl | trivial)
    obtain ⟨_, _, -, hS⟩ := hS
    refine HN.heldUpon_enter (f := 22) (args := #[.slice (some ⟨b8, 0, none⟩) 1 c8]) (by simp [go_sem]) ((HCS.out _ x hS).mono ?_)
    rintro e y ⟨rfl, hy⟩
    exact ⟨_, rfl, KpW.iff.2 hy, (fun h => by cases h), (fun _ => rfl), (fun h => by cases h), (fun h => by cases h), (fun h => by cases h), (fun h => by cases h)⟩
  rintro v9 ⟨x9, -, -, -, hv, -, -, -, -⟩
  obtain rfl := hv (by first | rfl | trivial)
  clear hv x9
  refine HL.hold_run 1 (by kernel_rfl) (fun u2 hu2 => ?_)
  simp only [List.take_succ_cons, List.take_zero, List.drop_succ_cons, List.drop_zero, Act.put, List.setIfInBounds_toArray, List.set_cons_succ, List.set_cons_zero]
  have k0 : ∀ x : KeptW u2, x.v.cell? ⟨w.heap.size + 1, 0, none⟩ = _ := fun x => x.cell (b_old hu2 r0)
  have k1 : ∀ x : KeptW u2, x.v.cell? ⟨w.heap.size + 1, 1, none⟩ = _ := fun x => x.cell (b_old hu2 r1)
  have k2 : ∀ x : KeptW u2, x.v.cell? ⟨w.heap.size + 1, 2, none⟩ = _ := fun x => x.cell (b_old hu2 r2)
  have k3 : ∀ x : KeptW u2, x.v.cell? ⟨w.heap.size + 1, 3, none⟩ = _ := fun x => x.cell (b_old hu2 r3)
  have k4 : ∀ x : KeptW u2, x.v.cell? ⟨w.heap.size + 1, 4, none⟩ = _ := fun x => x.cell (b_old hu2 r4)
  have hne : Nonempty (KeptW u2) := ⟨⟨u2, Below.refl _ _⟩⟩
  iterate 1 (go_big_quiet_step (fail))
  refine wpQuiet_nil ?_
  clear hne k0 k1 k2 k3 k4
  intro K2 hK2
  refine HL.hold_at rfl (by first | rfl | kernel_rfl) (fun x hux _ => ?_) ?_
  · refine HN.heldUpon_made (o := .cells #[.string tn, .int .i64 ta, .int .i64 te, .int .i64 tz, .string tt] 56) (v := .slice (some ⟨x.heap.size, 0, none⟩) 1 1) (by simp [go_sem]) ?_
    exact ⟨(fun h => by cases h), (fun h => by cases h), (fun _ => ⟨_, _, rfl, one_sl TurnV.cells 5 ⟨tn, ta, te, tz, tt⟩ x _ _ 1 rfl (by decide)⟩), (fun h => by cases h), (fun h => by cases h), (fun h => by cases h)⟩
  rintro v11 ⟨x11, -, -, -, -, hv, -, -, -⟩
  obtain ⟨b11, c11, rfl, -⟩ := hv (by first | rfl | trivial)
  clear hv x11
  simp only [Act.put, List.setIfInBounds_toArray, List.set_cons_succ, List.set_cons_zero]
  refine HL.hold_at rfl (by first | rfl | kernel_rfl) (fun x hux hk => ?_) ?_
  · have hS := (hk.2 (by first | rfl | trivial)).2.2.1 (by first | rfl | trivial)
    obtain ⟨_, _, -, hS⟩ := hS
    refine HN.heldUpon_enter (f := 24) (args := #[.slice (some ⟨b11, 0, none⟩) 1 c11]) (by simp [go_sem]) ((HCT.out _ x hS).mono ?_)
    rintro e y ⟨rfl, hy⟩
    exact ⟨_, rfl, KpW.iff.2 hy, (fun h => by cases h), (fun h => by cases h), (fun h => by cases h), (fun _ => rfl), (fun h => by cases h), (fun h => by cases h)⟩
  rintro v12 ⟨x12, -, -, -, -, -, hv, -, -⟩
  obtain rfl := hv (by first | rfl | trivial)
  clear hv x12
  refine HL.hold_at rfl (by first | rfl | kernel_rfl) (fun x hux _ => ?_) ?_
  · refine HN.heldUpon_made (o := .cells #[.int .i64 e1, .int .i64 e2] 39) (v := .slice (some ⟨x.heap.size, 0, none⟩) 2 2) (by simp [go_sem]) ?_
    exact ⟨(fun h => by cases h), (fun h => by cases h), (fun h => by cases h), (fun h => by cases h), (fun _ => ⟨_, _, rfl, by simp, by simp⟩), (fun h => by cases h)⟩
  rintro v13 ⟨x13, -, -, -, -, -, -, hv, -⟩
  obtain ⟨b13, c13, rfl, -, -⟩ := hv (by first | rfl | trivial)
  clear hv x13
  simp only [Act.put, List.setIfInBounds_toArray, List.set_cons_succ, List.set_cons_zero]
  refine HL.hold_at rfl (by first | rfl | kernel_rfl) (fun x hux hk => ?_) ?_
  · have hS := (hk.2 (by first | rfl | trivial)).2.2.2.2.1 (by first | rfl | trivial)
    obtain ⟨b, c, he, h1, h2⟩ := hS
    obtain ⟨rfl, rfl⟩ : b13 = b ∧ c13 = c := by simpa using he
    clear he -- SAME
    refine HN.heldUpon_enter (f := 80) (args := #[.slice (some ⟨b13, 0, none⟩) 2 c13]) (by simp [go_sem]) ((firstError_any [e1, e2] b13 c13 x (fun i hi => by match i, hi with | 0, _ => exact h1 | 1, _ => exact h2) (by simp)).mono ?_)
    rintro e y ⟨rfl, hy⟩
    exact ⟨_, rfl, KpW.iff.2 (by rw [hy]; exact Below.refl _ _), (fun h => by cases h), (fun h => by cases h), (fun h => by cases h), (fun h => by cases h), (fun h => by cases h), (fun _ => rfl)⟩
  rintro v14 ⟨x14, -, -, -, -, -, -, -, hv⟩
  obtain rfl := hv (by first | rfl | trivial)
  clear hv x14
  intro w5 hb5 hkz
  clear hkz
  have hB5 := b_then hB hb5
  have s0 := b_old hb5 s0
  have s1 := b_old hb5 s1
  have s2 := b_old hb5 s2
  have r0 := b_old hb5 r0
  have r1 := b_old hb5 r1
  have r2 := b_old hb5 r2
  have r3 := b_old hb5 r3
  have r4 := b_old hb5 r4
  clear K1 hK1 K2 hK2
  simp only [Act.put, List.setIfInBounds_toArray, List.set_cons_succ, List.set_cons_zero]
  rw [← HE.out]
  by_cases hp : pe = 0
  · have HP2 := HP.out
    rw [if_pos hp] at HP2
    subst hp
    go_wp2_with fail
    refine (HSU.out _).mono ?_
    rintro e6 w6 ⟨rfl, hb6⟩
    go_wp2_with fail
    exact bodyPost_ret (v := .tuple #[.bool sv, .int .i64 0]) (by simp [results, Tryz.results33, go_sem]) rfl ⟨by rw [HP2], b_then hB5 hb6⟩
  · have HP2 := HP.out
    rw [if_neg hp] at HP2
    go_wp2_with fail
    exact bodyPost_ret (v := .tuple #[.bool false, .int .i64 pe]) (by simp [results, Tryz.results33, go_sem]) rfl ⟨by rw [HP2], hB5⟩
theorem fst_zero {x : Int} {l : List Int} (h : fst (x :: l) = 0) : x = 0 ∧ fst l = 0 := by
  by_cases hx : x = 0
  · exact ⟨hx, by simpa [fst, hx] using h⟩
  · simp [fst, hx] at h
theorem rng_bd {n a b : Int} (h : rng n a b = 0) : a ≤ n ∧ n ≤ b := by
  unfold rng at h
  split at h
  · assumption
  · cases h
theorem turnE_bd {S : ByteArray → Bool} {a : TurnV} (h : turnE S a = 0) : TurnB a := by
  have a3 := fst_zero (fst_zero (fst_zero h).2).2
  have h1 := rng_bd a3.1
  have h2 := rng_bd (fst_zero a3.2).1
  exact ⟨h1.1, by omega, h2.1, by omega⟩
theorem turnsErr_bd {a : TurnV} (h : turnsErr [a] = 0) : TurnB a := by
  unfold turnsErr listErr at h
  by_cases h1 : turnE (fun _ => false) a = 0
  · exact turnE_bd h1
  · simp [h1] at h
def overErr (a b : TurnV) (n : Int) : Int := fst [turnsErr [a], turnsErr [b], rng n 0 240]
def overOut (a b : TurnV) (n : Int) : Bool := if overErr a b n = 0 then overlapV a b n else false
set_option maxRecDepth 100000 in
set_option maxHeartbeats 4000000 in
theorem Overlap_any (a b : TurnV) (n : Int) (hs : a.name.size ≤ maxLen) (ht : b.name.size ≤ maxLen) (w : World) :
    Calls Tryz.prog 36 #[.agg a.cells, .agg b.cells, .int .i64 n] w fun r w' => r = .returned (.tuple #[.bool (overOut a b n), .int .i64 (overErr a b n)]) ∧ Below w.heap.size w w' := by
  have HE : Hid (overErr a b n = fst [turnsErr [a], turnsErr [b], rng n 0 240]) := Lib.hid rfl
  have HP : Hid (overOut a b n = if overErr a b n = 0 then overlapV a b n else false) := Lib.hid rfl
  obtain ⟨W, HW, hb0, R0⟩ := Turn_new w a 56
  obtain ⟨W1, HW1, hb1, R⟩ := Turn_new W b 56
  have hsz : W.heap.size = w.heap.size + 1 := by rw [← HW.out]; simp
  rw [hsz] at R
  have HCS := Lib.hid (cTurn1 a hs)
  have HCT := Lib.hid (cTurn1 b ht)
  have HSU := Lib.hid (fun (w : World) (h : overErr a b n = 0) => by
    have h1 := fst_zero h
    have h2 := fst_zero h1.2
    have h3 := rng_bd (fst_zero h2.2).1
    exact overlap_any a b n w (turnsErr_bd h1.1) (turnsErr_bd h2.1) h3.1 h3.2)
  clear hs ht
  obtain ⟨s0, s1, s2, s3, s4⟩ := R0
  have s0 := b_old hb1 s0
  have s1 := b_old hb1 s1
  have s2 := b_old hb1 s2
  have s3 := b_old hb1 s3
  have s4 := b_old hb1 s4
  obtain ⟨r0, r1, r2, r3, r4⟩ := R
  have hB := b_then hb0 hb1
  obtain ⟨an, as9, ae, az, at9⟩ := a
  obtain ⟨bn, bs, be, bz, bt⟩ := b
  generalize turnsErr [⟨an, as9, ae, az, at9⟩] = e1 at *
  generalize turnsErr [⟨bn, bs, be, bz, bt⟩] = e2 at *
  generalize overlapV ⟨an, as9, ae, az, at9⟩ ⟨bn, bs, be, bz, bt⟩ n = sv at *
  generalize overErr ⟨an, as9, ae, az, at9⟩ ⟨bn, bs, be, bz, bt⟩ n = pe at *
  generalize overOut ⟨an, as9, ae, az, at9⟩ ⟨bn, bs, be, bz, bt⟩ n = po at *
  simp only [TurnV.cells] at *
  go_enter Tryz.func36, Tryz.ntmps36
  go_wp2_with fail
  rw [HW.out, HW1.out]
  refine HL.held_ways (fun o => o.dst == some 10 || o.dst == some 11 || o.dst == some 13 || o.dst == some 14 || o.dst == some 17 || o.dst == some 18) (fun o p => (o.dst == some 11 && p.dst == some 10) || (o.dst == some 14 && p.dst == some 13) || (o.dst == some 18 && p.dst == some 17)) (fun o v x => (o.dst = some 10 → ∃ b c, v = .slice (some ⟨b, 0, none⟩) 1 c ∧ SlArg TurnV.cells 5 x v [⟨an, as9, ae, az, at9⟩]) ∧ (o.dst = some 11 → v = .int .i64 e1) ∧ (o.dst = some 13 → ∃ b c, v = .slice (some ⟨b, 0, none⟩) 1 c ∧ SlArg TurnV.cells 5 x v [⟨bn, bs, be, bz, bt⟩]) ∧ (o.dst = some 14 → v = .int .i64 e2) ∧ (o.dst = some 17 → ∃ b c, v = .slice (some ⟨b, 0, none⟩) 3 c ∧ x.cell? ⟨b, 0, none⟩ = some (.int .i64 e1) ∧ x.cell? ⟨b, 1, none⟩ = some (.int .i64 e2) ∧ x.cell? ⟨b, 2, none⟩ = some (.int .i64 (rng n 0 240))) ∧ (o.dst = some 18 → v = .int .i64 (fst [e1, e2, rng n 0 240]))) 10 [[2, 1], [5, 4], [9, 8]] (by kernel_rfl) (by kernel_rfl) (by kernel_rfl) (fun _ v x y hx hy => ⟨fun ho => ?_, hx.2.1, fun ho => ?_, hx.2.2.2.1, fun ho => ?_, hx.2.2.2.2.2⟩) ?_
  · obtain ⟨b, c, h1, h2⟩ := hx.1 ho; exact ⟨b, c, h1, h2.below hy⟩
  · obtain ⟨b, c, h1, h2⟩ := hx.2.2.1 ho; exact ⟨b, c, h1, h2.below hy⟩
  · obtain ⟨b, c, h1, h2, h3, h4⟩ := hx.2.2.2.2.1 ho; exact ⟨b, c, h1, b_old hy h2, b_old hy h3, b_old hy h4⟩
  simp only [List.take_succ_cons, List.take_zero, List.drop_succ_cons, List.drop_zero]
  refine HL.hold_run 1 (by kernel_rfl) (fun u1 hu1 => ?_)
  simp only [List.take_succ_cons, List.take_zero, List.drop_succ_cons, List.drop_zero]
  have k0 : ∀ x : KeptW u1, x.v.cell? ⟨w.heap.size, 0, none⟩ = _ := fun x => x.cell (b_old hu1 s0)
  have k1 : ∀ x : KeptW u1, x.v.cell? ⟨w.heap.size, 1, none⟩ = _ := fun x => x.cell (b_old hu1 s1)
  have k2 : ∀ x : KeptW u1, x.v.cell? ⟨w.heap.size, 2, none⟩ = _ := fun x => x.cell (b_old hu1 s2)
  have k3 : ∀ x : KeptW u1, x.v.cell? ⟨w.heap.size, 3, none⟩ = _ := fun x => x.cell (b_old hu1 s3)
  have k4 : ∀ x : KeptW u1, x.v.cell? ⟨w.heap.size, 4, none⟩ = _ := fun x => x.cell (b_old hu1 s4)
  have hne : Nonempty (KeptW u1) := ⟨⟨u1, Below.refl _ _⟩⟩
  iterate 1 (go_big_quiet_step (fail))
  refine wpQuiet_nil ?_
  clear hne k0 k1 k2 k3 k4
  intro K1 hK1
  refine HL.hold_at rfl (by first | rfl | kernel_rfl) (fun x hux _ => ?_) ?_
  · refine HN.heldUpon_made (o := .cells #[.string an, .int .i64 as9, .int .i64 ae, .int .i64 az, .string at9] 56) (v := .slice (some ⟨x.heap.size, 0, none⟩) 1 1) (by simp [go_sem]) ?_
    exact ⟨(fun _ => ⟨_, _, rfl, one_sl TurnV.cells 5 ⟨an, as9, ae, az, at9⟩ x _ _ 1 rfl (by decide)⟩), (fun h => by cases h), (fun h => by cases h), (fun h => by cases h), (fun h => by cases h), (fun h => by cases h)⟩
  rintro v10 ⟨x10, -, -, hv, -, -, -, -, -⟩
  obtain ⟨b10, c10, rfl, -⟩ := hv (by first | rfl | trivial)
  clear hv x10
  simp only [Act.put, List.setIfInBounds_toArray, List.set_cons_succ, List.set_cons_zero]
  refine HL.hold_at rfl (by first | rfl | kernel_rfl) (fun x hux hk => ?_) ?_
  · have hS := (hk.2 (by first | rfl | trivial)).1 (by first | rfl | trivial)
    obtain ⟨_, _, -, hS⟩ := hS
    refine HN.heldUpon_enter (f := 24) (args := #[.slice (some ⟨b10, 0, none⟩) 1 c10]) (by simp [go_sem]) ((HCS.out _ x hS).mono ?_)
    rintro e y ⟨rfl, hy⟩
    exact ⟨_, rfl, KpW.iff.2 hy, (fun h => by cases h), (fun _ => rfl), (fun h => by cases h), (fun h => by cases h), (fun h => by cases h), (fun h => by cases h)⟩
  rintro v11 ⟨x11, -, -, -, hv, -, -, -, -⟩
  obtain rfl := hv (by first | rfl | trivial)
  clear hv x11
  refine HL.hold_run 1 (by kernel_rfl) (fun u2 hu2 => ?_)
  simp only [List.take_succ_cons, List.take_zero, List.drop_succ_cons, List.drop_zero, Act.put, List.setIfInBounds_toArray, List.set_cons_succ, List.set_cons_zero]
  have k0 : ∀ x : KeptW u2, x.v.cell? ⟨w.heap.size + 1, 0, none⟩ = _ := fun x => x.cell (b_old hu2 r0)
  have k1 : ∀ x : KeptW u2, x.v.cell? ⟨w.heap.size + 1, 1, none⟩ = _ := fun x => x.cell (b_old hu2 r1)
  have k2 : ∀ x : KeptW u2, x.v.cell? ⟨w.heap.size + 1, 2, none⟩ = _ := fun x => x.cell (b_old hu2 r2)
  have k3 : ∀ x : KeptW u2, x.v.cell? ⟨w.heap.size + 1, 3, none⟩ = _ := fun x => x.cell (b_old hu2 r3)
  have k4 : ∀ x : KeptW u2, x.v.cell? ⟨w.heap.size + 1, 4, none⟩ = _ := fun x => x.cell (b_old hu2 r4)
  have hne : Nonempty (KeptW u2) := ⟨⟨u2, Below.refl _ _⟩⟩
  iterate 1 (go_big_quiet_step (fail))
  refine wpQuiet_nil ?_
  clear hne k0 k1 k2 k3 k4
  intro K2 hK2
  refine HL.hold_at rfl (by first | rfl | kernel_rfl) (fun x hux _ => ?_) ?_
  · refine HN.heldUpon_made (o := .cells #[.string bn, .int .i64 bs, .int .i64 be, .int .i64 bz, .string bt] 56) (v := .slice (some ⟨x.heap.size, 0, none⟩) 1 1) (by simp [go_sem]) ?_
    exact ⟨(fun h => by cases h), (fun h => by cases h), (fun _ => ⟨_, _, rfl, one_sl TurnV.cells 5 ⟨bn, bs, be, bz, bt⟩ x _ _ 1 rfl (by decide)⟩), (fun h => by cases h), (fun h => by cases h), (fun h => by cases h)⟩
  rintro v13 ⟨x13, -, -, -, -, hv, -, -, -⟩
  obtain ⟨b13, c13, rfl, -⟩ := hv (by first | rfl | trivial)
  clear hv x13
  simp only [Act.put, List.setIfInBounds_toArray, List.set_cons_succ, List.set_cons_zero]
  refine HL.hold_at rfl (by first | rfl | kernel_rfl) (fun x hux hk => ?_) ?_
  · have hS := (hk.2 (by first | rfl | trivial)).2.2.1 (by first | rfl | trivial)
    obtain ⟨_, _, -, hS⟩ := hS
    refine HN.heldUpon_enter (f := 24) (args := #[.slice (some ⟨b13, 0, none⟩) 1 c13]) (by simp [go_sem]) ((HCT.out _ x hS).mono ?_)
    rintro e y ⟨rfl, hy⟩
    exact ⟨_, rfl, KpW.iff.2 hy, (fun h => by cases h), (fun h => by cases h), (fun h => by cases h), (fun _ => rfl), (fun h => by cases h), (fun h => by cases h)⟩
  rintro v14 ⟨x14, -, -, -, -, -, hv, -, -⟩
  obtain rfl := hv (by first | rfl | trivial)
  clear hv x14
  refine HL.hold_run 2 (by kernel_rfl) (fun u3 hu3 => ?_)
  simp only [List.take_succ_cons, List.take_zero, List.drop_succ_cons, List.drop_zero, Act.put, List.setIfInBounds_toArray, List.set_cons_succ, List.set_cons_zero]
  have hne : Nonempty (KeptW u3) := ⟨⟨u3, Below.refl _ _⟩⟩
  iterate 1 (go_big_quiet_step (fail))
  go_big_quiet_step (exact KeptW.calls_same (gBuf_any _ _))
  refine wpQuiet_nil ?_
  clear hne
  intro K3 hK3
  refine HL.hold_at rfl (by first | rfl | kernel_rfl) (fun x hux _ => ?_) ?_
  · refine HN.heldUpon_made (o := .cells #[.int .i64 e1, .int .i64 e2, .int .i64 (rng n 0 240)] 39) (v := .slice (some ⟨x.heap.size, 0, none⟩) 3 3) (by simp [go_sem]) ?_
    exact ⟨(fun h => by cases h), (fun h => by cases h), (fun h => by cases h), (fun h => by cases h), (fun _ => ⟨_, _, rfl, by simp, by simp, by simp⟩), (fun h => by cases h)⟩
  rintro v17 ⟨x17, -, -, -, -, -, -, hv, -⟩
  obtain ⟨b17, c17, rfl, -, -, -⟩ := hv (by first | rfl | trivial)
  clear hv x17
  simp only [Act.put, List.setIfInBounds_toArray, List.set_cons_succ, List.set_cons_zero]
  refine HL.hold_at rfl (by first | rfl | kernel_rfl) (fun x hux hk => ?_) ?_
  · have hS := (hk.2 (by first | rfl | trivial)).2.2.2.2.1 (by first | rfl | trivial)
    obtain ⟨b, c, he, h1, h2, h3⟩ := hS
    obtain ⟨rfl, rfl⟩ : b17 = b ∧ c17 = c := by simpa using he
    clear he -- SAME
    refine HN.heldUpon_enter (f := 80) (args := #[.slice (some ⟨b17, 0, none⟩) 3 c17]) (by simp [go_sem]) ((firstError_any [e1, e2, rng n 0 240] b17 c17 x (fun i hi => by match i, hi with | 0, _ => exact h1 | 1, _ => exact h2 | 2, _ => exact h3) (by simp)).mono ?_)
    rintro e y ⟨rfl, hy⟩
    exact ⟨_, rfl, KpW.iff.2 (by rw [hy]; exact Below.refl _ _), (fun h => by cases h), (fun h => by cases h), (fun h => by cases h), (fun h => by cases h), (fun h => by cases h), (fun _ => rfl)⟩
  rintro v18 ⟨x18, -, -, -, -, -, -, -, hv⟩
  obtain rfl := hv (by first | rfl | trivial)
  clear hv x18
  intro w5 hb5 hkz
  clear hkz
  have hB5 := b_then hB hb5
  have s0 := b_old hb5 s0
  have s1 := b_old hb5 s1
  have s2 := b_old hb5 s2
  have s3 := b_old hb5 s3
  have s4 := b_old hb5 s4
  have r0 := b_old hb5 r0
  have r1 := b_old hb5 r1
  have r2 := b_old hb5 r2
  have r3 := b_old hb5 r3
  have r4 := b_old hb5 r4
  clear K1 hK1 K2 hK2 K3 hK3
  simp only [Act.put, List.setIfInBounds_toArray, List.set_cons_succ, List.set_cons_zero]
  rw [← HE.out]
  by_cases hp : pe = 0
  · have HP2 := HP.out
    have HSV := Lib.hid (fun w => HSU.out w hp)
    rw [if_pos hp] at HP2
    clear HSU
    subst hp
    go_wp2_with fail
    refine (HSV.out _).mono ?_
    rintro e6 w6 ⟨rfl, hb6⟩
    go_wp2_with fail
    exact bodyPost_ret (v := .tuple #[.bool sv, .int .i64 0]) (by simp [results, Tryz.results36, go_sem]) rfl ⟨by rw [HP2], b_then hB5 hb6⟩
  · have HP2 := HP.out
    rw [if_neg hp] at HP2
    go_wp2_with fail
    exact bodyPost_ret (v := .tuple #[.bool false, .int .i64 pe]) (by simp [results, Tryz.results36, go_sem]) rfl ⟨by rw [HP2], hB5⟩
set_option maxRecDepth 100000 in
set_option maxHeartbeats 1000000 in
theorem rPair_any (a d : MovV) (w : World) :
    Calls Tryz.prog 32 #[.agg a.cells, .agg d.cells] w fun r w' => r = .returned (.agg (pairT a d).cells) ∧ Below w.heap.size w w' := by
  cases h1 : (a.terminal.toList == [])
  · have HO : Hid (orV a.terminal d.terminal = a.terminal) := Lib.hid (by unfold orV; rw [h1]; rfl)
    obtain ⟨am, ak, ater, asts, az, an, aname⟩ := a
    obtain ⟨dm, dk, dt, ds, dz, dn, dname⟩ := d
    simp only [MovV.cells, TurnV.cells, pairT] at *
    go_enter Tryz.func32, Tryz.ntmps32
    go_wp2_with fail
    exact bodyPost_ret (v := .agg #[.string aname, .int .i64 am, .int .i64 dm, .int .i64 az, .string ater]) (by simp [results, Tryz.results32, go_sem]) rfl ⟨by rw [HO.out], (below_alloc2 w _ _).alloc (by simp; omega) _⟩
  · have HO : Hid (orV a.terminal d.terminal = d.terminal) := Lib.hid (by unfold orV; rw [h1]; rfl)
    obtain ⟨am, ak, ater, asts, az, an, aname⟩ := a
    obtain ⟨dm, dk, dt, ds, dz, dn, dname⟩ := d
    simp only [MovV.cells, TurnV.cells, pairT] at *
    go_enter Tryz.func32, Tryz.ntmps32
    go_wp2_with fail
    exact bodyPost_ret (v := .agg #[.string aname, .int .i64 am, .int .i64 dm, .int .i64 az, .string dt]) (by simp [results, Tryz.results32, go_sem]) rfl ⟨by rw [HO.out], (below_alloc2 w _ _).alloc (by simp; omega) _⟩
end Go.Proofs.YtkjhnemfebgcnaaGreatDoor
