/- Contracts of package calendar: Shift of a valid period. -/
import Derived.Test.YtijnabgehlkghaaDoorShift
import Derived.Test.YtijnabgehlkghaaDoorAlloc
namespace Go.Proofs.YtijnabgehlkghaaDoor
open Go Go.RowKit
theorem block3 {w : World} {A : Nat} {a b c : Value} {T : TypeId} (h : w.heap[A]? = some (.cells #[a, b, c] T)) :
    w.cell? ⟨A, 0, none⟩ = some a ∧ w.cell? ⟨A, 1, none⟩ = some b ∧ w.cell? ⟨A, 2, none⟩ = some c ∧ w.frozen? ⟨A, 0, none⟩ = false ∧ w.frozen? ⟨A, 1, none⟩ = false ∧ w.frozen? ⟨A, 2, none⟩ = false := by
  simp [World.cell?, World.frozen?, h]
theorem below_drewN (w : World) (q : Nat) : Below w.heap.size w (w.drewN q) := ⟨rfl, rfl, rfl, Nat.le_refl _, fun _ _ => rfl⟩
theorem KeptW.calls_drew {P : Program} {w : World} {x : KeptW w} {f : FuncId} {args : Array Value} {u : Value} (h : Calls P f args x.v fun e w' => e = .returned u ∧ ∃ q, w' = x.v.drewN q) :
    Calls P f args x.v fun e w' => e = .returned u ∧ ∃ y : KeptW w, w' = y.v :=
  KeptW.calls (h.mono fun _ _ ⟨he, q, hb⟩ => ⟨he, hb ▸ below_drewN _ q⟩)
set_option maxRecDepth 100000 in
set_option maxHeartbeats 4000000 in
theorem Shift_in (a b d : Int) (n s : Nat) (w : World) (hz : perErr a b n = 0) (ha1 : 0 ≤ a) (ha2 : a ≤ 99999) (hb1 : 0 ≤ b) (hb2 : b ≤ 99999) (hd1 : -99999 ≤ d) (hd2 : d ≤ 99999) (hn : n < 128) (hs : d % 7 = (s : Int)) :
    Calls Tryd.prog 15 #[.agg #[.int .i64 a, .int .i64 b, .int .i64 n], .int .i64 d] w fun r w' => r = .returned (if 0 ≤ a + d ∧ b + d ≤ 99999 then .tuple #[.agg #[.int .i64 (a + d), .int .i64 (b + d), .int .i64 (refN n s 7 : Nat)], .int .i64 0] else .tuple #[zero3, .int .i64 30]) ∧ Below w.heap.size w w' := by
  generalize hv : (if 0 ≤ a + d ∧ b + d ≤ 99999 then Value.tuple #[.agg #[.int .i64 (a + d), .int .i64 (b + d), .int .i64 (refN n s 7 : Nat)], .int .i64 0] else .tuple #[zero3, .int .i64 30]) = RV
  have HV := Lib.hid hv
  clear hv
  have HZ := Lib.hid hz
  have HT := Lib.hid (fun w => turn_any n s d w hn hs)
  have HR : Hid (rng d (-99999) 99999 = 0) := Lib.hid (rng_ok hd1 hd2)
  clear hz hs
  obtain ⟨W, HW, hb0, hc0, hc1, hc2, R0, hsz⟩ := two_per w a b n
  go_enter Tryd.func15, Tryd.ntmps15
  go_wp2_with fail
  rw [HW.out]
  refine (CheckPeriod_any _ _ _ _).mono ?_
  rintro e w1 ⟨rfl, hb1⟩
  rw [HZ.out]
  have R1 := R0.more (by omega) hb1
  have k0 := b_old hb1 hc0; have k1 := b_old hb1 hc1; have k2 := b_old hb1 hc2
  have hs1 := hb1.size
  clear hb1 hc0 hc1 hc2
  go_wp2_with fail
  refine (checkRange_any _ _ _ _).mono ?_
  rintro e w2 ⟨rfl, hw⟩
  rw [hw, HR.out]
  clear hw
  go_wp2_with fail
  refine (fe_new [_, _] _ _ _ _ _ rfl rfl (by simp)).mono ?_
  rintro e w3 ⟨rfl, hw⟩
  have hb3 : Below w1.heap.size w1 w3 := by rw [hw]; exact below_alloc _ _
  have R2 := R1.more (R1.pos (by decide)) hb3
  have m0 := b_old hb3 k0; have m1 := b_old hb3 k1; have m2 := b_old hb3 k2
  have hs3 : w.heap.size + 2 ≤ w3.heap.size := by have := hb3.size; omega
  rw [show fst [0, 0] = 0 from rfl]
  clear hw hb3 R1 k0 k1 k2 hsz hs1
  go_wp2_with fail
  refine alloc_tail (o := .cells #[.int .i64 0, .int .i64 0, .int .i64 0] 23) 14 13 (by kernel_rfl) (by kernel_rfl) rfl ⟨rfl, fun a w => ?_⟩ ?_
  · simp [go_sem]
  intro A w4 hb4
  have k0 : ∀ x : KeptW w4, x.v.cell? ⟨w.heap.size, 0, none⟩ = some (.int .i64 a) := fun x => x.cell (b_old hb4 m0)
  have k1 : ∀ x : KeptW w4, x.v.cell? ⟨w.heap.size, 1, none⟩ = some (.int .i64 b) := fun x => x.cell (b_old hb4 m1)
  have k2 : ∀ x : KeptW w4, x.v.cell? ⟨w.heap.size, 2, none⟩ = some (.int .i64 n) := fun x => x.cell (b_old hb4 m2)
  have hne : Nonempty (KeptW w4) := ⟨⟨w4, Below.refl _ _⟩⟩
  simp only [List.take_succ_cons, List.take_zero, List.drop_succ_cons, List.drop_zero, List.append_nil, Act.put, List.setIfInBounds_toArray, List.set_cons_succ, List.set_cons_zero]
  iterate 11 (go_big_quiet_step (fail))
  go_big_quiet_step (exact KeptW.calls_drew (HT.out _))
  iterate 1 (go_big_quiet_step (fail))
  refine wpQuiet_nil ?_
  intro w5 hb5 hA hb
  have R3 := R2.more (R2.pos (by decide)) hb5
  obtain ⟨b0, b1, b2, f0, f1, f2⟩ := block3 hb
  have hA2 : w.heap.size + 2 ≤ A := by omega
  have R4 := (sh_set ⟨b_old hb5 m0, b_old hb5 m1, b_old hb5 m2, R3⟩ hA2 (.int .i64 (a + d)) (.int .i64 (b + d)) (.int .i64 (refN n s 7 : Nat))).2.2.2
  obtain ⟨v0, q0⟩ := R3.cell 0 (by decide)
  obtain ⟨v1, q1⟩ := R3.cell 1 (by decide)
  obtain ⟨v2, q2⟩ := R3.cell 2 (by decide)
  have g0 := R3.frozen 0 (by decide)
  have g1 := R3.frozen 1 (by decide)
  have g2 := R3.frozen 2 (by decide)
  have hAn : A ≠ w.heap.size + 1 := by omega
  have hAm : w.heap.size + 1 ≠ A := by omega
  clear k0 k1 k2 hne hb hb5 hA hb4 m0 m1 m2 R2 HT HW HZ HR hs3 w4
  by_cases h1 : 0 ≤ a + d
  · by_cases h2 : b + d ≤ 99999
    · go_wp2_with fail
      exact bodyPost_ret (v := .tuple #[.agg #[.int .i64 (a + d), .int .i64 (b + d), .int .i64 (refN n s 7 : Nat)], .int .i64 0]) (by simp [results, Tryd.results15, go_sem, q0, q1, q2]) rfl ⟨by rw [← HV.out, if_pos ⟨h1, h2⟩], hb0.trans ((((R4.set 0 _).set 1 _).set 2 _).below.mono (by omega))⟩
    · go_wp2_with fail
      exact bodyPost_ret (v := .tuple #[zero3, .int .i64 30]) (by simp [results, Tryd.results15, go_sem, q0, q1, q2, zero3]) rfl ⟨by rw [← HV.out, if_neg (by omega)], hb0.trans ((((R4.set 0 _).set 1 _).set 2 _).below.mono (by omega))⟩
  · go_wp2_with fail
    exact bodyPost_ret (v := .tuple #[zero3, .int .i64 30]) (by simp [results, Tryd.results15, go_sem, q0, q1, q2, zero3]) rfl ⟨by rw [← HV.out, if_neg (by omega)], hb0.trans ((((R4.set 0 _).set 1 _).set 2 _).below.mono (by omega))⟩
end Go.Proofs.YtijnabgehlkghaaDoor
