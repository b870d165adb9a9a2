/- Contracts of package calendar: has for every number; Meet; Has; the error sides of Count and Has. -/
import Derived.Test.YtoaimgfekbnijaaDoorDaysOf
namespace Go.Proofs.YtoaimgfekbnijaaDoor
open Go Go.RowKit Go.Shelf
set_option maxRecDepth 100000 in
theorem has_tot (a b m d : Int) (w : World) (h1 : 0 ≤ a) (h2 : b ≤ 99999) (hm1 : 0 ≤ m) (hm2 : m ≤ 127) :
    Calls Tryd.prog 89 #[.agg #[.int .i64 a, .int .i64 b, .int .i64 m], .int .i64 d] w fun r w' => r = .returned (.bool (hasB a b m d)) ∧ Below w.heap.size w w' := by
  by_cases ha : a ≤ d
  · by_cases hb : d ≤ b
    · exact has_any a b m d w (by omega) (by omega) hm1 hm2
    · have HB : Hid (hasB a b m d = false) := Lib.hid (by simp [hasB, hb])
      have hd : decide (d ≤ b) = false := by simpa using hb
      clear hb
      go_enter Tryd.func89, Tryd.ntmps89
      go_wp2_with fail
      go_quiet (fail)
      go_wp2_with fail
      go_ret
      exact ⟨by rw [HB.out]; rfl, (below_alloc w _).trans ⟨rfl, rfl, rfl, Nat.le_refl _, fun _ _ => rfl⟩⟩
  · have HB : Hid (hasB a b m d = false) := Lib.hid (by simp [hasB, ha])
    have hd : decide (a ≤ d) = false := by simpa using ha
    clear ha
    go_enter Tryd.func89, Tryd.ntmps89
    go_wp2_with fail
    go_quiet (fail)
    go_wp2_with fail
    go_ret
    exact ⟨by rw [HB.out]; rfl, (below_alloc w _).trans ⟨rfl, rfl, rfl, Nat.le_refl _, fun _ _ => rfl⟩⟩
theorem meet_keep (a b m x : Int) (B : Nat) (w : World) (h1 : 0 ≤ a) (h2 : b ≤ 99999) (hm1 : 0 ≤ m) (hm2 : m ≤ 127) (c0 : w.cell? ⟨B, 0, none⟩ = some (.int .i64 a)) (c1 : w.cell? ⟨B, 1, none⟩ = some (.int .i64 b)) (c2 : w.cell? ⟨B, 2, none⟩ = some (.int .i64 m)) :
    Calls Tryd.prog 88 #[.int .i64 x, .pointer (some ⟨B, 0, none⟩)] w fun r w' => r = .returned (.bool (hasB a b m x)) ∧ Below w.heap.size w w' := by
  go_enter Tryd.func88, Tryd.ntmps88
  go_wp2_with fail
  refine (has_tot a b m x _ h1 h2 hm1 hm2).mono ?_
  rintro e w1 ⟨rfl, hb⟩
  go_wp2_with fail
  go_ret
  exact ⟨rfl, hb⟩
/-- Two periods' boxes. -/
theorem two_pers (w : World) (a b m c d k : Int) : ∃ W, Hid ((w.alloc (.cells #[.int .i64 a, .int .i64 b, .int .i64 m] 23)).alloc (.cells #[.int .i64 c, .int .i64 d, .int .i64 k] 23) = W) ∧ Below w.heap.size w W ∧
      W.cell? ⟨w.heap.size, 0, none⟩ = some (.int .i64 a) ∧ W.cell? ⟨w.heap.size, 1, none⟩ = some (.int .i64 b) ∧ W.cell? ⟨w.heap.size, 2, none⟩ = some (.int .i64 m) ∧
      W.cell? ⟨w.heap.size + 1, 0, none⟩ = some (.int .i64 c) ∧ W.cell? ⟨w.heap.size + 1, 1, none⟩ = some (.int .i64 d) ∧ W.cell? ⟨w.heap.size + 1, 2, none⟩ = some (.int .i64 k) :=
  ⟨_, Lib.hid rfl, below_alloc2 w _ _, by simp, by simp, by simp, by simp, by simp, by simp⟩
def meetErr (a b m c d k : Int) : Int := fst [perErr a b m, perErr c d k]
set_option maxRecDepth 100000 in
set_option maxHeartbeats 1000000 in
theorem Meet_err (a b m c d k : Int) (w : World) (he : meetErr a b m c d k ≠ 0) :
    Calls Tryd.prog 50 #[.agg #[.int .i64 a, .int .i64 b, .int .i64 m], .agg #[.int .i64 c, .int .i64 d, .int .i64 k]] w fun r w' => r = .returned (.tuple #[.slice none 0 0, .int .i64 (meetErr a b m c d k)]) ∧ Below w.heap.size w w' := by
  have HE : Hid ((meetErr a b m c d k != 0) = true) := Lib.hid (by rw [bne_iff_ne]; exact he)
  clear he
  obtain ⟨W, HW, hb0, c0, c1, c2, d0, d1, d2⟩ := two_pers w a b m c d k
  go_enter Tryd.func50, Tryd.ntmps50
  go_wp2_with fail
  rw [HW.out]
  have k0 : ∀ x : KeptW W, x.v.cell? ⟨w.heap.size, 0, none⟩ = some (.int .i64 a) := fun x => x.cell c0
  have k1 : ∀ x : KeptW W, x.v.cell? ⟨w.heap.size, 1, none⟩ = some (.int .i64 b) := fun x => x.cell c1
  have k2 : ∀ x : KeptW W, x.v.cell? ⟨w.heap.size, 2, none⟩ = some (.int .i64 m) := fun x => x.cell c2
  have l0 : ∀ x : KeptW W, x.v.cell? ⟨w.heap.size + 1, 0, none⟩ = some (.int .i64 c) := fun x => x.cell d0
  have l1 : ∀ x : KeptW W, x.v.cell? ⟨w.heap.size + 1, 1, none⟩ = some (.int .i64 d) := fun x => x.cell d1
  have l2 : ∀ x : KeptW W, x.v.cell? ⟨w.heap.size + 1, 2, none⟩ = some (.int .i64 k) := fun x => x.cell d2
  have hne : Nonempty (KeptW W) := ⟨⟨W, Below.refl _ _⟩⟩
  refine tail_kept 4 (by kernel_rfl) (by kernel_rfl) ?_
  simp only [List.take_succ_cons, List.take_zero, List.drop_succ_cons, List.drop_zero]
  go_big_quiet_step (fail)
  go_big_quiet_step (exact KeptW.calls (CheckPeriod_any _ _ _ _))
  go_big_quiet_step (fail)
  go_big_quiet_step (exact KeptW.calls (CheckPeriod_any _ _ _ _))
  refine wpQuiet_nil ?_
  rintro _ ⟨x, rfl⟩
  have hbx := b_then hb0 x.below
  clear k0 k1 k2 l0 l1 l2
  go_wp2_with fail
  refine (fe_new [_, _] _ _ _ _ _ rfl rfl (by simp)).mono ?_
  rintro e w2 ⟨rfl, hw⟩
  have hb2 : Below w.heap.size w w2 := by rw [hw]; exact b_then hbx (below_alloc _ _)
  rw [show fst [perErr a b m, perErr c d k] = meetErr a b m c d k from rfl]
  clear hw
  have hz := HE.out
  go_wp2_with fail
  exact bodyPost_ret (v := .tuple #[.slice none 0 0, .int .i64 (meetErr a b m c d k)]) (by simp [results, Tryd.results50, go_sem]) rfl ⟨rfl, hb2⟩
set_option maxRecDepth 100000 in
set_option maxHeartbeats 1000000 in
theorem Meet_ok (a b m c d k : Int) (w : World) (hz : perErr a b m = 0) (hz2 : perErr c d k = 0) :
    Calls Tryd.prog 50 #[.agg #[.int .i64 a, .int .i64 b, .int .i64 m], .agg #[.int .i64 c, .int .i64 d, .int .i64 k]] w fun r w' => ∃ v, r = .returned (.tuple #[v, .int .i64 0]) ∧ IntsAt w' w.heap.size v (kept (hasB c d k) (daysL a b m)) ∧ Below w.heap.size w w' := by
  obtain ⟨⟨h1, h2, h3⟩, h4, hm1, hm2⟩ := per_valid hz
  obtain ⟨⟨g1, g2, g3⟩, g4, gm1, gm2⟩ := per_valid hz2
  have HZ := Lib.hid hz
  have HZ2 := Lib.hid hz2
  clear hz hz2
  obtain ⟨W, HW, hb0, c0, c1, c2, d0, d1, d2⟩ := two_pers w a b m c d k
  go_enter Tryd.func50, Tryd.ntmps50
  go_wp2_with fail
  rw [HW.out]
  have k0 : ∀ x : KeptW W, x.v.cell? ⟨w.heap.size, 0, none⟩ = some (.int .i64 a) := fun x => x.cell c0
  have k1 : ∀ x : KeptW W, x.v.cell? ⟨w.heap.size, 1, none⟩ = some (.int .i64 b) := fun x => x.cell c1
  have k2 : ∀ x : KeptW W, x.v.cell? ⟨w.heap.size, 2, none⟩ = some (.int .i64 m) := fun x => x.cell c2
  have l0 : ∀ x : KeptW W, x.v.cell? ⟨w.heap.size + 1, 0, none⟩ = some (.int .i64 c) := fun x => x.cell d0
  have l1 : ∀ x : KeptW W, x.v.cell? ⟨w.heap.size + 1, 1, none⟩ = some (.int .i64 d) := fun x => x.cell d1
  have l2 : ∀ x : KeptW W, x.v.cell? ⟨w.heap.size + 1, 2, none⟩ = some (.int .i64 k) := fun x => x.cell d2
  have hne : Nonempty (KeptW W) := ⟨⟨W, Below.refl _ _⟩⟩
  refine tail_kept 4 (by kernel_rfl) (by kernel_rfl) ?_
  simp only [List.take_succ_cons, List.take_zero, List.drop_succ_cons, List.drop_zero]
  go_big_quiet_step (fail)
  go_big_quiet_step (exact KeptW.calls (CheckPeriod_any _ _ _ _))
  go_big_quiet_step (fail)
  go_big_quiet_step (exact KeptW.calls (CheckPeriod_any _ _ _ _))
  refine wpQuiet_nil ?_
  rintro _ ⟨x, rfl⟩
  have hbx := b_then hb0 x.below
  replace c0 := x.cell c0; replace c1 := x.cell c1; replace c2 := x.cell c2
  replace d0 := x.cell d0; replace d1 := x.cell d1; replace d2 := x.cell d2
  clear k0 k1 k2 l0 l1 l2
  go_wp2_with fail
  refine (fe_new [_, _] _ _ _ _ _ rfl rfl (by simp)).mono ?_
  rintro e w2 ⟨rfl, hw⟩
  have hb : Below x.v.heap.size x.v w2 := by rw [hw]; exact below_alloc _ _
  replace c0 := b_old hb c0; replace c1 := b_old hb c1; replace c2 := b_old hb c2
  replace d0 := b_old hb d0; replace d1 := b_old hb d1; replace d2 := b_old hb d2
  have hb2 := b_then hbx hb
  rw [HZ.out, HZ2.out, show fst [0, 0] = 0 from rfl]
  clear hw hb hbx
  go_wp2_with fail
  refine (daysIn_any a b m _).mono ?_
  rintro e w3 ⟨rfl, hw⟩
  obtain ⟨V, hV, hBV, p0, p1, p2, hvs⟩ : ∃ V, w2.alloc (.cells #[.int .i64 a, .int .i64 b, .int .i64 m] 23) = V ∧ Below w2.heap.size w2 V ∧ V.cell? ⟨w2.heap.size, 0, none⟩ = some (.int .i64 a) ∧ V.cell? ⟨w2.heap.size, 1, none⟩ = some (.int .i64 b) ∧ V.cell? ⟨w2.heap.size, 2, none⟩ = some (.int .i64 m) ∧ w2.heap.size < V.heap.size := ⟨_, rfl, below_alloc _ _, by simp, by simp, by simp, by simp⟩
  rw [hw, hV]
  replace d0 := b_old hBV d0; replace d1 := b_old hBV d1; replace d2 := b_old hBV d2
  have hb3 := b_then hb2 hBV
  clear hw hV hBV hb2 c0 c1 c2
  go_wp2_with fail
  refine (callsIn_wide.1 (collect_in 3 (Nat.le_refl _) 88 #[.pointer (some ⟨w.heap.size + 1, 0, none⟩)] (hasB c d k) w2.heap.size a b m V h1 h2 h3 h4 hm1 hm2 (fun x W hW => meet_keep c d k x _ W g1 g3 (by omega) gm2 (b_old hW d0) (b_old hW d1) (b_old hW d2)) (enters_of Tryd.func88 (by kernel_rfl) rfl) hvs p0 p1 p2)).mono ?_
  rintro e w4 ⟨v, rfl, hown, hnil, hb4⟩
  have hb5 := b_then hb3 hb4
  go_wp2_with fail
  exact bodyPost_ret (v := .tuple #[v, .int .i64 0]) (by simp [results, Tryd.results50, go_sem]) rfl ⟨v, rfl, ⟨own_down hown hb3.size, hnil⟩, hb5⟩
def hasErr (a b m d : Int) : Int := fst [perErr a b m, rng d 0 99999]
set_option maxRecDepth 100000 in
theorem Count_err (a b m : Int) (w : World) (he : perErr a b m ≠ 0) :
    Calls Tryd.prog 51 #[.agg #[.int .i64 a, .int .i64 b, .int .i64 m]] w fun r w' => r = .returned (.tuple #[.int .i64 0, .int .i64 (perErr a b m)]) ∧ Below w.heap.size w w' := by
  have HE : Hid ((perErr a b m != 0) = true) := Lib.hid (by rw [bne_iff_ne]; exact he)
  clear he
  obtain ⟨W, HW, hb0, k0, k1, k2⟩ : ∃ W, Hid (w.alloc (.cells #[.int .i64 a, .int .i64 b, .int .i64 m] 23) = W) ∧ Below w.heap.size w W ∧ W.cell? ⟨w.heap.size, 0, none⟩ = some (.int .i64 a) ∧ W.cell? ⟨w.heap.size, 1, none⟩ = some (.int .i64 b) ∧ W.cell? ⟨w.heap.size, 2, none⟩ = some (.int .i64 m) := ⟨_, Lib.hid rfl, below_alloc w _, by simp, by simp, by simp⟩
  go_enter Tryd.func51, Tryd.ntmps51
  go_wp2_with fail
  rw [HW.out]
  refine (CheckPeriod_any _ _ _ _).mono ?_
  rintro e w1 ⟨rfl, hb1⟩
  have hz := HE.out
  go_wp2_with fail
  exact bodyPost_ret (v := .tuple #[.int .i64 0, .int .i64 (perErr a b m)]) (by simp [results, Tryd.results51, go_sem]) rfl ⟨rfl, b_then hb0 hb1⟩
end Go.Proofs.YtoaimgfekbnijaaDoor
