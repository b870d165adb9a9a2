/- Contracts of package calendar: DaysOf and Meet. -/
import Derived.Test.YtoaimgfekbnijaaDoorCollect
import Derived.Test.YtoaimgfekbnijaaDoorIntsC
import Derived.Test.YtoaimgfekbnijaaDoorKept
import Derived.Test.YtoaimgfekbnijaaDoorCal3
namespace Go.Proofs.YtoaimgfekbnijaaDoor
open Go Go.RowKit Go.Shelf
theorem all_days (x : Int) (w : World) : Calls Tryd.prog 75 #[.int .i64 x] w fun r w' => r = .returned (.bool true) ∧ Below w.heap.size w w' := by
  go_enter Tryd.func75, Tryd.ntmps75
  go_wp2_with fail
  go_ret
  exact ⟨rfl, Below.refl _ _⟩
theorem kept_all (l : List Int) : kept (fun _ => true) l = l := by simp [kept]
theorem per_valid {a b m : Int} (h : perErr a b m = 0) : (0 ≤ a ∧ a ≤ b ∧ b ≤ 99999) ∧ b - a ≤ 400 ∧ 1 ≤ m ∧ m ≤ 127 := by
  obtain ⟨h1, h⟩ := fst_cons_zero h
  obtain ⟨h2, h⟩ := fst_cons_zero h
  obtain ⟨h3, h⟩ := fst_cons_zero h
  obtain ⟨h4, h⟩ := fst_cons_zero h
  obtain ⟨h5, _⟩ := fst_cons_zero h
  obtain ⟨a1, a2⟩ := rng_zero h1
  obtain ⟨b1, b2⟩ := rng_zero h2
  obtain ⟨m1, m2⟩ := rng_zero h5
  have u : ∀ (p : Prop) [Decidable p] (e : Int), e ≠ 0 → unl (decide p) e = 0 → p := fun p _ e he hu => by
    by_cases hp : p
    · exact hp
    · rw [decide_eq_false hp] at hu; exact absurd hu he
  have e3 := u _ _ (by decide) h3
  have e4 := u _ _ (by decide) h4
  rw [IntWalk.wrap64_in _ ⟨by omega, by omega⟩] at e4
  exact ⟨⟨a1, e3, b2⟩, e4, m1, m2⟩
set_option maxRecDepth 100000 in
theorem DaysOf_err (a b m : Int) (w : World) (he : perErr a b m ≠ 0) :
    Calls Tryd.prog 30 #[.agg #[.int .i64 a, .int .i64 b, .int .i64 m]] w fun r w' => r = .returned (.tuple #[.slice none 0 0, .int .i64 (perErr a b m)]) ∧ Below w.heap.size w w' := by
  have HE : Hid ((perErr a b m != 0) = true) := Lib.hid (by rw [bne_iff_ne]; exact he)
  clear he
  obtain ⟨W, HW, hb0, k0, k1, k2⟩ : ∃ W, Hid (w.alloc (.cells #[.int .i64 a, .int .i64 b, .int .i64 m] 23) = W) ∧ Below w.heap.size w W ∧ W.cell? ⟨w.heap.size, 0, none⟩ = some (.int .i64 a) ∧ W.cell? ⟨w.heap.size, 1, none⟩ = some (.int .i64 b) ∧ W.cell? ⟨w.heap.size, 2, none⟩ = some (.int .i64 m) := ⟨_, Lib.hid rfl, below_alloc w _, by simp, by simp, by simp⟩
  go_enter Tryd.func30, Tryd.ntmps30
  go_wp2_with fail
  rw [HW.out]
  refine (CheckPeriod_any _ _ _ _).mono ?_
  rintro e w1 ⟨rfl, hb1⟩
  have hz := HE.out
  go_wp2_with fail
  exact bodyPost_ret (v := .tuple #[.slice none 0 0, .int .i64 (perErr a b m)]) (by simp [results, Tryd.results30, go_sem]) rfl ⟨rfl, b_then hb0 hb1⟩
set_option maxRecDepth 100000 in
theorem DaysOf_ok (a b m : Int) (w : World) (hz : perErr a b m = 0) :
    Calls Tryd.prog 30 #[.agg #[.int .i64 a, .int .i64 b, .int .i64 m]] w fun r w' => ∃ v, r = .returned (.tuple #[v, .int .i64 0]) ∧ IntsAt w' w.heap.size v (daysL a b m) ∧ Below w.heap.size w w' := by
  obtain ⟨⟨h1, h2, h3⟩, h4, hm1, hm2⟩ := per_valid hz
  have HZ := Lib.hid hz
  clear hz
  obtain ⟨W, HW, hb0, k0, k1, k2⟩ : ∃ W, Hid (w.alloc (.cells #[.int .i64 a, .int .i64 b, .int .i64 m] 23) = W) ∧ Below w.heap.size w W ∧ W.cell? ⟨w.heap.size, 0, none⟩ = some (.int .i64 a) ∧ W.cell? ⟨w.heap.size, 1, none⟩ = some (.int .i64 b) ∧ W.cell? ⟨w.heap.size, 2, none⟩ = some (.int .i64 m) := ⟨_, Lib.hid rfl, below_alloc w _, by simp, by simp, by simp⟩
  go_enter Tryd.func30, Tryd.ntmps30
  go_wp2_with fail
  rw [HW.out]
  refine (CheckPeriod_any _ _ _ _).mono ?_
  rintro e w1 ⟨rfl, hb1⟩
  rw [HZ.out]
  replace k0 := b_old hb1 k0; replace k1 := b_old hb1 k1; replace k2 := b_old hb1 k2
  have hb2 := b_then hb0 hb1
  clear hb0 hb1
  go_wp2_with fail
  refine (daysIn_any a b m _).mono ?_
  rintro e w2 ⟨rfl, hw⟩
  obtain ⟨V, hV, hBV, p0, p1, p2, hvs⟩ : ∃ V, w1.alloc (.cells #[.int .i64 a, .int .i64 b, .int .i64 m] 23) = V ∧ Below w1.heap.size w1 V ∧ V.cell? ⟨w1.heap.size, 0, none⟩ = some (.int .i64 a) ∧ V.cell? ⟨w1.heap.size, 1, none⟩ = some (.int .i64 b) ∧ V.cell? ⟨w1.heap.size, 2, none⟩ = some (.int .i64 m) ∧ w1.heap.size < V.heap.size := ⟨_, rfl, below_alloc _ _, by simp, by simp, by simp, by simp⟩
  rw [hw, hV]
  clear hw hV
  have hb3 := b_then hb2 hBV
  clear hb2 hBV k0 k1 k2
  go_wp2_with fail
  refine (callsIn_wide.1 (collect_in 3 (Nat.le_refl _) 75 #[] (fun _ => true) w1.heap.size a b m V h1 h2 h3 h4 hm1 hm2 (fun x W _ => all_days x W) (enters_of Tryd.func75 (by kernel_rfl) rfl) hvs p0 p1 p2)).mono ?_
  rintro e w3 ⟨v, rfl, hown, hnil, hb4⟩
  rw [kept_all] at hown hnil
  have hb5 := b_then hb3 hb4
  go_wp2_with fail
  exact bodyPost_ret (v := .tuple #[v, .int .i64 0]) (by simp [results, Tryd.results30, go_sem]) rfl ⟨v, rfl, ⟨own_down hown hb3.size, hnil⟩, hb5⟩
end Go.Proofs.YtoaimgfekbnijaaDoor
