/- Contracts of package calendar: Shift. -/
import Derived.Test.YtijnabgehlkghaaDoorSplit
import Derived.Test.YtijnabgehlkghaaDoorArr3
import Derived.Deep.RegionHeld3
namespace Go.Proofs.YtijnabgehlkghaaDoor
open Go Go.RowKit
def shiftErr (a b m d : Int) : Int := fst [perErr a b m, rng d (-99999) 99999]
def zero3 : Value := .agg #[.int .i64 0, .int .i64 0, .int .i64 0]
theorem fresh_frozen (w : World) (l : Array Value) (T : TypeId) (a : Addr) (h : a.block = w.heap.size) : (w.alloc (.cells l T)).frozen? a = false := by
  have e : (w.alloc (.cells l T)).heap[a.block]? = some (.cells l T (0, 0)) := by rw [h]; show (w.heap.push _)[_]? = _; simp
  unfold World.frozen?
  simp only [e]
  simp
theorem sh_below {a b n : Int} {B : Nat} {W w' w2 : World} (h : w'.cell? ⟨B, 0, none⟩ = some (.int .i64 a) ∧ w'.cell? ⟨B, 1, none⟩ = some (.int .i64 b) ∧ w'.cell? ⟨B, 2, none⟩ = some (.int .i64 n) ∧ Res 3 (B + 1) W w') (hb : Below w'.heap.size w' w2) :
    w2.cell? ⟨B, 0, none⟩ = some (.int .i64 a) ∧ w2.cell? ⟨B, 1, none⟩ = some (.int .i64 b) ∧ w2.cell? ⟨B, 2, none⟩ = some (.int .i64 n) ∧ Res 3 (B + 1) W w2 :=
  ⟨b_old hb h.1, b_old hb h.2.1, b_old hb h.2.2.1, h.2.2.2.more (h.2.2.2.pos (by decide)) hb⟩
theorem sh_set {a b n : Int} {B p : Nat} {W w' : World} (h : w'.cell? ⟨B, 0, none⟩ = some (.int .i64 a) ∧ w'.cell? ⟨B, 1, none⟩ = some (.int .i64 b) ∧ w'.cell? ⟨B, 2, none⟩ = some (.int .i64 n) ∧ Res 3 (B + 1) W w') (hp : B + 2 ≤ p) (x y z : Value) :
    (((w'.setCell ⟨p, 0, none⟩ x).setCell ⟨p, 1, none⟩ y).setCell ⟨p, 2, none⟩ z).cell? ⟨B, 0, none⟩ = some (.int .i64 a) ∧ (((w'.setCell ⟨p, 0, none⟩ x).setCell ⟨p, 1, none⟩ y).setCell ⟨p, 2, none⟩ z).cell? ⟨B, 1, none⟩ = some (.int .i64 b) ∧
      (((w'.setCell ⟨p, 0, none⟩ x).setCell ⟨p, 1, none⟩ y).setCell ⟨p, 2, none⟩ z).cell? ⟨B, 2, none⟩ = some (.int .i64 n) ∧ Res 3 (B + 1) W (((w'.setCell ⟨p, 0, none⟩ x).setCell ⟨p, 1, none⟩ y).setCell ⟨p, 2, none⟩ z) := by
  have hb : Below (B + 2) w' (((w'.setCell ⟨p, 0, none⟩ x).setCell ⟨p, 1, none⟩ y).setCell ⟨p, 2, none⟩ z) := (((Below.refl _ _).setCell (p := ⟨p, 0, none⟩) hp x).setCell (p := ⟨p, 1, none⟩) hp y).setCell (p := ⟨p, 2, none⟩) hp z
  exact ⟨b_keep hb (by omega) h.1, b_keep hb (by omega) h.2.1, b_keep hb (by omega) h.2.2.1, h.2.2.2.up hb⟩
set_option maxRecDepth 100000 in
set_option maxHeartbeats 2000000 in
theorem Shift_err (a b m d : Int) (w : World) (he : shiftErr a b m d ≠ 0) :
    Calls Tryd.prog 15 #[.agg #[.int .i64 a, .int .i64 b, .int .i64 m], .int .i64 d] w fun r w' => r = .returned (.tuple #[zero3, .int .i64 (shiftErr a b m d)]) ∧ Below w.heap.size w w' := by
  have HE : Hid ((shiftErr a b m d != 0) = true) := Lib.hid (by rw [bne_iff_ne]; exact he)
  have HD : Hid (shiftErr a b m d = fst [perErr a b m, rng d (-99999) 99999]) := Lib.hid rfl
  clear he
  obtain ⟨W, HW, hb0, hc0, hc1, hc2, R0, hsz⟩ := two_per w a b m
  go_enter Tryd.func15, Tryd.ntmps15
  go_wp2_with fail
  rw [HW.out]
  refine (CheckPeriod_any _ _ _ _).mono ?_
  rintro e w1 ⟨rfl, hb1⟩
  have R1 := R0.more (by omega) hb1
  clear hb1
  go_wp2_with fail
  refine (checkRange_any _ _ _ _).mono ?_
  rintro e w2 ⟨rfl, hw⟩
  rw [hw]
  clear hw
  go_wp2_with fail
  refine (fe_new [_, _] _ _ _ _ _ rfl rfl (by simp)).mono ?_
  rintro e w3 ⟨rfl, hw⟩
  have hb3 : Below w1.heap.size w1 w3 := by rw [hw]; exact below_alloc _ _
  have R2 := R1.more (R1.pos (by decide)) hb3
  rw [← HD.out]
  have hee := HE.out
  generalize hE : shiftErr a b m d = E at *
  have HEq := Lib.hid hE
  clear hE
  clear hw hb3 R1 HD HE
  obtain ⟨v0, q0⟩ := R2.cell 0 (by decide)
  obtain ⟨v1, q1⟩ := R2.cell 1 (by decide)
  obtain ⟨v2, q2⟩ := R2.cell 2 (by decide)
  have qf0 := R2.frozen 0 (by decide)
  have qf1 := R2.frozen 1 (by decide)
  have qf2 := R2.frozen 2 (by decide)
  go_wp2_with fail
  exact bodyPost_ret (v := .tuple #[zero3, .int .i64 E]) (by simp [results, Tryd.results15, go_sem, q0, q1, q2, zero3]) rfl ⟨by rw [HEq.out], hb0.trans ((((R2.set 0 _).set 1 _).set 2 _).below.mono (by omega))⟩
end Go.Proofs.YtijnabgehlkghaaDoor
