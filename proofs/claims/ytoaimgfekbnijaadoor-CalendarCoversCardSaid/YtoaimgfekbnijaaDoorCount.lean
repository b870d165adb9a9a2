/- Contracts of package calendar: Count. -/
import Derived.Test.YtoaimgfekbnijaaDoorIter
import Derived.RangeFuncFrom
namespace Go.Proofs.YtoaimgfekbnijaaDoor
open Go.RowKit Go.Shelf
attribute [local go_sem] Oper.semAt_some
theorem cell_al {W : World} {a : Addr} {v : Value} (o : Obj) (h : W.cell? a = some v) : (W.alloc o).cell? a = some v := b_old (below_alloc W o) h
set_option maxRecDepth 100000 in
set_option maxHeartbeats 2000000 in
theorem Count_in (n : Nat) (hn : 3 ≤ n) (a b m : Int) (w : World) (h1 : 0 ≤ a) (h2 : a ≤ b) (h3 : b ≤ 99999) (h4 : b - a ≤ 400) (hm1 : 1 ≤ m) (hm2 : m ≤ 127) :
    CallsIn Fence.wide n Tryd.prog 51 #[.agg #[.int .i64 a, .int .i64 b, .int .i64 m]] w fun r w' => r = .returned (.tuple #[.int .i64 (daysL a b m).length, .int .i64 0]) ∧ Below w.heap.size w w' := by
  have HE : Hid (perErr a b m = 0) := Lib.hid (by
    unfold perErr
    rw [rng_ok h1 (by omega), rng_ok (by omega) h3, rng_ok hm1 hm2, decide_eq_true h2, IntWalk.wrap64_in _ ⟨by omega, by omega⟩, decide_eq_true h4]; rfl)
  have hh1 : 1 ≤ n := by omega
  refine callsIn_of_wp_marks Tryd.func51 rfl trivial ?_
  simp only [Tryd.ntmps51, List.size_toArray, List.length_cons, List.length_nil, Nat.reduceAdd, Nat.reduceSub, Array.replicate_succ, Array.replicate_zero, List.push_toArray, List.append_toArray, List.nil_append, List.cons_append]
  obtain ⟨W, HW, hb0, k0, k1, k2⟩ : ∃ W, Hid (w.alloc (.cells #[.int .i64 a, .int .i64 b, .int .i64 m] 23) = W) ∧ Below w.heap.size w W ∧ W.cell? ⟨w.heap.size, 0, none⟩ = some (.int .i64 a) ∧ W.cell? ⟨w.heap.size, 1, none⟩ = some (.int .i64 b) ∧ W.cell? ⟨w.heap.size, 2, none⟩ = some (.int .i64 m) := ⟨_, Lib.hid rfl, below_alloc w _, by simp, by simp, by simp⟩
  gi_wp2
  rw [HW.out]
  refine ⟨trivial, ?_⟩
  refine (callsIn_wide.2 (CheckPeriod_any a b m _)).mono ?_
  rintro e w1 ⟨rfl, hb1⟩
  rw [HE.out]
  have l0 := b_old hb1 k0
  have l1 := b_old hb1 k1
  have l2 := b_old hb1 k2
  have hb01 := b_then hb0 hb1
  clear hb0 hb1 k0 k1 k2
  have e0 := cell_al (.cells #[.int .i64 0] 3) l0
  have e1 := cell_al (.cells #[.int .i64 0] 3) l1
  have e2 := cell_al (.cells #[.int .i64 0] 3) l2
  clear l0 l1 l2
  gi_wp2
  refine ⟨trivial, ?_⟩
  refine (callsIn_wide.2 (daysIn_any a b m _)).mono ?_
  rintro e w2 ⟨rfl, hw⟩
  rw [hw]
  clear hw e0 e1 e2
  simp only [World.size_alloc]
  have hB0 : Below w.heap.size w ((w1.alloc (.cells #[.int .i64 0] 3)).alloc (.cells #[.int .i64 a, .int .i64 b, .int .i64 m] 23)) := (hb01.alloc hb01.size _).alloc (by have := hb01.size; simp; omega) _
  obtain ⟨V, hV, hBV, v0, vf, p0, p1, p2, hvs⟩ : ∃ V, (w1.alloc (.cells #[.int .i64 0] 3)).alloc (.cells #[.int .i64 a, .int .i64 b, .int .i64 m] 23) = V ∧ Below w.heap.size w V ∧ V.cell? ⟨w1.heap.size, 0, none⟩ = some (.int .i64 0) ∧ V.frozen? ⟨w1.heap.size, 0, none⟩ = false ∧
      V.cell? ⟨w1.heap.size + 1, 0, none⟩ = some (.int .i64 a) ∧ V.cell? ⟨w1.heap.size + 1, 1, none⟩ = some (.int .i64 b) ∧ V.cell? ⟨w1.heap.size + 1, 2, none⟩ = some (.int .i64 m) ∧ V.heap.size = w1.heap.size + 2 := ⟨_, rfl, hB0, by simp, by simp, by simp, by simp, by simp, by simp⟩
  rw [hV]
  clear hV hB0
  gi_wp2
  have hlen := daysL_len a b m h4
  have hK0 : w1.heap.size + 1 < V.heap.size := by omega
  have hws : w.heap.size ≤ w1.heap.size := hb01.size
  refine wpIn_rangeFunc_ownF rfl hh1 (gf := 97) (lb := #[.pointer (some ⟨w1.heap.size + 1, 0, none⟩)]) rfl trivial (enters_of Tryd.func97 (by kernel_rfl) rfl)
    (days_stops (n - 1) (by omega) (w1.heap.size + 1) a b m V h1 h2 h3 (by omega) hm2 hK0 p0 p1 p2) KeepB.trans (keepB_b hK0) (Below.refl _ _) (fun _ => rfl)
    (fun pre W => (W.cell? ⟨w1.heap.size, 0, none⟩ = some (.int .i64 pre.length) ∧ W.frozen? ⟨w1.heap.size, 0, none⟩ = false) ∧ Below w.heap.size w W)
    (fun _ _ _ => False)
    (OwnFrom.and (Own.from (fun s A B row hs hg hr => ⟨cell_kept hs.1 hg hr, (frozen_kept hs.1 hg hr).trans hs.2⟩) _) (ownFrom_below (Nat.le_refl _) (by omega)))
    (fun _ _ _ _ _ hs _ _ => hs)
    ⟨⟨v0, vf⟩, hBV⟩
    (fun x => { tmps := #[.agg #[.int .i64 a, .int .i64 b, .int .i64 m], .pointer (some ⟨w.heap.size, 0, none⟩), .int .i64 0, .int .i64 0, .int .i64 0, .pointer (some ⟨w1.heap.size, 0, none⟩), .agg #[.int .i64 a, .int .i64 b, .int .i64 m], .int .i64 0, .int .i64 0, .bool false, undef, .agg #[.int .i64 a, .int .i64 b, .int .i64 m], .func (.func 97) #[] #[.pointer (some ⟨w1.heap.size + 1, 0, none⟩)], .int .i64 x, undef, undef, undef], defers := [] }) ?assign ?body ?done ?stop
  case assign =>
    intro l x W K hK
    gi_wp2
    simpa using hK
  case body =>
    rintro l pre x W ⟨⟨hc, hf⟩, hB⟩ hpl
    gi_wp2
    exact ⟨KeepsOthers.setCell _ _ _, ⟨Below.heap_setCell _ _ _ _ (by simp), by rw [set_size]; exact Nat.le_refl _⟩, ⟨by rw [set_same hc]; simp, by rw [World.frozen?_setCell]; exact hf⟩, hB.setCell (p := ⟨w1.heap.size, 0, none⟩) hws _⟩
  case done =>
    rintro D ys W hD rfl ⟨⟨hc, _⟩, hB⟩ hK
    gi_wp2
    refine ⟨by simp, .inl ⟨_, _, rfl, run_takeDeferred hK, ?_⟩⟩
    exact ⟨.tuple #[.int .i64 (daysL a b m).length, .int .i64 0], by simp [results, Tryd.f51, go_sem], rfl, hB.trans (belowK_b (w := w) (Nat.le_refl _) W D _ _ (by omega) hK rfl rfl)⟩
  case stop =>
    rintro D c pre W _ _ h _
    exact h.elim
theorem Count_ok (a b m : Int) (w : World) (h1 : 0 ≤ a) (h2 : a ≤ b) (h3 : b ≤ 99999) (h4 : b - a ≤ 400) (hm1 : 1 ≤ m) (hm2 : m ≤ 127) :
    Calls Tryd.prog 51 #[.agg #[.int .i64 a, .int .i64 b, .int .i64 m]] w fun r w' => r = .returned (.tuple #[.int .i64 (daysL a b m).length, .int .i64 0]) ∧ Below w.heap.size w w' :=
  callsIn_wide.1 (Count_in 3 (Nat.le_refl _) a b m w h1 h2 h3 h4 hm1 hm2)
end Go.Proofs.YtoaimgfekbnijaaDoor
