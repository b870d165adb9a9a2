/- Contracts: a zone of the program as one of the reference; two zones of the reference are the same. -/
import Derived.Test.YtijnabgehlkghaaGreatDoorRefSum
import Derived.Test.YtijnabgehlkghaaGreatDoorArr3
namespace Go.Proofs.YtijnabgehlkghaaGreatDoor
open Go Go.RowKit
theorem flat2_at (l : List (Int × Int)) : ∀ (i : Nat), i < l.length → (flat2 l)[i * 2]? = some (.int .i64 (l.getD i (0, 0)).1) ∧ (flat2 l)[i * 2 + 1]? = some (.int .i64 (l.getD i (0, 0)).2) := by
  induction l with
  | nil => intro i h; simp at h
  | cons x r ih =>
    intro i h
    cases i with
    | zero => simp [flat2]
    | succ j =>
      have e : flat2 (x :: r) = [.int .i64 x.1, .int .i64 x.2] ++ flat2 r := by simp [flat2]
      obtain ⟨a, b⟩ := ih j (by simpa using h)
      rw [e, show (j + 1) * 2 = 2 + j * 2 from by omega]
      refine ⟨?_, ?_⟩
      · rw [List.getElem?_append_right (by simp)]; simpa using a
      · rw [List.getElem?_append_right (by simp; omega)]; simpa [show 2 + j * 2 + 1 - 2 = j * 2 + 1 from by omega] using b
theorem chAt_own {w : World} {base g cap n : Nat} {e : TypeId} {l : List (Int × Int)} (h : w.ownsRow base e 2 (.slice (some ⟨g, 0, none⟩) n cap) n (flat2 l)) (hl : l.length = n) : ChAt w g 0 l :=
  ⟨fun i hi => by rw [Nat.zero_add, h.cellAt _ (by omega)]; exact (flat2_at l i hi).1, fun i hi => by rw [Nat.zero_add, h.cellAt _ (by omega)]; exact (flat2_at l i hi).2⟩
theorem run_eqIn_chg (a b a' b' : Int) (w : World) :
    (Op.equalIn 10000 126 (.agg #[.int .i64 a, .int .i64 b]) (.agg #[.int .i64 a', .int .i64 b'])).run Tryz.prog w = .ok (a == a' && b == b') w := by
  rw [show (10000 : Nat) = 9998 + 1 + 1 from rfl, run_equalIn_struct w (9998 + 1) 126 _ _ (by kernel_rfl) (by kernel_rfl)]
  have hi : ∀ x y : Int, (Op.equalIn (9998 + 1) 3 (.int .i64 x) (.int .i64 y)).run Tryz.prog w = .ok (x == y) w := fun x y => run_equalIn_int w 9998 3 .i64 .i64 x y Tryz.underlying3
  cases h1 : (a == a') <;> cases h2 : (b == b') <;> simp [Program.fieldsOf, Tryz.underlying126, Op.eqFields, part, hi, h1, h2]
attribute [local go_sem] run_eqIn_chg
set_option maxRecDepth 100000 in
set_option maxHeartbeats 1000000 in
theorem SameZone_same (o : Int) (l : List (Int × Int)) (n g1 g2 p1 p2 : Nat) (w : World) (h1 : ChAt w g1 0 l) (h2 : ChAt w g2 0 l) (hl : l.length = n) (hn : n ≤ 1000) :
    Calls Tryz.prog 65 #[.agg #[.int .i64 o, .slice (some ⟨g1, 0, none⟩) n p1], .agg #[.int .i64 o, .slice (some ⟨g2, 0, none⟩) n p2]] w fun r w' => r = .returned (.bool true) ∧ Below w.heap.size w w' := by
  obtain ⟨V, HV, hb, a0, a1, b0, b1⟩ : ∃ V, Hid ((w.alloc (.cells #[.int .i64 o, .slice (some ⟨g1, 0, none⟩) n p1] 82)).alloc (.cells #[.int .i64 o, .slice (some ⟨g2, 0, none⟩) n p2] 82) = V) ∧ Below w.heap.size w V ∧ V.cell? ⟨w.heap.size, 0, none⟩ = some (.int .i64 o) ∧ V.cell? ⟨w.heap.size, 1, none⟩ = some (.slice (some ⟨g1, 0, none⟩) n p1) ∧ V.cell? ⟨w.heap.size + 1, 0, none⟩ = some (.int .i64 o) ∧ V.cell? ⟨w.heap.size + 1, 1, none⟩ = some (.slice (some ⟨g2, 0, none⟩) n p2) :=
    ⟨_, Lib.hid rfl, below_alloc2 w _ _, by simp, by simp, by simp, by simp⟩
  have HX := Lib.hid (h1.below hb)
  have HY := Lib.hid (h2.below hb)
  clear h1 h2
  go_enter Tryz.func65, Tryz.ntmps65
  go_wp2_with fail
  rw [HV.out]
  go_loopw [5] (fun i wr => ∃ k : Nat, k ≤ n ∧ i = .int .i64 k ∧ ∃ q, wr = V.drewN q) (fun i _ => n - (intOf i).toNat)
  case atStart => exact ⟨0, Nat.zero_le _, rfl, 0, rfl⟩
  case round =>
    obtain ⟨k, hk, rfl, q, rfl⟩ := hrel
    by_cases hlt : k < n
    · have xm := HX.out.m k (by omega)
      have xo := HX.out.o k (by omega)
      have ym := HY.out.m k (by omega)
      have yo := HY.out.o k (by omega)
      simp only [Nat.zero_add] at xm xo ym yo
      generalize (l.getD k (0, 0)).1 = m at *
      generalize (l.getD k (0, 0)).2 = x at *
      go_wp2_with fail
      go_quiet (fail)
      go_wp2_with fail
      go_roundw
      case rel => exact ⟨k + 1, by omega, by go_num, q + nq, by first | rfl | rw [World.drewN_drewN]⟩
      case measure => simp [intOf]; omega
    · go_wp2_with fail
      go_ret
      exact ⟨rfl, b_drewN hb q⟩
set_option maxRecDepth 100000 in
theorem SameZone_zero (w : World) :
    Calls Tryz.prog 65 #[.agg #[.int .i64 0, .slice none 0 0], .agg #[.int .i64 0, .slice none 0 0]] w fun r w' => r = .returned (.bool true) ∧ Below w.heap.size w w' := by
  obtain ⟨V, HV, hb, a0, a1, b0, b1⟩ : ∃ V, Hid ((w.alloc (.cells #[.int .i64 0, .slice none 0 0] 82)).alloc (.cells #[.int .i64 0, .slice none 0 0] 82) = V) ∧ Below w.heap.size w V ∧ V.cell? ⟨w.heap.size, 0, none⟩ = some (.int .i64 0) ∧ V.cell? ⟨w.heap.size, 1, none⟩ = some (.slice none 0 0) ∧ V.cell? ⟨w.heap.size + 1, 0, none⟩ = some (.int .i64 0) ∧ V.cell? ⟨w.heap.size + 1, 1, none⟩ = some (.slice none 0 0) :=
    ⟨_, Lib.hid rfl, below_alloc2 w _ _, by simp, by simp, by simp, by simp⟩
  go_enter Tryz.func65, Tryz.ntmps65
  go_wp2_with fail
  rw [HV.out]
  go_loopw [5] (fun i wr => i = .int .i64 0 ∧ wr = V) (fun _ _ => 0)
  case atStart => exact ⟨rfl, rfl⟩
  case round =>
    obtain ⟨rfl, rfl⟩ := hrel
    go_wp2_with fail
    go_ret
    exact ⟨rfl, hb⟩
end Go.Proofs.YtijnabgehlkghaaGreatDoor
