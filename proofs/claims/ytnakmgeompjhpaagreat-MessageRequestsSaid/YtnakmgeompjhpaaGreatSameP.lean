/- The statement's comparison of pairs: two rows of the same pairs; and its conditions on requests. -/
import Derived.Test.YtnakmgeompjhpaaGreatRefPairs
import Derived.Laws.StructEq
import Derived.RangeFuncBox
namespace Go.Proofs.YtnakmgeompjhpaaGreat
open Go Go.RowKit
theorem pEq_int (d : Nat) (a b : Int) (w : World) : (Op.equalIn (d + 1) 3 (.int .i64 a) (.int .i64 b)).run Tryz.prog w = .ok (a == b) w := run_equalIn_int w d 3 .i64 .i64 a b Tryz.underlying3
theorem pEq_arr2 (a b a' b' : Int) (w : World) :
    (Op.equalIn 10000 77 (.agg #[.int .i64 a, .int .i64 b]) (.agg #[.int .i64 a', .int .i64 b'])).run Tryz.prog w = .ok (a == a' && b == b') w := by
  have hs : (sizeOf 3).run Tryz.prog w = .ok 1 w := Tryz.sizeOf3 w
  rw [show (10000 : Nat) = 9999 + 1 from rfl]
  unfold Op.equalIn
  simp only [Sem.run_bind, run_underlying Tryz.underlying77, Result.andThen_ok, hs]
  cases h1 : (a == a') <;> cases h2 : (b == b') <;> simp [Std.Legacy.Range.forIn_eq_forIn_range', List.range', part, pEq_int, h1, h2]
attribute [local go_sem] pEq_arr2
theorem prFlat_at (l : List (Int × Int)) : ∀ (i : Nat), i < l.length → (prFlat l)[i * 2]? = some (.int .i64 (l.getD i (0, 0)).1) ∧ (prFlat l)[i * 2 + 1]? = some (.int .i64 (l.getD i (0, 0)).2) := by
  induction l with
  | nil => intro i h; simp at h
  | cons x r ih =>
    intro i h
    cases i with
    | zero => simp [prFlat]
    | succ j =>
      have e : prFlat (x :: r) = [.int .i64 x.1, .int .i64 x.2] ++ prFlat r := by simp [prFlat]
      obtain ⟨a, b⟩ := ih j (by simpa using h)
      rw [e, show (j + 1) * 2 = 2 + j * 2 from by omega]
      refine ⟨?_, ?_⟩
      · rw [List.getElem?_append_right (by simp)]; simpa using a
      · rw [List.getElem?_append_right (by simp; omega)]; simpa [show 2 + j * 2 + 1 - 2 = j * 2 + 1 from by omega] using b
theorem pr_zero {w : World} {base : Nat} {e : TypeId} {size : Nat} {v : Value} {xs : List Value} (h : w.ownsRow base e size v 0 xs) : ∃ A c, v = .slice A 0 c := by
  rcases h.2 with ⟨rfl, _⟩ | ⟨g, cap, cur, rfl, _⟩
  · exact ⟨none, 0, rfl⟩
  · exact ⟨_, _, rfl⟩
set_option maxRecDepth 100000 in
theorem SameP_zero (A B : Option Addr) (c d : Nat) (w : World) :
    Calls Tryz.prog 13 #[.slice A 0 c, .slice B 0 d] w fun r w' => r = .returned (.bool true) ∧ ∃ n, w' = w.drewN n := by
  go_enter Tryz.func13, Tryz.ntmps13
  go_wp2_with fail
  go_loopw [5] (fun i wr => i = .int .i64 0 ∧ wr = w) (fun _ _ => 0)
  case atStart => exact ⟨rfl, rfl⟩
  case round =>
    obtain ⟨rfl, rfl⟩ := hrel
    go_wp2_with fail
    go_ret
    exact ⟨rfl, 0, rfl⟩
set_option maxRecDepth 100000 in
set_option maxHeartbeats 1000000 in
theorem SameP_some (l : List (Int × Int)) (b1 b2 n g1 g2 p1 p2 : Nat) (w : World) (h1 : w.ownsRow b1 77 2 (.slice (some ⟨g1, 0, none⟩) n p1) n (prFlat l)) (h2 : w.ownsRow b2 77 2 (.slice (some ⟨g2, 0, none⟩) n p2) n (prFlat l)) (hl : l.length = n) (hn : n ≤ 1000) :
    Calls Tryz.prog 13 #[.slice (some ⟨g1, 0, none⟩) n p1, .slice (some ⟨g2, 0, none⟩) n p2] w fun r w' => r = .returned (.bool true) ∧ ∃ q, w' = w.drewN q := by
  have HX : Hid (∀ i t, i < n → t < 2 → w.cell? ⟨g1, i * 2 + t, none⟩ = (prFlat l)[i * 2 + t]?) := Lib.hid fun i t hi ht => h1.cellAt _ (by omega)
  have HY : Hid (∀ i t, i < n → t < 2 → w.cell? ⟨g2, i * 2 + t, none⟩ = (prFlat l)[i * 2 + t]?) := Lib.hid fun i t hi ht => h2.cellAt _ (by omega)
  clear h1 h2
  go_enter Tryz.func13, Tryz.ntmps13
  go_wp2_with fail
  go_loopw [5] (fun i wr => ∃ k : Nat, k ≤ n ∧ i = .int .i64 k ∧ ∃ q, wr = w.drewN q) (fun i _ => n - (intOf i).toNat)
  case atStart => exact ⟨0, Nat.zero_le _, rfl, 0, rfl⟩
  case round =>
    obtain ⟨k, hk, rfl, q, rfl⟩ := hrel
    by_cases hlt : k < n
    · obtain ⟨f0, f1⟩ := prFlat_at l k (by omega)
      have x0 := (HX.out k 0 hlt (by omega)).trans f0
      have x1 := (HX.out k 1 hlt (by omega)).trans f1
      have y0 := (HY.out k 0 hlt (by omega)).trans f0
      have y1 := (HY.out k 1 hlt (by omega)).trans f1
      simp only [Nat.add_zero] at x0 y0
      clear f0 f1
      generalize (l.getD k (0, 0)).1 = u0 at *
      generalize (l.getD k (0, 0)).2 = u1 at *
      go_wp2_with fail
      go_quiet (fail)
      go_wp2_with fail
      go_roundw
      case rel => exact ⟨k + 1, by omega, by go_num, q + nq, by first | rfl | rw [World.drewN_drewN]⟩
      case measure => simp [intOf]; omega
    · go_wp2_with fail
      go_ret
      exact ⟨rfl, q, rfl⟩
theorem SameP_same (l : List (Int × Int)) (b1 b2 : Nat) (v1 v2 : Value) (w : World) (h1 : w.ownsRow b1 77 2 v1 l.length (prFlat l)) (h2 : w.ownsRow b2 77 2 v2 l.length (prFlat l)) (hl : l.length ≤ 1000) :
    Calls Tryz.prog 13 #[v1, v2] w fun r w' => r = .returned (.bool true) ∧ ∃ n, w' = w.drewN n := by
  cases l with
  | nil =>
    obtain ⟨A, c, rfl⟩ := pr_zero h1
    obtain ⟨B, d, rfl⟩ := pr_zero h2
    exact SameP_zero A B c d w
  | cons x r =>
    obtain ⟨g1, c1, rfl⟩ := ownsRow_succ h1
    obtain ⟨g2, c2, rfl⟩ := ownsRow_succ h2
    exact SameP_some (x :: r) b1 b2 _ g1 g2 c1 c2 w h1 h2 rfl hl
/-- A call that has returned true or false; true only where h holds. -/
structure BoolR (e : Ending) (h : Prop) : Prop where
  ex : ∃ bb : Bool, e = .returned (.bool bb) ∧ (bb = true → h)
theorem BoolR.mk' {e : Ending} {h : Prop} (bb : Bool) (h1 : e = .returned (.bool bb)) (h2 : bb = true → h) : BoolR e h := ⟨bb, h1, h2⟩
set_option maxRecDepth 100000 in
set_option maxHeartbeats 2000000 in
theorem Brief_any (q : ReqV) (w : World) : Calls Tryz.prog 4 #[.agg q.cells] w fun e w' => BoolR e True ∧ Below w.heap.size w w' := by
  obtain ⟨W, HW, hb0, R⟩ := req_new w q 25
  obtain ⟨name, carrier, kind, terminal, partner, link, a, b, d, m, s, z, n⟩ := q
  obtain ⟨r0, r1, r2, r3, r4, r5, -, -, -, -, -, -, -⟩ := R
  simp only [ReqV.cells] at *
  clear HW hb0 r0 r1 r2 r3 r4 r5
  go_enter Tryz.func4, Tryz.ntmps4
  go_wp2_with fail
  all_goals go_ret
  all_goals exact ⟨.mk' _ rfl fun _ => trivial, below_alloc _ _⟩
set_option maxRecDepth 100000 in
theorem Short_zero (A : Option Addr) (c : Nat) (w : World) : Calls Tryz.prog 5 #[.slice A 0 c, .int .i64 6] w fun e w' => BoolR e True ∧ Below w.heap.size w w' := by
  go_enter Tryz.func5, Tryz.ntmps5
  go_wp2_with fail
  go_loopw [5] (fun i wr => i = .int .i64 0 ∧ wr = w) (fun _ _ => 0)
  case atStart => exact ⟨rfl, rfl⟩
  case round =>
    obtain ⟨rfl, rfl⟩ := hrel
    go_wp2_with fail
    go_ret
    exact ⟨.mk' _ rfl fun _ => trivial, Below.refl _ _⟩
set_option maxRecDepth 100000 in
set_option maxHeartbeats 2000000 in
theorem Short_any (l : List ReqV) (b off cap : Nat) (w : World) (hl : RqsAt w b off l) : Calls Tryz.prog 5 #[.slice (some ⟨b, off, none⟩) l.length cap, .int .i64 6] w
    fun e w' => BoolR e (l.length ≤ 65) ∧ Below w.heap.size w w' := by
  have HL := Lib.hid hl
  clear hl
  by_cases h6 : 65 < l.length
  · have h1 : decide ((6 : Int) < (l.length : Int)) = true := by simp; omega
    have h2 : ((l.length : Int) == 65) = false := by simp; omega
    go_enter Tryz.func5, Tryz.ntmps5
    go_wp2_with fail
    all_goals go_ret
    all_goals exact ⟨.mk' false rfl (fun h => by cases h), Below.refl _ _⟩
  have h65 : l.length ≤ 65 := by omega
  by_cases h3 : (6 : Int) < (l.length : Int) ∧ (l.length : Int) ≠ 65
  · have h2 : ((l.length : Int) == 65) = false := by simpa using h3.2
    have h1 := h3.1
    go_enter Tryz.func5, Tryz.ntmps5
    go_wp2_with fail
    all_goals go_ret
    all_goals exact ⟨.mk' _ rfl fun _ => h65, Below.refl _ _⟩
  have hcase : (decide ((6 : Int) < (l.length : Int)) && !((l.length : Int) == 65)) = false := by
    by_cases h1 : (6 : Int) < (l.length : Int)
    · have h2 : (l.length : Int) = 65 := by
        by_cases h : (l.length : Int) = 65
        · exact h
        · exact absurd ⟨h1, h⟩ h3
      rw [h2]; rfl
    · rw [decide_eq_false h1]; rfl
  clear h3 h6
  cases h1 : decide ((6 : Int) < (l.length : Int))
  · have h1' : (l.length : Int) ≤ 6 := by have := of_decide_eq_false h1; omega
    clear hcase h1
    go_enter Tryz.func5, Tryz.ntmps5
    go_wp2_with fail
    go_loopw [5] (fun i wr => ∃ k : Nat, k ≤ l.length ∧ i = .int .i64 k ∧ Hid (Below w.heap.size w wr)) (fun i _ => l.length - (intOf i).toNat)
    case atStart => exact ⟨0, Nat.zero_le _, rfl, Lib.hid (Below.refl _ _)⟩
    case round =>
      obtain ⟨k, hk, rfl, HB⟩ := hrel
      by_cases hlt : k < l.length
      · obtain ⟨x0, x1, x2, x3, x4, x5, x6, x7, x8, x9, x10, x11, x12⟩ := (HL.out.below HB.out).row hlt rfl
        have hcall := Brief_any (l.getD k default)
        generalize l.getD k default = q at *
        obtain ⟨qa, qb, qc, qd, qe, qf, qg, qh, qi, qj, qk, ql, qm⟩ := q
        dsimp only [ReqV.cells] at hcall x0 x1 x2 x3 x4 x5 x6 x7 x8 x9 x10 x11 x12
        go_wp2_with fail
        refine (hcall _).mono ?_
        rintro e1 w1 ⟨⟨bb, rfl, -⟩, hb1⟩
        have HB1 : Hid (Below w.heap.size w w1) := Lib.hid (b_then HB.out hb1)
        clear x0 x1 x2 x3 x4 x5 x6 x7 x8 x9 x10 x11 x12 hcall hb1
        cases bb
        · go_wp2_with fail
          go_ret
          exact ⟨.mk' _ rfl fun _ => h65, HB1.out⟩
        · go_wp2_with fail
          refine ⟨⟨k + 1, by omega, by go_num, HB1⟩, by simp [intOf]; omega⟩
      · go_wp2_with fail
        go_ret
        exact ⟨.mk' _ rfl fun _ => h65, HB.out⟩
  · have h2 : (l.length : Int) = 65 := by
      rw [h1] at hcase; simpa using hcase
    have h1' : (6 : Int) < (l.length : Int) := by omega
    clear hcase h1
    go_enter Tryz.func5, Tryz.ntmps5
    go_wp2_with fail
    go_loopw [5] (fun i wr => ∃ k : Nat, k ≤ l.length ∧ i = .int .i64 k ∧ Hid (Below w.heap.size w wr)) (fun i _ => l.length - (intOf i).toNat)
    case atStart => exact ⟨0, Nat.zero_le _, rfl, Lib.hid (Below.refl _ _)⟩
    case round =>
      obtain ⟨k, hk, rfl, HB⟩ := hrel
      by_cases hlt : k < l.length
      · obtain ⟨x0, x1, x2, x3, x4, x5, x6, x7, x8, x9, x10, x11, x12⟩ := (HL.out.below HB.out).row hlt rfl
        have hcall := Brief_any (l.getD k default)
        generalize l.getD k default = q at *
        obtain ⟨qa, qb, qc, qd, qe, qf, qg, qh, qi, qj, qk, ql, qm⟩ := q
        dsimp only [ReqV.cells] at hcall x0 x1 x2 x3 x4 x5 x6 x7 x8 x9 x10 x11 x12
        go_wp2_with fail
        refine (hcall _).mono ?_
        rintro e1 w1 ⟨⟨bb, rfl, -⟩, hb1⟩
        have HB1 : Hid (Below w.heap.size w w1) := Lib.hid (b_then HB.out hb1)
        clear x0 x1 x2 x3 x4 x5 x6 x7 x8 x9 x10 x11 x12 hcall hb1
        cases bb
        · go_wp2_with fail
          go_ret
          exact ⟨.mk' _ rfl fun _ => h65, HB1.out⟩
        · go_wp2_with fail
          refine ⟨⟨k + 1, by omega, by go_num, HB1⟩, by simp [intOf]; omega⟩
      · go_wp2_with fail
        go_ret
        exact ⟨.mk' _ rfl fun _ => h65, HB.out⟩
end Go.Proofs.YtnakmgeompjhpaaGreat
