/- The walk of CalendarCovers. -/
import Derived.Test.YtoaimgfekbnijaaDoorAwake
import Derived.Test.YtoaimgfekbnijaaDoorDaysM
import Derived.Test.YtoaimgfekbnijaaDoorHasAll
import Derived.Test.YtoaimgfekbnijaaDoorDaysOf
import Derived.Test.YtoaimgfekbnijaaDoorJoinAll
import Derived.Test.YtoaimgfekbnijaaDoorSamePer
import Derived.Test.YtoaimgfekbnijaaDoorRefDaysC
import Derived.Test.YtoaimgfekbnijaaDoorParts2
import Derived.Test.YtoaimgfekbnijaaDoorSplitAll
import Derived.Laws.AppendOwn
import Derived.OwnWalk
import Derived.Deep.CutRange
import Derived.Deep.DeepCutAuto
namespace Go.Proofs.YtoaimgfekbnijaaDoor
open Go Go.RowKit Ev
theorem daysL_l61 {a b m : Int} (h : b - a ≤ 60) : (daysL a b m).length ≤ 61 := by
  unfold daysL
  exact Nat.le_trans (upto_len a b m _) (by omega)
theorem nilInts (w : World) (base : Nat) : IntsAt w base (.slice none 0 0) [] := ⟨World.ownsRow_nil _ _ _ _, by simp⟩
/-- A slice of numbers: its length, and its cells if it has any. -/
theorem ints_form {w : World} {base : Nat} {v : Value} {l : List Int} (h : IntsAt w base v l) :
    ∃ (A : Option Addr) (cp g : Nat), v = .slice A l.length cp ∧ (0 < l.length → A = some ⟨g, 0, none⟩ ∧ g < w.heap.size) ∧ ∀ t, t < l.length → w.cell? ⟨g, t, none⟩ = some (.int .i64 (l.getD t 0)) := by
  cases l with
  | nil => exact ⟨none, 0, 0, h.nil.2 rfl, fun h0 => by simp at h0, fun t ht => by simp at ht⟩
  | cons x r =>
    obtain ⟨g, c, rfl, hi⟩ := intAt_row h.own (by simp)
    refine ⟨some ⟨g, 0, none⟩, c, g, rfl, fun _ => ⟨rfl, own_lt h.own g rfl⟩, fun t ht => ?_⟩
    have := hi t ht
    rwa [Nat.zero_add] at this
theorem per_form {w : World} {base : Nat} {v : Value} {l : List (Int × Int × Int)} (h : w.ownsRow base 23 3 v l.length (flat3 l)) :
    ∃ (A : Option Addr) (cp g : Nat), v = .slice A l.length cp ∧ (0 < l.length → A = some ⟨g, 0, none⟩) ∧ ∀ t, t < l.length → w.cell? ⟨g, t * 3, none⟩ = some (.int .i64 (l.getD t (0, 0, 0)).1) ∧ w.cell? ⟨g, t * 3 + 1, none⟩ = some (.int .i64 (l.getD t (0, 0, 0)).2.1) ∧ w.cell? ⟨g, t * 3 + 2, none⟩ = some (.int .i64 (l.getD t (0, 0, 0)).2.2) := by
  cases l with
  | nil =>
    obtain ⟨A, c, rfl⟩ := row_zero h
    exact ⟨A, c, 0, rfl, fun h0 => by simp at h0, fun t ht => by simp at ht⟩
  | cons x r =>
    obtain ⟨g, c, rfl⟩ := ownsRow_succ h
    refine ⟨some ⟨g, 0, none⟩, c, g, rfl, fun _ => rfl, fun t ht => ?_⟩
    obtain ⟨f0, f1, f2⟩ := flat3_at (x :: r) t ht
    have e : (x :: r).length = r.length + 1 := rfl
    exact ⟨(h.cellAt _ (by omega)).trans f0, (h.cellAt _ (by omega)).trans f1, (h.cellAt _ (by omega)).trans f2⟩
/-- The cells of a list as news of an append. -/
theorem news_of {w : World} {g : Nat} {L : List Int} (h : ∀ t, t < L.length → w.cell? ⟨g, t, none⟩ = some (.int .i64 (L.getD t 0))) :
    (∀ (j : Nat) (u : Value), (L.map (Value.int .i64))[j]? = some u → w.cell? ((⟨g, 0, none⟩ : Addr).add j) = some u) ∧ ∀ u ∈ L.map (Value.int .i64), u.oneCell' = true := by
  refine ⟨fun j u hu => ?_, fun u hu => ?_⟩
  · have hj : j < L.length := by
      have := (List.getElem?_eq_some_iff.1 hu).1
      simpa using this
    have e : u = .int .i64 (L.getD j 0) := by
      rw [List.getElem?_map, List.getElem?_eq_getElem hj] at hu
      simp only [Option.map_some, Option.some.injEq] at hu
      rw [← hu]; simp [hj]
    rw [e, Go.WideShapes.add_plain, Nat.zero_add]
    exact h j hj
  · obtain ⟨x, -, rfl⟩ := List.mem_map.1 hu
    rfl
theorem cov_start (w : World) (a b m c d k day by' : Int) : ∃ W, Hid (((w.alloc (.cells #[.int .i64 a, .int .i64 b, .int .i64 m] 23)).alloc (.cells #[.int .i64 c, .int .i64 d, .int .i64 k] 23)).alloc (.cells #[.int .i64 day, .int .i64 by'] 55) = W) ∧ Below w.heap.size w W ∧
      W.cell? ⟨w.heap.size, 0, none⟩ = some (.int .i64 a) ∧ W.cell? ⟨w.heap.size, 1, none⟩ = some (.int .i64 b) ∧ W.cell? ⟨w.heap.size, 2, none⟩ = some (.int .i64 m) ∧
      W.cell? ⟨w.heap.size + 1, 0, none⟩ = some (.int .i64 c) ∧ W.cell? ⟨w.heap.size + 1, 1, none⟩ = some (.int .i64 d) ∧ W.cell? ⟨w.heap.size + 1, 2, none⟩ = some (.int .i64 k) ∧
      W.cell? ⟨w.heap.size + 2, 0, none⟩ = some (.int .i64 day) ∧ W.cell? ⟨w.heap.size + 2, 1, none⟩ = some (.int .i64 by') := by
  obtain ⟨W0, HW0, hb, e0, e1, e2, f0, f1, f2⟩ : ∃ W0, Hid ((w.alloc (.cells #[.int .i64 a, .int .i64 b, .int .i64 m] 23)).alloc (.cells #[.int .i64 c, .int .i64 d, .int .i64 k] 23) = W0) ∧ Below w.heap.size w W0 ∧
      W0.cell? ⟨w.heap.size, 0, none⟩ = some (.int .i64 a) ∧ W0.cell? ⟨w.heap.size, 1, none⟩ = some (.int .i64 b) ∧ W0.cell? ⟨w.heap.size, 2, none⟩ = some (.int .i64 m) ∧
      W0.cell? ⟨w.heap.size + 1, 0, none⟩ = some (.int .i64 c) ∧ W0.cell? ⟨w.heap.size + 1, 1, none⟩ = some (.int .i64 d) ∧ W0.cell? ⟨w.heap.size + 1, 2, none⟩ = some (.int .i64 k) :=
    ⟨_, Lib.hid rfl, below_alloc2 w _ _, by simp, by simp, by simp, by simp, by simp, by simp⟩
  have hs : w.heap.size + 2 = W0.heap.size := by rw [← HW0.out]; simp
  refine ⟨_, Lib.hid rfl, ?_⟩
  rw [HW0.out, hs]
  have ha : Below W0.heap.size W0 (W0.alloc (.cells #[.int .i64 day, .int .i64 by'] 55)) := below_alloc W0 _
  exact ⟨b_then hb ha, b_old ha e0, b_old ha e1, b_old ha e2, b_old ha f0, b_old ha f1, b_old ha f2, by simp, by simp⟩
set_option maxRecDepth 100000 in
theorem SameInts_zero (A B : Option Addr) (c d : Nat) (w : World) : Calls Tryd.prog 31 #[.slice A 0 c, .slice B 0 d] w fun r w' => r = .returned (.bool true) ∧ ∃ n, w' = w.drewN n := by
  go_enter Tryd.func31, Tryd.ntmps31
  go_wp2_with fail
  go_loopw [5] (fun i wr => i = .int .i64 0 ∧ wr = w) (fun _ _ => 0)
  case atStart => exact ⟨rfl, rfl⟩
  case round =>
    obtain ⟨rfl, rfl⟩ := hrel
    go_wp2_with fail
    go_ret
    exact ⟨rfl, 0, rfl⟩
/-- Two slices that hold the same numbers. -/
theorem SameInts_list (l : List Int) (A B : Option Addr) (c d g1 g2 : Nat) (w : World) (hA : 0 < l.length → A = some ⟨g1, 0, none⟩) (hB : 0 < l.length → B = some ⟨g2, 0, none⟩)
    (h1 : ∀ t, t < l.length → w.cell? ⟨g1, t, none⟩ = some (.int .i64 (l.getD t 0))) (h2 : ∀ t, t < l.length → w.cell? ⟨g2, t, none⟩ = some (.int .i64 (l.getD t 0))) (hl : l.length ≤ 100000) :
    Calls Tryd.prog 31 #[.slice A l.length c, .slice B l.length d] w fun r w' => r = .returned (.bool true) ∧ ∃ n, w' = w.drewN n := by
  by_cases h0 : l = []
  · subst h0
    exact SameInts_zero A B c d w
  · have hp := List.length_pos_iff.2 h0
    obtain rfl := hA hp
    obtain rfl := hB hp
    have := SameInts_some l l g1 0 c g2 0 d w (fun i hi => by rw [Nat.zero_add]; exact h1 i hi) (fun i hi => by rw [Nat.zero_add]; exact h2 i hi) (by omega) (by omega)
    rw [decide_eq_true rfl] at this
    exact this
theorem qCheckDays_i (l : List Int) (base : Nat) (v : Value) (w : World) (h : IntsAt w base v l) (hl : l.length ≤ 100000) (he : ascErr l = 0) :
    Calls Tryd.prog 21 #[v] w fun r w' => r = .returned (.int .i64 0) ∧ Below w.heap.size w w' := by
  by_cases h0 : l = []
  · obtain rfl := h.nil.2 h0
    refine (qCheckDays_zero none 0 w).mono ?_
    rintro e w' ⟨rfl, rfl⟩
    exact ⟨rfl, Below.refl _ _⟩
  · obtain ⟨g, cap, rfl, hi⟩ := intAt_row h.own (List.length_pos_iff.2 h0)
    have := qCheckDays_v g 0 cap l w (own_lt h.own g rfl) (fun j hj => hi j hj) hl
    rwa [he] at this
theorem Split_two (a b m day : Int) (hz : perErr a b m = 0) (ha : 0 ≤ a) (hb : b ≤ 99999) : ∃ x0 x1 x2 x3 x4 x5 e : Int,
    (∀ w, Calls Tryd.prog 14 #[.agg #[.int .i64 a, .int .i64 b, .int .i64 m], .int .i64 day] w fun r w' => r = .returned (.tuple #[.agg #[.int .i64 x0, .int .i64 x1, .int .i64 x2, .int .i64 x3, .int .i64 x4, .int .i64 x5], .int .i64 e]) ∧ Below w.heap.size w w') ∧
    (e = 30 ∨ (e = 0 ∧ a < day ∧ day ≤ b ∧ a = x0 ∧ day - 1 = x1 ∧ m = x2 ∧ day = x3 ∧ b = x4 ∧ m = x5)) := by
  by_cases h : a < day ∧ day ≤ b
  · exact ⟨a, day - 1, m, day, b, m, 0, fun w => Split_ok a b m day w hz h.1 h.2 ha hb, .inr ⟨rfl, h.1, h.2, rfl, rfl, rfl, rfl, rfl, rfl⟩⟩
  · have he : splitErr a b m day = 30 := by
      unfold splitErr inSplit
      rw [hz]
      have : (decide (a < day) && decide (day ≤ b)) = false := by simpa using h
      rw [this]; rfl
    refine ⟨0, 0, 0, 0, 0, 0, 30, fun w => ?_, .inl rfl⟩
    have := Split_err a b m day w (by rw [he]; decide)
    rwa [he] at this
theorem wrap_small (x : Int) (h0 : 0 ≤ x) (h1 : x ≤ 1000) : IntKind.i64.wrap x = x := by
  have := wrap_i64_ediv x 1 (by omega) (by omega) (by omega)
  rwa [Int.ediv_one] at this
/-- An append behind a guard that holds. -/
theorem wpList_append_g {P : Program} (w : World) {ops : Array Oper} {rest : List Oper} {o : Oper} {a : Act} {Q : Exit → Act → World → Prop} (hw : Region.wanted o (yielded ops a.tmps) = true) (s x : Operand) (t : TypeId)
    (ho : o.op = .call { callee := .builtin .append, args := #[s, x], argTypes := #[t, t] })
    (base : Nat) (e : TypeId) (i : TypeInfo) (z : Value) (size bytes : Nat) (ht : P.underlying t = some (.slice e)) (hi : P.info? e = some i) (hz : i.zero = some z)
    (hsize : i.size = size) (hby : i.bytes = bytes) (hzs : z.cells.size = size) (hsz : 0 < size)
    (v : Value) (n : Nat) (xs : List Value) (hs : a.eval s = v) (hown : w.ownsRow base e size v n xs)
    (ad : Addr) (m c : Nat) (news : List Value) (hx : a.eval x = .slice (some ad) m c) (hl : news.length = m * size) (hnews : ∀ j u, news[j]? = some u → w.cell? (ad.add j) = some u) (h1 : ∀ u ∈ news, u.oneCell' = true)
    (h63 : n + m ≤ maxLen) (hbytes : (n + m) * bytes ≤ 140737488355328) (hbase : base ≤ w.heap.size)
    (h : ∀ v' w', w'.ownsRow base e size v' (n + m) (xs ++ news) → w.grownBy w' v.ownBlock → wpList P ops Q rest (a.put o.dst v') w') : wpList P ops Q (o :: rest) a w :=
  BigFrame.wpList_want hw fun _ hK => wp_append_own w s x t ho base e i z size bytes ht hi hz hsize hby hzs hsz v n xs hs hown ad m c news hx hl hnews h1 h63 hbytes hbase fun v' w' h2 h3 _ => hK _ _ (h v' w' h2 h3)
theorem perErr_mk {a b m : Int} (h1 : 0 ≤ a) (h2 : a ≤ b) (h3 : b ≤ 99999) (h4 : b - a ≤ 400) (hm1 : 1 ≤ m) (hm2 : m ≤ 127) : perErr a b m = 0 := by
  unfold perErr
  rw [rng_ok h1 (by omega), rng_ok (by omega) h3, rng_ok hm1 hm2, decide_eq_true h2, IntWalk.wrap64_in _ ⟨by omega, by omega⟩, decide_eq_true h4]; rfl
set_option maxRecDepth 100000 in
set_option maxHeartbeats 6000000 in
theorem Covers_true (a b m c d k day by' : Int) (w : World) (hl : Ev.Reads lst w) :
    Calls Tryd.prog 6 #[.agg #[.int .i64 a, .int .i64 b, .int .i64 m], .agg #[.int .i64 c, .int .i64 d, .int .i64 k], .agg #[.int .i64 day, .int .i64 by']] w (IsTrue w) := by
  obtain ⟨i0, hI, hz0, hz1, hz2⟩ := info_parts infoInt
  have HD : Hid (∀ w', Below w.heap.size w w' → Calls Tryd.prog 13 #[] w' (IsTrue w')) := Lib.hid fun w' hb => awake_true w' (reads_below hl hb)
  clear hl
  obtain ⟨W, HW, hb0, a0, a1, a2, c0, c1, c2, y0, y1⟩ := cov_start w a b m c d k day by'
  have CA : Hid (∀ W', Below W.heap.size W W' → W'.cell? ⟨w.heap.size, 0, none⟩ = some (.int .i64 a) ∧ W'.cell? ⟨w.heap.size, 1, none⟩ = some (.int .i64 b) ∧ W'.cell? ⟨w.heap.size, 2, none⟩ = some (.int .i64 m)) := Lib.hid fun W' h => ⟨b_old h a0, b_old h a1, b_old h a2⟩
  have CC : Hid (∀ W', Below W.heap.size W W' → W'.cell? ⟨w.heap.size + 1, 0, none⟩ = some (.int .i64 c) ∧ W'.cell? ⟨w.heap.size + 1, 1, none⟩ = some (.int .i64 d) ∧ W'.cell? ⟨w.heap.size + 1, 2, none⟩ = some (.int .i64 k)) := Lib.hid fun W' h => ⟨b_old h c0, b_old h c1, b_old h c2⟩
  clear a0 a1 a2 c0 c1 c2
  go_enter Tryd.func6, Tryd.ntmps6
  go_wp2_with fail
  rw [HW.out]
  go_quiet (fail)
  have hb1 : Below W.heap.size W (W.drewN nq) := b_drewN (Below.refl _ W) nq
  clear y0 y1
  generalize W.drewN nq = w1 at *
  go_wp2_with fail
  refine (HD.out _ (b_then hb0 hb1)).mono ?_
  rintro e w2 ⟨rfl, hb2⟩
  replace hb2 := b_then hb1 hb2
  clear hb1
  obtain ⟨q0, q1, q2⟩ := CA.out _ hb2
  go_wp2_with fail
  refine (qCheckPeriod_any _ _ _ _).mono ?_
  rintro e w3 ⟨rfl, hb3⟩
  replace hb3 := b_then hb2 hb3
  clear hb2 q0 q1 q2
  by_cases hA : perErr a b m = 0
  case neg =>
    have hAb : (perErr a b m != 0) = true := by simpa using hA
    generalize perErr a b m = E at *
    go_wp2_with fail
    refine (HD.out _ (b_then hb0 hb3)).mono ?_
    rintro e w90 ⟨rfl, hb90⟩
    go_wp2_with fail
    go_ret
    exact ⟨rfl, b_then (b_then hb0 hb3) hb90⟩
  case pos =>
  have HA := Lib.hid hA
  rw [hA]
  clear hA
  obtain ⟨r0, r1, r2⟩ := CC.out _ hb3
  go_wp2_with fail
  refine (qCheckPeriod_any _ _ _ _).mono ?_
  rintro e w4 ⟨rfl, hb4⟩
  replace hb4 := b_then hb3 hb4
  clear hb3 r0 r1 r2
  by_cases hC : perErr c d k = 0
  case neg =>
    have hCb : (perErr c d k != 0) = true := by simpa using hC
    generalize perErr c d k = E at *
    go_wp2_with fail
    refine (HD.out _ (b_then hb0 hb4)).mono ?_
    rintro e w90 ⟨rfl, hb90⟩
    go_wp2_with fail
    go_ret
    exact ⟨rfl, b_then (b_then hb0 hb4) hb90⟩
  case pos =>
  have HC := Lib.hid hC
  rw [hC]
  clear hC
  obtain ⟨⟨x1, x2, x3⟩, x4, x5, x6⟩ := per_valid HA.out
  obtain ⟨⟨y1, y2, y3⟩, y4, y5, y6⟩ := per_valid HC.out
  obtain ⟨q0, q1, q2⟩ := CA.out _ hb4
  obtain ⟨r0, r1, r2⟩ := CC.out _ hb4
  by_cases hA60 : 60 < b - a
  case pos =>
    go_wp2_with fail
    refine (HD.out _ (b_then hb0 hb4)).mono ?_
    rintro e w90 ⟨rfl, hb90⟩
    go_wp2_with fail
    go_ret
    exact ⟨rfl, b_then (b_then hb0 hb4) hb90⟩
  case neg =>
  by_cases hC60 : 60 < d - c
  case pos =>
    go_wp2_with fail
    refine (HD.out _ (b_then hb0 hb4)).mono ?_
    rintro e w90 ⟨rfl, hb90⟩
    go_wp2_with fail
    go_ret
    exact ⟨rfl, b_then (b_then hb0 hb4) hb90⟩
  case neg =>
  go_wp2_with fail
  refine (qCheckDay_any _ _).mono ?_
  rintro e w5 ⟨rfl, hw5⟩
  rw [hw5]
  clear hw5
  by_cases hdy : rng day 0 99999 = 0
  case neg =>
    have hdb : (rng day 0 99999 != 0) = true := by simpa using hdy
    generalize rng day 0 99999 = E at *
    go_wp2_with fail
    refine (HD.out _ (b_then hb0 hb4)).mono ?_
    rintro e w90 ⟨rfl, hb90⟩
    go_wp2_with fail
    go_ret
    exact ⟨rfl, b_then (b_then hb0 hb4) hb90⟩
  case pos =>
  rw [hdy]
  have hday := rng_zero hdy
  clear hdy
  by_cases hy1 : by' < -1000
  case pos =>
    go_wp2_with fail
    refine (HD.out _ (b_then hb0 hb4)).mono ?_
    rintro e w90 ⟨rfl, hb90⟩
    go_wp2_with fail
    go_ret
    exact ⟨rfl, b_then (b_then hb0 hb4) hb90⟩
  case neg =>
  by_cases hy2 : 1000 < by'
  case pos =>
    go_wp2_with fail
    refine (HD.out _ (b_then hb0 hb4)).mono ?_
    rintro e w90 ⟨rfl, hb90⟩
    go_wp2_with fail
    go_ret
    exact ⟨rfl, b_then (b_then hb0 hb4) hb90⟩
  case neg =>
  go_wp2_with fail
  refine (DaysOf_ok a b m _ HA.out).mono ?_
  rintro e w6 ⟨v1, rfl, i1, hb6⟩
  replace hb6 := b_then hb4 hb6
  clear q0 q1 q2 r0 r1 r2 w5
  obtain ⟨r0, r1, r2⟩ := CC.out _ hb6
  go_wp2_with fail
  refine (DaysOf_ok c d k _ HC.out).mono ?_
  rintro e w7 ⟨v2, rfl, i2, hb7⟩
  replace i1 := i1.below hb7
  replace hb7 := b_then hb6 hb7
  clear hb6 r0 r1 r2 hb4
  have hX := daysL_l61 (m := m) (show b - a ≤ 60 by omega)
  have hY := daysL_l61 (m := k) (show d - c ≤ 60 by omega)
  have BX : Hid (∀ e ∈ daysL a b m, 0 ≤ e ∧ e ≤ 99999) := Lib.hid fun e he => by have := (daysL_mem _ _ _ _).1 he; omega
  have BY : Hid (∀ e ∈ daysL c d k, 0 ≤ e ∧ e ≤ 99999) := Lib.hid fun e he => by have := (daysL_mem _ _ _ _).1 he; omega
  have HXP := Lib.hid (daysL_pair a b m)
  have HYP := Lib.hid (daysL_pair c d k)
  obtain ⟨X, HXE⟩ : ∃ X, Hid (daysL a b m = X) := ⟨_, Lib.hid rfl⟩
  obtain ⟨Y, HYE⟩ : ∃ Y, Hid (daysL c d k = Y) := ⟨_, Lib.hid rfl⟩
  rw [HXE.out] at i1 hX BX HXP
  rw [HYE.out] at i2 hY BY HYP
  clear HYE HC
  obtain ⟨A1, p1, g1, hv1, hA1, hc1⟩ := ints_form i1
  obtain ⟨A2, p2, g2, hv2, hA2, hc2⟩ := ints_form i2
  have HXC : Hid (∀ W', Below w7.heap.size w7 W' → ∀ t, t < X.length → W'.cell? ⟨g1, t, none⟩ = some (.int .i64 (X.getD t 0))) := Lib.hid fun W' h t ht => b_old h (hc1 t ht)
  have HYC : Hid (∀ W', Below w7.heap.size w7 W' → ∀ t, t < Y.length → W'.cell? ⟨g2, t, none⟩ = some (.int .i64 (Y.getD t 0))) := Lib.hid fun W' h t ht => b_old h (hc2 t ht)
  replace hA1 := Lib.hid hA1
  replace hA2 := Lib.hid hA2
  clear hc1 hc2
  subst hv1
  subst hv2
  have HL := Lib.hid (b_then hb0 hb7)
  have HBW := Lib.hid hb7
  clear hb7
  go_wp2_with fail
  refine (qCheckDays_i X _ _ _ i1 (by omega) (asc_err HXP.out BX.out (by omega))).mono ?_
  rintro e w8 ⟨rfl, hb8⟩
  have i2' := i2.below hb8
  go_wp2_with fail
  refine (qCheckDays_i Y _ _ _ i2' (by omega) (asc_err HYP.out BY.out (by omega))).mono ?_
  rintro e w9 ⟨rfl, hb9⟩
  replace hb9 := b_then hb8 hb9
  clear hb8 i2' i1 i2
  go_upto_region 10 with fail
  go_loopw [13, 14, 15] (fun v iv kv wr => ∃ (i k : Nat) (L : List Int), iv = .int .i64 i ∧ kv = .int .i64 k ∧ i ≤ X.length ∧ k ≤ Y.length ∧ Mg X Y i k L ∧ IntsAt wr w9.heap.size v L ∧ Below w9.heap.size w9 wr) (fun _ iv kv _ => (X.length - (intOf iv).toNat) + (Y.length - (intOf kv).toNat))
  case atStart => exact ⟨0, 0, [], rfl, rfl, by omega, by omega, Mg.zero X Y, nilInts _ _, Below.refl _ _⟩
  case round =>
    obtain ⟨i, k, L, rfl, rfl, hiX, hkY, hmg, io, hbr⟩ := hrel
    by_cases hi : i < X.length
    · by_cases hk : k < Y.length
      · have hke : ((k : Int) == (Y.length : Int)) = false := by rw [beq_eq_false_iff_ne]; omega
        have hie : ((i : Int) == (X.length : Int)) = false := by rw [beq_eq_false_iff_ne]; omega
        obtain rfl := (hA1.out (by omega)).1
        obtain rfl := (hA2.out (by omega)).1
        have z0 := HXC.out _ (b_then hb9 hbr) i hi
        have z1 := HYC.out _ (b_then hb9 hbr) k hk
        by_cases hlt : X.getD i 0 < Y.getD k 0
        · have HM2 := Lib.hid (hmg.left HXP.out hi fun _ => hlt)
          have hml : L.length ≤ 122 := by have := hmg.len; omega
          clear hmg
          generalize X.getD i 0 = xv at *
          generalize Y.getD k 0 = yv at *
          go_upto_region 13 with fail
          go_quiet (fail)
          replace io := io.below (b_drewN (Below.refl _ wr) nq)
          replace hbr := b_drewN hbr nq
          replace z0 : (wr.drewN nq).cell? _ = some _ := z0
          replace z1 : (wr.drewN nq).cell? _ = some _ := z1
          generalize wr.drewN nq = wr at *
          have hl1 : L.length + 1 ≤ maxLen := by unfold maxLen; omega
          have hsz : w9.heap.size ≤ wr.heap.size := hbr.size
          go_wp2_with (at_builtin; refine Hid.out ?_)
          refine Lib.hid ?_
          refine wpList_append_own _ rfl _ _ 36 rfl w9.heap.size 3 i0 (.int .i64 0) 1 8 Tryd.underlying36 hI hz0 hz1 hz2 rfl (by decide) _ L.length _ rfl (io.own.alloc _) ⟨wr.heap.size, 0, none⟩ 1 1 [.int .i64 xv] rfl rfl
            (World.news_of_block (cs := #[.int .i64 xv]) (t := 3) (fr := (0, 0)) (heap_alloc_new wr _)) (by simp [Value.oneCell']) hl1 (by omega) (by simp; omega) ?_
          intro v' w20 hown' hgrow _
          have hgrow2 : (wr.alloc (.cells #[.int .i64 xv] 3)).grownBy w20 u13.ownBlock := hgrow
          have hb20 : Below w9.heap.size w9 w20 := (hbr.alloc hbr.size _).grown hgrow2 (by simp; omega) (own_blk io.own)
          have io20 := Lib.hid (IntsAt.grew hown' rfl)
          clear hgrow hgrow2 hown' io hbr
          go_wp2_with fail
          go_roundw
          case rel => exact ⟨i + 1, k, _, by go_num, by go_num, by omega, by omega, HM2.out, io20.out, hb20⟩
          case measure => simp [intOf]; omega
        · by_cases hgt : Y.getD k 0 < X.getD i 0
          · have HM2 := Lib.hid (hmg.right HYP.out hk fun _ => hgt)
            have hml : L.length ≤ 122 := by have := hmg.len; omega
            clear hmg
            generalize X.getD i 0 = yv at *
            generalize Y.getD k 0 = xv at *
            go_upto_region 13 with fail
            go_quiet (fail)
            replace io := io.below (b_drewN (Below.refl _ wr) nq)
            replace hbr := b_drewN hbr nq
            replace z0 : (wr.drewN nq).cell? _ = some _ := z0
            replace z1 : (wr.drewN nq).cell? _ = some _ := z1
            generalize wr.drewN nq = wr at *
            go_upto_region 16 with fail
            go_quiet (fail)
            replace io := io.below (b_drewN (Below.refl _ wr) nq)
            replace hbr := b_drewN hbr nq
            replace z0 : (wr.drewN nq).cell? _ = some _ := z0
            replace z1 : (wr.drewN nq).cell? _ = some _ := z1
            generalize wr.drewN nq = wr at *
            have hl1 : L.length + 1 ≤ maxLen := by unfold maxLen; omega
            have hsz : w9.heap.size ≤ wr.heap.size := hbr.size
            go_wp2_with (at_builtin; refine Hid.out ?_)
            refine Lib.hid ?_
            refine wpList_append_own _ rfl _ _ 36 rfl w9.heap.size 3 i0 (.int .i64 0) 1 8 Tryd.underlying36 hI hz0 hz1 hz2 rfl (by decide) _ L.length _ rfl (io.own.alloc _) ⟨wr.heap.size, 0, none⟩ 1 1 [.int .i64 xv] rfl rfl
              (World.news_of_block (cs := #[.int .i64 xv]) (t := 3) (fr := (0, 0)) (heap_alloc_new wr _)) (by simp [Value.oneCell']) hl1 (by omega) (by simp; omega) ?_
            intro v' w20 hown' hgrow _
            have hgrow2 : (wr.alloc (.cells #[.int .i64 xv] 3)).grownBy w20 u13.ownBlock := hgrow
            have hb20 : Below w9.heap.size w9 w20 := (hbr.alloc hbr.size _).grown hgrow2 (by simp; omega) (own_blk io.own)
            have io20 := Lib.hid (IntsAt.grew hown' rfl)
            clear hgrow hgrow2 hown' io hbr
            go_wp2_with fail
            go_roundw
            case rel => exact ⟨i, k + 1, _, by go_num, by go_num, by omega, by omega, HM2.out, io20.out, hb20⟩
            case measure => simp [intOf]; omega
          · have HM2 := Lib.hid (hmg.both HXP.out HYP.out hi hk (by omega))
            have hml : L.length ≤ 122 := by have := hmg.len; omega
            clear hmg
            generalize X.getD i 0 = xv at *
            generalize Y.getD k 0 = yv at *
            go_upto_region 13 with fail
            go_quiet (fail)
            replace io := io.below (b_drewN (Below.refl _ wr) nq)
            replace hbr := b_drewN hbr nq
            replace z0 : (wr.drewN nq).cell? _ = some _ := z0
            replace z1 : (wr.drewN nq).cell? _ = some _ := z1
            generalize wr.drewN nq = wr at *
            go_upto_region 16 with fail
            go_quiet (fail)
            replace io := io.below (b_drewN (Below.refl _ wr) nq)
            replace hbr := b_drewN hbr nq
            replace z0 : (wr.drewN nq).cell? _ = some _ := z0
            replace z1 : (wr.drewN nq).cell? _ = some _ := z1
            generalize wr.drewN nq = wr at *
            have hl1 : L.length + 1 ≤ maxLen := by unfold maxLen; omega
            have hsz : w9.heap.size ≤ wr.heap.size := hbr.size
            go_wp2_with (at_builtin; refine Hid.out ?_)
            refine Lib.hid ?_
            refine wpList_append_own _ rfl _ _ 36 rfl w9.heap.size 3 i0 (.int .i64 0) 1 8 Tryd.underlying36 hI hz0 hz1 hz2 rfl (by decide) _ L.length _ rfl (io.own.alloc _) ⟨wr.heap.size, 0, none⟩ 1 1 [.int .i64 xv] rfl rfl
              (World.news_of_block (cs := #[.int .i64 xv]) (t := 3) (fr := (0, 0)) (heap_alloc_new wr _)) (by simp [Value.oneCell']) hl1 (by omega) (by simp; omega) ?_
            intro v' w20 hown' hgrow _
            have hgrow2 : (wr.alloc (.cells #[.int .i64 xv] 3)).grownBy w20 u13.ownBlock := hgrow
            have hb20 : Below w9.heap.size w9 w20 := (hbr.alloc hbr.size _).grown hgrow2 (by simp; omega) (own_blk io.own)
            have io20 := Lib.hid (IntsAt.grew hown' rfl)
            clear hgrow hgrow2 hown' io hbr
            go_wp2_with fail
            go_roundw
            case rel => exact ⟨i + 1, k + 1, _, by go_num, by go_num, by omega, by omega, HM2.out, io20.out, hb20⟩
            case measure => simp [intOf]; omega
      · have hke : ((k : Int) == (Y.length : Int)) = true := by rw [beq_iff_eq]; omega
        obtain rfl := (hA1.out (by omega)).1
        have z0 := HXC.out _ (b_then hb9 hbr) i hi
        have HM2 := Lib.hid (hmg.left HXP.out hi fun h => absurd h hk)
        have hml : L.length ≤ 122 := by have := hmg.len; omega
        clear hmg
        generalize X.getD i 0 = xv at *
        go_upto_region 13 with fail
        go_quiet (fail)
        replace io := io.below (b_drewN (Below.refl _ wr) nq)
        replace hbr := b_drewN hbr nq
        replace z0 : (wr.drewN nq).cell? _ = some _ := z0
        generalize wr.drewN nq = wr at *
        have hl1 : L.length + 1 ≤ maxLen := by unfold maxLen; omega
        have hsz : w9.heap.size ≤ wr.heap.size := hbr.size
        go_wp2_with (at_builtin; refine Hid.out ?_)
        refine Lib.hid ?_
        refine wpList_append_own _ rfl _ _ 36 rfl w9.heap.size 3 i0 (.int .i64 0) 1 8 Tryd.underlying36 hI hz0 hz1 hz2 rfl (by decide) _ L.length _ rfl (io.own.alloc _) ⟨wr.heap.size, 0, none⟩ 1 1 [.int .i64 xv] rfl rfl
          (World.news_of_block (cs := #[.int .i64 xv]) (t := 3) (fr := (0, 0)) (heap_alloc_new wr _)) (by simp [Value.oneCell']) hl1 (by omega) (by simp; omega) ?_
        intro v' w20 hown' hgrow _
        have hgrow2 : (wr.alloc (.cells #[.int .i64 xv] 3)).grownBy w20 u13.ownBlock := hgrow
        have hb20 : Below w9.heap.size w9 w20 := (hbr.alloc hbr.size _).grown hgrow2 (by simp; omega) (own_blk io.own)
        have io20 := Lib.hid (IntsAt.grew hown' rfl)
        clear hgrow hgrow2 hown' io hbr
        go_wp2_with fail
        go_roundw
        case rel => exact ⟨i + 1, k, _, by go_num, by go_num, by omega, by omega, HM2.out, io20.out, hb20⟩
        case measure => simp [intOf]; omega
    · by_cases hk : k < Y.length
      · have hke : ((k : Int) == (Y.length : Int)) = false := by rw [beq_eq_false_iff_ne]; omega
        have hie : ((i : Int) == (X.length : Int)) = true := by rw [beq_iff_eq]; omega
        obtain rfl := (hA2.out (by omega)).1
        have z1 := HYC.out _ (b_then hb9 hbr) k hk
        have HM2 := Lib.hid (hmg.right HYP.out hk fun h => absurd h hi)
        have hml : L.length ≤ 122 := by have := hmg.len; omega
        clear hmg
        generalize Y.getD k 0 = xv at *
        go_upto_region 13 with fail
        go_quiet (fail)
        replace io := io.below (b_drewN (Below.refl _ wr) nq)
        replace hbr := b_drewN hbr nq
        replace z1 : (wr.drewN nq).cell? _ = some _ := z1
        generalize wr.drewN nq = wr at *
        go_upto_region 16 with fail
        go_quiet (fail)
        replace io := io.below (b_drewN (Below.refl _ wr) nq)
        replace hbr := b_drewN hbr nq
        replace z1 : (wr.drewN nq).cell? _ = some _ := z1
        generalize wr.drewN nq = wr at *
        have hl1 : L.length + 1 ≤ maxLen := by unfold maxLen; omega
        have hsz : w9.heap.size ≤ wr.heap.size := hbr.size
        go_wp2_with (at_builtin; refine Hid.out ?_)
        refine Lib.hid ?_
        refine wpList_append_own _ rfl _ _ 36 rfl w9.heap.size 3 i0 (.int .i64 0) 1 8 Tryd.underlying36 hI hz0 hz1 hz2 rfl (by decide) _ L.length _ rfl (io.own.alloc _) ⟨wr.heap.size, 0, none⟩ 1 1 [.int .i64 xv] rfl rfl
          (World.news_of_block (cs := #[.int .i64 xv]) (t := 3) (fr := (0, 0)) (heap_alloc_new wr _)) (by simp [Value.oneCell']) hl1 (by omega) (by simp; omega) ?_
        intro v' w20 hown' hgrow _
        have hgrow2 : (wr.alloc (.cells #[.int .i64 xv] 3)).grownBy w20 u13.ownBlock := hgrow
        have hb20 : Below w9.heap.size w9 w20 := (hbr.alloc hbr.size _).grown hgrow2 (by simp; omega) (own_blk io.own)
        have io20 := Lib.hid (IntsAt.grew hown' rfl)
        clear hgrow hgrow2 hown' io hbr
        go_wp2_with fail
        go_roundw
        case rel => exact ⟨i, k + 1, _, by go_num, by go_num, by omega, by omega, HM2.out, io20.out, hb20⟩
        case measure => simp [intOf]; omega
      · obtain rfl : i = X.length := by omega
        obtain rfl : k = Y.length := by omega
        have HLE := Lib.hid (hmg.err BX.out BY.out (by omega))
        have hml : L.length ≤ 122 := by have := hmg.len; omega
        clear hmg
        go_upto_region 19 with fail
        have HASC := Lib.hid (asc_of HLE.out)
        obtain ⟨A3, p3, g3, hv3, hA3, hc3⟩ := ints_form io
        replace hA3 := Lib.hid hA3
        replace hc3 := Lib.hid hc3
        subst hv3
        have hb10 := b_then hb9 hbr
        have hbr0 := Lib.hid hbr
        clear hbr hb9
        go_cut [16, 17] from 189 to 195 (fun v e wx => e = .int .i64 0 ∧ Below wr.heap.size wr wx ∧ ∃ (l : List (Int × Int × Int)) (j : Nat), JoinTo L (wkF L) j L.length l ∧ wx.ownsRow wr.heap.size 23 3 v l.length (flat3 l))
        case first =>
          by_cases h0 : L = []
          · subst h0
            have e0 : A3 = none ∧ p3 = 0 := by
              have := io.nil.2 rfl
              simp only [Value.slice.injEq] at this
              exact ⟨this.1, this.2.2⟩
            obtain ⟨rfl, rfl⟩ := e0
            simp only [List.length_nil]
            go_wp2_with fail
            refine (Join_zero _ _ _).mono ?_
            rintro e w20 ⟨rfl, hb20⟩
            have hb21 := b_then (below_alloc wr (.cells #[] 3)) hb20
            clear hb20
            go_wp2_with fail
            go_meet
            exact ⟨rfl, hb21, [], 0, JoinTo.zero, World.ownsRow_nil _ _ _ _⟩
          · have hpos : 0 < L.length := List.length_pos_iff.2 h0
            clear h0
            obtain ⟨rfl, -⟩ := hA3.out hpos
            obtain ⟨hN, hO1⟩ := news_of (w := wr.alloc (.cells #[] 3)) (fun t ht => b_old (below_alloc wr _) (hc3.out t ht))
            have HN := Lib.hid hN
            have HO1 := Lib.hid hO1
            clear hN hO1 io
            go_wp2_with (first
              | (refine wpList_append_own _ rfl _ _ 36 rfl wr.heap.size 3 i0 (.int .i64 0) 1 8 Tryd.underlying36 hI hz0 hz1 hz2 rfl (by decide) _ 0 [] rfl (World.ownsRow_lit wr #[] 0 (Nat.le_refl _) (by unfold maxLen; omega) rfl) ⟨g3, 0, none⟩ L.length p3 (L.map (Value.int .i64)) rfl (by simp) HN.out HO1.out (by unfold maxLen; omega) (by omega) (by simp) ?_)
              | fail)
            intro v' w20 hown hgrow _
            have hb20 : Below wr.heap.size wr w20 := ((Below.refl _ wr).alloc (Nat.le_refl _) _).grown hgrow (by simp) (by intro k hk; simp only [Value.ownBlock, Option.some.injEq] at hk; omega)
            clear hgrow
            obtain ⟨g', cp, rfl⟩ := ownsRow_succ (k := L.length - 1) (by rw [Nat.sub_add_cancel hpos]; exact hown)
            rw [Nat.sub_add_cancel hpos] at hown ⊢
            have HCV : Hid (∀ j, j < L.length → w20.cell? ⟨g', 0 + j, none⟩ = some (.int .i64 (L.getD j 0))) := Lib.hid fun j hj => by
              rw [Nat.zero_add, hown.cellAt j (by omega)]
              simp [hj]
            have HFV : Hid (∀ j, j < L.length → w20.frozen? ⟨g', 0 + j, none⟩ = false) := Lib.hid fun j _ => hown.frozenAt _
            have hg9 := own_lt hown g' rfl
            have hcp : L.length ≤ cp := by
              rcases hown.2 with ⟨h, -⟩ | ⟨g2, cap', cur, h, -, -, h2, -⟩
              · cases h
              · simp only [Value.slice.injEq] at h
                omega
            clear hown HN HO1
            go_wp2_with fail
            refine (Join_ok g' 0 cp L _ hg9 HCV.out HFV.out HLE.out hcp).mono ?_
            rintro e w21 ⟨v, j, l, rfl, hj, hown5, hb21⟩
            have HJ := Lib.hid hj
            clear hj HCV HFV
            go_wp2_with fail
            go_meet
            exact ⟨rfl, b_then hb20 hb21, l, j, HJ.out, own_down hown5 hb20.size⟩
        case rest =>
        obtain ⟨rfl, hb11, l, j, hj, hown⟩ := hcut
        have hlen := JoinTo.len HASC.out.1 hj
        have HVAL := Lib.hid (hj.valid HASC.out.1)
        have HALL : Hid (allDays l = L) := Lib.hid (by rw [(hj.days HASC.out.1).2, List.take_length])
        have HRD := Lib.hid (hj.read HASC.out.1).1
        obtain ⟨A5, cp5, g5, rfl, hA5, HCE⟩ := per_form hown
        replace HCE := Lib.hid HCE
        replace hA5 := Lib.hid hA5
        have HC3 : Hid (∀ W', Below wc.heap.size wc W' → ∀ t, t < L.length → W'.cell? ⟨g3, t, none⟩ = some (.int .i64 (L.getD t 0))) := Lib.hid fun W' h t ht => b_old (b_then hb11 h) (hc3.out t ht)
        have hb12 := b_then hb10 hb11
        have HB12 := Lib.hid hb12
        clear hj hown io HASC HLE hb10 hb11 hb12 hc3 hbr0 BY HYP HYC hA2
        go_upto_region 24 with fail
        rw [show decide (L.length < l.length) = false from decide_eq_false (by omega)]
        go_loopw [18, 207] (fun v iv wq => ∃ t : Nat, t ≤ l.length ∧ iv = .int .i64 t ∧ IntsAt wq wc.heap.size v (allDays (l.take t)) ∧ Below wc.heap.size wc wq) (fun _ iv _ => l.length - (intOf iv).toNat)
        case atStart => exact ⟨0, Nat.zero_le _, rfl, by simpa [allDays] using nilInts wc _, Below.refl _ _⟩
        case round =>
          obtain ⟨t, ht, rfl, io, hbq⟩ := hrel
          by_cases hlt : t < l.length
          · obtain rfl := hA5.out (by omega)
            obtain ⟨z0, z1, z2⟩ := HCE.out t hlt
            replace z0 := b_old hbq z0
            replace z1 := b_old hbq z1
            replace z2 := b_old hbq z2
            obtain ⟨v0, v1, v2, v3, v4, v5⟩ := HVAL.out _ (show l.getD t (0, 0, 0) ∈ l by rw [List.getD_eq_getElem?_getD, List.getElem?_eq_getElem hlt]; exact List.getElem_mem hlt)
            obtain ⟨k0, cn, d1, d2, d3, d4, d5, d6⟩ := HRD.out t hlt
            have HPREV : Hid (∀ s, t = s + 1 → wr.cell? ⟨g5, s * 3 + 1, none⟩ = some (.int .i64 (l.getD s (0, 0, 0)).2.1) ∧ (l.getD s (0, 0, 0)).2.1 < (l.getD t (0, 0, 0)).1) := Lib.hid fun s hs => by
              subst hs
              refine ⟨b_old hbq (HCE.out s (by omega)).2.1, ?_⟩
              have := d6 (by omega)
              rw [d3]
              simpa using this
            obtain ⟨D, HDE⟩ : ∃ D, Hid (daysL (l.getD t (0, 0, 0)).1 (l.getD t (0, 0, 0)).2.1 (l.getD t (0, 0, 0)).2.2 = D) := ⟨_, Lib.hid rfl⟩
            have HDL : Hid (D.length = cn ∧ D.getD 0 0 = (l.getD t (0, 0, 0)).1 ∧ D.getD (cn - 1) 0 = (l.getD t (0, 0, 0)).2.1) := Lib.hid (by
              rw [← HDE.out, d5, d3, d4]
              have hl : ((L.drop k0).take cn).length = cn := by simp; omega
              refine ⟨hl, ?_, ?_⟩
              · rw [List.getD_eq_getElem?_getD, List.getElem?_take, if_pos (by omega), List.getElem?_drop, ← List.getD_eq_getElem?_getD]; rfl
              · rw [List.getD_eq_getElem?_getD, List.getElem?_take, if_pos (by omega), List.getElem?_drop, ← List.getD_eq_getElem?_getD]
                congr 1; omega)
            have HAS : Hid (allDays (l.take (t + 1)) = allDays (l.take t) ++ D) := Lib.hid (by
              rw [← HDE.out]
              unfold allDays
              rw [List.take_succ_eq_append_getElem hlt, List.map_append, List.flatten_append]
              simp [hlt])
            have hpre : (allDays (l.take t)).length + D.length ≤ L.length := by
              have e : (allDays (l.take (t + 1))).length ≤ (allDays l).length := by
                conv => rhs; rw [← List.take_append_drop (t + 1) l]
                unfold allDays
                rw [List.map_append, List.flatten_append, List.length_append]
                omega
              rw [HAS.out, List.length_append, HALL.out] at e
              exact e
            clear d3 d4 d5 d6
            generalize (l.getD t (0, 0, 0)).1 = e0 at *
            generalize (l.getD t (0, 0, 0)).2.1 = e1 at *
            generalize (l.getD t (0, 0, 0)).2.2 = e2 at *
            go_wp2_with fail
            refine (DaysOf_ok e0 e1 e2 _ (perErr_mk v0 v1 v2 v3 v4 v5)).mono ?_
            rintro e w22 ⟨v6, rfl, i6, hb22⟩
            rw [HDE.out] at i6
            have q0 := b_old hb22 (show (wr.alloc (.cells #[.int .i64 e0, .int .i64 e1, .int .i64 e2] 23)).cell? ⟨wr.heap.size, 0, none⟩ = some (.int .i64 e0) by simp)
            have q1 := b_old hb22 (show (wr.alloc (.cells #[.int .i64 e0, .int .i64 e1, .int .i64 e2] 23)).cell? ⟨wr.heap.size, 1, none⟩ = some (.int .i64 e1) by simp)
            have hbx := b_then (below_alloc wr (.cells #[.int .i64 e0, .int .i64 e1, .int .i64 e2] 23)) hb22
            replace io := io.below hbx
            have hbq2 := b_then hbq hbx
            have HPR2 : Hid (∀ s, t = s + 1 → ∃ pv, w22.cell? ⟨g5, s * 3 + 1, none⟩ = some (.int .i64 pv) ∧ pv < e0) := Lib.hid fun s hs => ⟨_, b_old hbx (HPREV.out s hs).1, (HPREV.out s hs).2⟩
            clear z0 z1 z2 hb22 hbx hbq HPREV
            obtain ⟨A6, p6, g6, hv6, hA6, hc6⟩ := ints_form i6
            obtain ⟨dl, dz, de⟩ := HDL.out
            obtain ⟨rfl, -⟩ := hA6 (by omega)
            have m0 := hc6 0 (by omega)
            have m1 := hc6 (cn - 1) (by omega)
            rw [dz] at m0
            rw [de] at m1
            have HC6 := Lib.hid hc6
            obtain ⟨cm, rfl⟩ : ∃ cm, cn = cm + 1 := ⟨cn - 1, by omega⟩
            rw [Nat.add_sub_cancel] at m1
            rw [dl] at hv6
            subst hv6
            have hcm : cm ≤ 121 := by omega
            have hc0 : ((cm : Int) + 1 == 0) = false := by rw [beq_eq_false_iff_ne]; omega
            have hcw : IntKind.i64.wrap (cm : Int) = cm := wrap_small _ (by omega) (by omega)
            obtain ⟨P, HPE⟩ : ∃ P, Hid (allDays (l.take t) = P) := ⟨_, Lib.hid rfl⟩
            have HAS2 : Hid (allDays (l.take (t + 1)) = P ++ D) := Lib.hid (by rw [HAS.out, HPE.out])
            rw [HPE.out] at io hpre
            clear hc6 hA6 dz de i6 HAS HPE
            cases t with
            | zero =>
              clear HPR2
              go_upto_region 27 with fail
              go_quiet (fail)
              replace io := io.below (b_drewN (Below.refl _ w22) nq)
              replace hbq2 := b_drewN hbq2 nq
              obtain ⟨hN, hO1⟩ := news_of (fun t ht => b_old (b_drewN (Below.refl _ w22) nq) (HC6.out t ht))
              have HN := Lib.hid hN
              have HO1 := Lib.hid hO1
              clear hN hO1 HC6 q0 q1 m0 m1
              generalize w22.drewN nq = w23 at *
              have hown := io.own
              have hbk := own_blk io.own
              clear io
              go_wp2_with (at_builtin; refine Hid.out ?_)
              refine Lib.hid ?_
              refine wpList_append_own _ rfl _ _ 36 rfl wc.heap.size 3 i0 (.int .i64 0) 1 8 Tryd.underlying36 hI hz0 hz1 hz2 rfl (by decide) _ P.length _ rfl hown ⟨g6, 0, none⟩ (cm + 1) p6 (D.map (Value.int .i64)) rfl (by simp [dl]) HN.out HO1.out (by unfold maxLen; omega) (by omega) hbq2.size ?_
              intro v' w24 hown' hgrow _
              have hb24 : Below wc.heap.size wc w24 := hbq2.grown hgrow hbq2.size hbk
              clear hgrow hown
              have io24 : IntsAt w24 wc.heap.size v' (allDays (l.take (0 + 1))) := by
                rw [HAS2.out]
                refine ⟨?_, ?_⟩
                · rw [List.length_append, dl, List.map_append]; exact hown'
                · constructor
                  · intro h
                    rw [h] at hown'
                    have := hown'.2
                    rcases this with ⟨-, h2⟩ | ⟨g9, c9, u9, h2, -⟩
                    · omega
                    · cases h2
                  · intro h
                    have := congrArg List.length h
                    rw [List.length_append, dl, List.length_nil] at this
                    omega
              have IO24 := Lib.hid io24
              clear io24 hown'
              go_wp2_with fail
              go_roundw
              case rel => exact ⟨0 + 1, by omega, by go_num, IO24.out, hb24⟩
              case measure => simp [intOf]; omega
            | succ s =>
              obtain ⟨pv, m2, hpv⟩ := HPR2.out s rfl
              clear HPR2
              go_upto_region 27 with fail
              go_quiet (fail)
              replace io := io.below (b_drewN (Below.refl _ w22) nq)
              replace hbq2 := b_drewN hbq2 nq
              obtain ⟨hN, hO1⟩ := news_of (fun t ht => b_old (b_drewN (Below.refl _ w22) nq) (HC6.out t ht))
              have HN := Lib.hid hN
              have HO1 := Lib.hid hO1
              clear hN hO1 HC6 q0 q1 m0 m1 m2
              generalize w22.drewN nq = w23 at *
              have hown := io.own
              have hbk := own_blk io.own
              clear io
              go_wp2_with (at_builtin; refine Hid.out ?_)
              refine Lib.hid ?_
              refine wpList_append_own _ rfl _ _ 36 rfl wc.heap.size 3 i0 (.int .i64 0) 1 8 Tryd.underlying36 hI hz0 hz1 hz2 rfl (by decide) _ P.length _ rfl hown ⟨g6, 0, none⟩ (cm + 1) p6 (D.map (Value.int .i64)) rfl (by simp [dl]) HN.out HO1.out (by unfold maxLen; omega) (by omega) hbq2.size ?_
              intro v' w24 hown' hgrow _
              have hb24 : Below wc.heap.size wc w24 := hbq2.grown hgrow hbq2.size hbk
              clear hgrow hown
              have io24 : IntsAt w24 wc.heap.size v' (allDays (l.take ((s + 1) + 1))) := by
                rw [HAS2.out]
                refine ⟨?_, ?_⟩
                · rw [List.length_append, dl, List.map_append]; exact hown'
                · constructor
                  · intro h
                    rw [h] at hown'
                    have := hown'.2
                    rcases this with ⟨-, h2⟩ | ⟨g9, c9, u9, h2, -⟩
                    · omega
                    · cases h2
                  · intro h
                    have := congrArg List.length h
                    rw [List.length_append, dl, List.length_nil] at this
                    omega
              have IO24 := Lib.hid io24
              clear io24 hown'
              go_wp2_with fail
              go_roundw
              case rel => exact ⟨(s + 1) + 1, by omega, by go_num, IO24.out, hb24⟩
              case measure => simp [intOf]; omega
          · have hte : allDays (l.take t) = L := by rw [List.take_of_length_le (by omega)]; exact HALL.out
            rw [hte] at io
            clear hte HALL HVAL HCE hA5 HRD
            obtain ⟨A7, p7, g7, hv7, hA7, hc7⟩ := ints_form io
            subst hv7
            replace hA7 := Lib.hid hA7
            replace hc7 := Lib.hid hc7
            clear io
            have hb30 := b_then HB12.out hbq
            go_wp2_with fail
            refine (SameInts_list L _ _ _ _ g7 g3 _ (fun h => (hA7.out h).1) (fun h => (hA3.out h).1) hc7.out (HC3.out _ hbq) (by omega)).mono ?_
            rintro e w30 ⟨rfl, qn, rfl⟩
            replace hb30 := b_drewN hb30 qn
            clear hbq hc7 hA7 hA3 HC3
            generalize wr.drewN qn = w31 at *
            obtain ⟨q0, q1, q2⟩ := CA.out _ (b_then HBW.out hb30)
            obtain ⟨s0, s1, s2, s3, s4, s5, se, hS, hcase⟩ := Split_two a b m day HA.out x1 x3
            replace hS := Lib.hid hS
            go_wp2_with fail
            refine (hS.out _).mono ?_
            rintro e w32 ⟨rfl, hb32⟩
            replace hb32 := b_then hb30 hb32
            clear hb30 q0 q1 q2 hS
            go_upto_if 273 with fail
            go_cut [25, 26, 27, 28] from 274 to 299 (fun z1 z2 z3 z4 wx => Below w7.heap.size w7 wx)
            case first =>
              rcases hcase with rfl | ⟨rfl, t1, t2, rfl, rfl, rfl, rfl, rfl, rfl⟩
              · go_wp2_with fail
                go_meet
                exact b_then hb32 (below_alloc _ _)
              · go_wp2_with fail
                refine (DaysOf_ok a (day - 1) m _ (perErr_mk x1 (by omega) (by omega) (by omega) x5 x6)).mono ?_
                rintro e w33 ⟨v7, rfl, i7, hb33⟩
                have n3 := b_old hb33 (show (w32.alloc (.cells #[.int .i64 a, .int .i64 (day - 1), .int .i64 m, .int .i64 day, .int .i64 b, .int .i64 m] 25)).cell? ⟨w32.heap.size, 3, none⟩ = some (.int .i64 day) by simp)
                have n4 := b_old hb33 (show (w32.alloc (.cells #[.int .i64 a, .int .i64 (day - 1), .int .i64 m, .int .i64 day, .int .i64 b, .int .i64 m] 25)).cell? ⟨w32.heap.size, 4, none⟩ = some (.int .i64 b) by simp)
                have n5 := b_old hb33 (show (w32.alloc (.cells #[.int .i64 a, .int .i64 (day - 1), .int .i64 m, .int .i64 day, .int .i64 b, .int .i64 m] 25)).cell? ⟨w32.heap.size, 5, none⟩ = some (.int .i64 m) by simp)
                replace hb33 := b_then hb32 (b_then (below_alloc _ _) hb33)
                clear hb32
                go_wp2_with fail
                refine (DaysOf_ok day b m _ (perErr_mk (by omega) (by omega) (by omega) (by omega) x5 x6)).mono ?_
                rintro e w34 ⟨v8, rfl, i8, hb34⟩
                replace i7 := i7.below hb34
                have hb35 := b_then hb33 hb34
                clear hb33 hb34 n3 n4 n5
                have HSD : Hid (daysL a (day - 1) m ++ daysL day b m = X) := Lib.hid (by rw [← HXE.out]; exact split_days a b m day t1 t2)
                have hDL : (daysL a (day - 1) m).length + (daysL day b m).length = X.length := by rw [← HSD.out, List.length_append]
                generalize daysL a (day - 1) m = D1 at *
                generalize daysL day b m = D2 at *
                obtain ⟨A8, p8, g8, hv8, hA8, hc8⟩ := ints_form i7
                obtain ⟨A9, p9, g9, hv9, hA9, hc9⟩ := ints_form i8
                subst hv8
                subst hv9
                replace hc8 := Lib.hid hc8
                replace hc9 := Lib.hid hc9
                by_cases hd1 : D1 = []
                · by_cases hd2 : D2 = []
                  · skip
                    obtain rfl : X = [] := by have := HSD.out; rw [hd1, hd2] at this; exact this.symm
                    obtain ⟨rfl, rfl⟩ : A8 = none ∧ p8 = 0 := by
                      have := i7.nil.2 hd1
                      simp only [Value.slice.injEq] at this
                      exact ⟨this.1, this.2.2⟩
                    obtain ⟨rfl, rfl⟩ : A9 = none ∧ p9 = 0 := by
                      have := i8.nil.2 hd2
                      simp only [Value.slice.injEq] at this
                      exact ⟨this.1, this.2.2⟩
                    subst hd1
                    subst hd2
                    have hbz := b_then hb35 (below_alloc w34 (.cells #[] 3))
                    simp only [List.length_nil]
                    go_wp2_with fail
                    refine (SameInts_zero _ _ _ _ _).mono ?_
                    rintro e w50 ⟨rfl, qz, rfl⟩
                    go_wp2_with fail
                    go_meet
                    exact b_drewN hbz qz
                  · skip
                    have p9' : 0 < D2.length := List.length_pos_iff.2 hd2
                    obtain ⟨rfl, -⟩ := hA9 p9'
                    obtain ⟨rfl, rfl⟩ : A8 = none ∧ p8 = 0 := by
                      have := i7.nil.2 hd1
                      simp only [Value.slice.injEq] at this
                      exact ⟨this.1, this.2.2⟩
                    subst hd1
                    simp only [List.length_nil]

                    obtain ⟨hN9, hO9⟩ := news_of (w := w34.alloc (.cells #[] 3)) (fun t ht => b_old (below_alloc w34 _) (hc9.out t ht))
                    replace hN9 := Lib.hid hN9
                    replace hO9 := Lib.hid hO9

                    go_wp2_with (first
                      | (refine wpList_append_g _ rfl _ _ 36 rfl w34.heap.size 3 i0 (.int .i64 0) 1 8 Tryd.underlying36 hI hz0 hz1 hz2 rfl (by decide) _ 0 [] rfl (World.ownsRow_lit w34 #[] 0 (Nat.le_refl _) (by unfold maxLen; omega) rfl) ⟨g9, 0, none⟩ D2.length p9 (D2.map (Value.int .i64)) rfl (by simp) hN9.out hO9.out (by unfold maxLen; omega) (by omega) (by simp) ?_)
                      | fail)
                    intro v20 w35 hown20 hgrow20
                    have hb20 : Below w34.heap.size w34 w35 := ((Below.refl _ w34).alloc (Nat.le_refl _) _).grown hgrow20 (by simp) (by intro k hk; simp only [Value.ownBlock, Option.some.injEq] at hk; omega)
                    clear hgrow20
                    have io21 : IntsAt w35 w34.heap.size v20 X := by
                      rw [← HSD.out, List.nil_append]
                      refine ⟨?_, ?_⟩
                      · simpa using hown20
                      · constructor
                        · intro h
                          rcases hown20.2 with ⟨-, h2⟩ | ⟨g9, c9, u9, h2, -⟩
                          · omega
                          · rw [h] at h2; cases h2
                        · intro h
                          exact absurd h hd2
                    clear hown20

                    obtain ⟨A10, p10, g10, hv10, hA10, hc10⟩ := ints_form io21
                    have hcap : X.length ≤ p10 := by
                      rcases (io21).own.2 with ⟨h1, h2⟩ | ⟨g2, cap2, cur2, h1, -, -, h2, -⟩
                      · omega
                      · rw [hv10] at h1
                        simp only [Value.slice.injEq] at h1
                        omega
                    subst hv10
                    obtain ⟨rfl, -⟩ := hA10 (by omega)
                    have hbz : Below w7.heap.size w7 w35 := b_then hb35 hb20
                    go_wp2_with fail
                    refine (SameInts_list X _ _ _ _ g10 g1 _ (fun _ => rfl) (fun h => (hA1.out h).1) hc10 (HXC.out _ hbz) (by omega)).mono ?_
                    rintro e w50 ⟨rfl, qz, rfl⟩
                    go_wp2_with fail
                    go_meet
                    exact b_drewN hbz qz
                · by_cases hd2 : D2 = []
                  · skip
                    have p8' : 0 < D1.length := List.length_pos_iff.2 hd1
                    obtain ⟨rfl, -⟩ := hA8 p8'
                    obtain ⟨rfl, rfl⟩ : A9 = none ∧ p9 = 0 := by
                      have := i8.nil.2 hd2
                      simp only [Value.slice.injEq] at this
                      exact ⟨this.1, this.2.2⟩
                    subst hd2
                    simp only [List.length_nil]

                    obtain ⟨hN8, hO8⟩ := news_of (w := w34.alloc (.cells #[] 3)) (fun t ht => b_old (below_alloc w34 _) (hc8.out t ht))
                    replace hN8 := Lib.hid hN8
                    replace hO8 := Lib.hid hO8

                    go_wp2_with (first
                      | (refine wpList_append_g _ rfl _ _ 36 rfl w34.heap.size 3 i0 (.int .i64 0) 1 8 Tryd.underlying36 hI hz0 hz1 hz2 rfl (by decide) _ 0 [] rfl (World.ownsRow_lit w34 #[] 0 (Nat.le_refl _) (by unfold maxLen; omega) rfl) ⟨g8, 0, none⟩ D1.length p8 (D1.map (Value.int .i64)) rfl (by simp) hN8.out hO8.out (by unfold maxLen; omega) (by omega) (by simp) ?_)
                      | fail)
                    intro v20 w35 hown20 hgrow20
                    have hb20 : Below w34.heap.size w34 w35 := ((Below.refl _ w34).alloc (Nat.le_refl _) _).grown hgrow20 (by simp) (by intro k hk; simp only [Value.ownBlock, Option.some.injEq] at hk; omega)
                    clear hgrow20
                    have io21 : IntsAt w35 w34.heap.size v20 X := by
                      rw [← HSD.out, List.append_nil]
                      refine ⟨?_, ?_⟩
                      · simpa using hown20
                      · constructor
                        · intro h
                          rcases hown20.2 with ⟨-, h2⟩ | ⟨g9, c9, u9, h2, -⟩
                          · omega
                          · rw [h] at h2; cases h2
                        · intro h
                          exact absurd h hd1
                    clear hown20

                    obtain ⟨A10, p10, g10, hv10, hA10, hc10⟩ := ints_form io21
                    have hcap : X.length ≤ p10 := by
                      rcases (io21).own.2 with ⟨h1, h2⟩ | ⟨g2, cap2, cur2, h1, -, -, h2, -⟩
                      · omega
                      · rw [hv10] at h1
                        simp only [Value.slice.injEq] at h1
                        omega
                    subst hv10
                    obtain ⟨rfl, -⟩ := hA10 (by omega)
                    have hbz : Below w7.heap.size w7 w35 := b_then hb35 hb20
                    go_wp2_with fail
                    refine (SameInts_list X _ _ _ _ g10 g1 _ (fun _ => rfl) (fun h => (hA1.out h).1) hc10 (HXC.out _ hbz) (by omega)).mono ?_
                    rintro e w50 ⟨rfl, qz, rfl⟩
                    go_wp2_with fail
                    go_meet
                    exact b_drewN hbz qz
                  · skip
                    have p8' : 0 < D1.length := List.length_pos_iff.2 hd1
                    have p9' : 0 < D2.length := List.length_pos_iff.2 hd2
                    obtain ⟨rfl, -⟩ := hA8 p8'
                    obtain ⟨rfl, -⟩ := hA9 p9'

                    obtain ⟨hN8, hO8⟩ := news_of (w := w34.alloc (.cells #[] 3)) (fun t ht => b_old (below_alloc w34 _) (hc8.out t ht))
                    replace hN8 := Lib.hid hN8
                    replace hO8 := Lib.hid hO8

                    go_wp2_with (first
                      | (refine wpList_append_g _ rfl _ _ 36 rfl w34.heap.size 3 i0 (.int .i64 0) 1 8 Tryd.underlying36 hI hz0 hz1 hz2 rfl (by decide) _ 0 [] rfl (World.ownsRow_lit w34 #[] 0 (Nat.le_refl _) (by unfold maxLen; omega) rfl) ⟨g8, 0, none⟩ D1.length p8 (D1.map (Value.int .i64)) rfl (by simp) hN8.out hO8.out (by unfold maxLen; omega) (by omega) (by simp) ?_)
                      | fail)
                    intro v20 w35 hown20 hgrow20
                    have hb20 : Below w34.heap.size w34 w35 := ((Below.refl _ w34).alloc (Nat.le_refl _) _).grown hgrow20 (by simp) (by intro k hk; simp only [Value.ownBlock, Option.some.injEq] at hk; omega)
                    clear hgrow20

                    obtain ⟨hN9, hO9⟩ := news_of (w := w35) (fun t ht => b_old hb20 (hc9.out t ht))
                    replace hN9 := Lib.hid hN9
                    replace hO9 := Lib.hid hO9

                    have HO20 : Hid (w35.ownsRow w34.heap.size 3 1 v20 D1.length (D1.map (Value.int .i64))) := Lib.hid (by simpa using hown20)
                    clear hown20
                    go_wp2_with (at_builtin; refine Hid.out ?_)
                    refine Lib.hid ?_
                    refine wpList_append_g _ rfl _ _ 36 rfl w34.heap.size 3 i0 (.int .i64 0) 1 8 Tryd.underlying36 hI hz0 hz1 hz2 rfl (by decide) _ D1.length _ rfl HO20.out ⟨g9, 0, none⟩ D2.length p9 (D2.map (Value.int .i64)) rfl (by simp) hN9.out hO9.out (by unfold maxLen; omega) (by omega) hb20.size ?_
                    intro v21 w36 hown21 hgrow21
                    have hb21 : Below w34.heap.size w34 w36 := hb20.grown hgrow21 hb20.size (own_blk HO20.out)
                    clear hgrow21 HO20
                    have io21 : IntsAt w36 w34.heap.size v21 X := by
                      rw [← HSD.out]
                      refine ⟨?_, ?_⟩
                      · rw [List.length_append, List.map_append]
                        simpa using hown21
                      · constructor
                        · intro h
                          rcases hown21.2 with ⟨-, h2⟩ | ⟨g9, c9, u9, h2, -⟩
                          · omega
                          · rw [h] at h2; cases h2
                        · intro h
                          have := congrArg List.length h
                          rw [List.length_append, List.length_nil] at this
                          omega
                    clear hown21

                    obtain ⟨A10, p10, g10, hv10, hA10, hc10⟩ := ints_form io21
                    have hcap : X.length ≤ p10 := by
                      rcases (io21).own.2 with ⟨h1, h2⟩ | ⟨g2, cap2, cur2, h1, -, -, h2, -⟩
                      · omega
                      · rw [hv10] at h1
                        simp only [Value.slice.injEq] at h1
                        omega
                    subst hv10
                    obtain ⟨rfl, -⟩ := hA10 (by omega)
                    have hbz : Below w7.heap.size w7 w36 := b_then hb35 hb21
                    go_wp2_with fail
                    refine (SameInts_list X _ _ _ _ g10 g1 _ (fun _ => rfl) (fun h => (hA1.out h).1) hc10 (HXC.out _ hbz) (by omega)).mono ?_
                    rintro e w50 ⟨rfl, qz, rfl⟩
                    go_wp2_with fail
                    go_meet
                    exact b_drewN hbz qz
            case rest =>
            clear hb32 hcase
            obtain ⟨n, rfl⟩ := Int.eq_ofNat_of_zero_le (show 0 ≤ m by omega)
            obtain ⟨sh, hsh⟩ : ∃ sh : Nat, by' % 7 = (sh : Int) := ⟨(by' % 7).toNat, by omega⟩
            have HSH := Lib.hid hsh
            have hsh7 : sh < 7 := by omega
            clear hsh
            obtain ⟨q0, q1, q2⟩ := CA.out _ (b_then HBW.out hcut)
            go_wp2_with fail
            refine (Shift_in a b by' n sh _ HA.out x1 (by omega) (by omega) x3 (by omega) (by omega) (by omega) HSH.out).mono ?_
            rintro e w40 ⟨rfl, hb40⟩
            replace q0 := b_old hb40 q0
            replace q1 := b_old hb40 q1
            replace hb40 := b_then hcut hb40
            clear hcut q2
            by_cases hok : 0 ≤ a + by' ∧ b + by' ≤ 99999
            · rw [if_pos hok]
              have hrn := refN_lt n (by omega) sh hsh7
              have HSHD := Lib.hid (shift_days a b by' n sh (by omega) HSH.out)
              generalize refN n sh 7 = rn at *
              clear q0 q1
              go_wp2_with fail
              refine (DaysOf_ok (a + by') (b + by') (rn : Int) _ (perErr_mk (by omega) (by omega) (by omega) (by omega) (by omega) (by omega))).mono ?_
              rintro e w41 ⟨v11, rfl, i11, hb41⟩
              rw [HSHD.out, HXE.out] at i11
              have hb42 := b_then hb40 (b_then (below_alloc _ _) hb41)
              clear hb40 hb41
              obtain ⟨A11, p11, g11, hv11, hA11, hc11⟩ := ints_form i11
              rw [List.length_map] at hv11 hA11 hc11
              subst hv11
              have HC11 : Hid (∀ t, t < X.length → w41.cell? ⟨g11, t, none⟩ = some (.int .i64 (X.getD t 0 + by'))) := Lib.hid fun t ht => by
                rw [hc11 t ht]; simp [ht]
              have HXC2 := Lib.hid (HXC.out _ hb42)
              replace hA11 := Lib.hid hA11
              clear i11 hc11
              have HB42 := Lib.hid hb42
              clear hb42
              go_upto_region 46 with fail
              go_loopw [340] (fun iv wq => ∃ t : Nat, t ≤ X.length ∧ iv = .int .i64 t ∧ ∃ q, wq = w41.drewN q) (fun iv _ => X.length - (intOf iv).toNat)
              case atStart => exact ⟨0, Nat.zero_le _, rfl, 0, rfl⟩
              case round =>
                obtain ⟨t, ht, rfl, q, rfl⟩ := hrel
                by_cases hlt : t < X.length
                · obtain ⟨rfl, -⟩ := hA11.out (by omega)
                  obtain ⟨rfl, -⟩ := hA1.out (by omega)
                  have z0 := HC11.out t hlt
                  have z1 := HXC2.out t hlt
                  have hxb := BX.out (X.getD t 0) (by rw [List.getD_eq_getElem?_getD, List.getElem?_eq_getElem hlt]; exact List.getElem_mem hlt)
                  generalize X.getD t 0 = xv at *
                  go_wp2_with fail
                  go_quiet (fail)
                  go_wp2_with fail
                  go_roundw
                  case rel => exact ⟨t + 1, by omega, by go_num, q + nq, by first | rfl | rw [World.drewN_drewN]⟩
                  case measure => simp [intOf]; omega
                · go_wp2_with fail
                  go_ret
                  exact ⟨rfl, b_drewN (b_then HL.out HB42.out) q⟩
            · rw [if_neg hok, show zeroPer = .agg #[.int .i64 0, .int .i64 0, .int .i64 0] from rfl]
              replace q0 := cell_al (.cells #[.int .i64 0, .int .i64 0, .int .i64 0] 23) q0
              replace q1 := cell_al (.cells #[.int .i64 0, .int .i64 0, .int .i64 0] 23) q1
              have hb43 := b_then HL.out (b_then hb40 (below_alloc _ (.cells #[.int .i64 0, .int .i64 0, .int .i64 0] 23)))
              clear hb40
              by_cases hn1 : a + by' < 0
              · go_wp2_with fail
                go_ret
                exact ⟨rfl, hb43⟩
              · have hn2 : 99999 < b + by' := by omega
                go_wp2_with fail
                go_ret
                exact ⟨rfl, hb43⟩
end Go.Proofs.YtoaimgfekbnijaaDoor
