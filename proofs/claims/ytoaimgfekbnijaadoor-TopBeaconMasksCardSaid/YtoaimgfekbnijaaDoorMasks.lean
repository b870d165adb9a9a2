/- The walk of TopBeaconMasks. -/
import Derived.Test.YtoaimgfekbnijaaDoorBeacon2
import Derived.Test.YtoaimgfekbnijaaDoorDaysM
import Derived.Test.YtoaimgfekbnijaaDoorJoinAll
import Derived.Test.YtoaimgfekbnijaaDoorHasAll
import Derived.Test.YtoaimgfekbnijaaDoorMeet
import Derived.Test.YtoaimgfekbnijaaDoorCount
import Derived.Test.YtoaimgfekbnijaaDoorSamePer
import Derived.Test.YtoaimgfekbnijaaDoorParts2
import Derived.Lib.MinMax
import Derived.Laws.AppendOwn
import Derived.OwnWalk
import Derived.Deep.CutRange
import Derived.Deep.DeepCutAuto
namespace Go.Proofs.YtoaimgfekbnijaaDoor
open Go Go.RowKit
theorem IntsAt.none (w : World) (base : Nat) : IntsAt w base (.slice none 0 0) [] := ⟨World.ownsRow_nil _ _ _ _, by simp⟩
theorem daysL_len61 {a b m : Int} (h : b - a ≤ 60) : (daysL a b m).length ≤ 61 := by
  unfold daysL
  exact Nat.le_trans (upto_len a b m _) (by omega)
/-- The three sums, t of them reckoned, and the three masks. -/
structure SumSt (wr wq : World) (o u c n0 n1 n2 : Int) (t : Nat) : Prop where
  b : Below wr.heap.size wr wq
  s0 : wq.cell? ⟨wr.heap.size, 0, none⟩ = some (.int .i64 (if 0 < t then n0 else 0))
  s1 : wq.cell? ⟨wr.heap.size, 1, none⟩ = some (.int .i64 (if 1 < t then n1 else 0))
  s2 : wq.cell? ⟨wr.heap.size, 2, none⟩ = some (.int .i64 (if 2 < t then n2 else 0))
  f0 : wq.frozen? ⟨wr.heap.size, 0, none⟩ = false
  f1 : wq.frozen? ⟨wr.heap.size, 1, none⟩ = false
  f2 : wq.frozen? ⟨wr.heap.size, 2, none⟩ = false
  m0 : wq.cell? ⟨wr.heap.size + 1, 0, none⟩ = some (.int .i64 o)
  m1 : wq.cell? ⟨wr.heap.size + 1, 1, none⟩ = some (.int .i64 u)
  m2 : wq.cell? ⟨wr.heap.size + 1, 2, none⟩ = some (.int .i64 c)
theorem SumSt.below {wr wq w' : World} {o u c n0 n1 n2 : Int} {t : Nat} (h : SumSt wr wq o u c n0 n1 n2 t) (hb : Below wq.heap.size wq w') : SumSt wr w' o u c n0 n1 n2 t :=
  ⟨b_then h.b hb, b_old hb h.s0, b_old hb h.s1, b_old hb h.s2, b_frozen hb h.s0 h.f0, b_frozen hb h.s1 h.f1, b_frozen hb h.s2 h.f2, b_old hb h.m0, b_old hb h.m1, b_old hb h.m2⟩
theorem SumSt.put0 {wr wq : World} {o u c n0 n1 n2 : Int} (h : SumSt wr wq o u c n0 n1 n2 0) : SumSt wr (wq.setCell ⟨wr.heap.size, 0, none⟩ (.int .i64 n0)) o u c n0 n1 n2 1 :=
  ⟨h.b.setCell (p := ⟨wr.heap.size, 0, none⟩) (Nat.le_refl _) _, set_same h.s0, set_other h.s1 (by simp), set_other h.s2 (by simp), by simp [h.f0], by simp [h.f1], by simp [h.f2], set_other h.m0 (by simp), set_other h.m1 (by simp), set_other h.m2 (by simp)⟩
theorem SumSt.put1 {wr wq : World} {o u c n0 n1 n2 : Int} (h : SumSt wr wq o u c n0 n1 n2 1) : SumSt wr (wq.setCell ⟨wr.heap.size, 1, none⟩ (.int .i64 n1)) o u c n0 n1 n2 2 :=
  ⟨h.b.setCell (p := ⟨wr.heap.size, 1, none⟩) (Nat.le_refl _) _, set_other h.s0 (by simp), set_same h.s1, set_other h.s2 (by simp), by simp [h.f0], by simp [h.f1], by simp [h.f2], set_other h.m0 (by simp), set_other h.m1 (by simp), set_other h.m2 (by simp)⟩
theorem SumSt.put2 {wr wq : World} {o u c n0 n1 n2 : Int} (h : SumSt wr wq o u c n0 n1 n2 2) : SumSt wr (wq.setCell ⟨wr.heap.size, 2, none⟩ (.int .i64 n2)) o u c n0 n1 n2 3 :=
  ⟨h.b.setCell (p := ⟨wr.heap.size, 2, none⟩) (Nat.le_refl _) _, set_other h.s0 (by simp), set_other h.s1 (by simp), set_same h.s2, by simp [h.f0], by simp [h.f1], by simp [h.f2], set_other h.m0 (by simp), set_other h.m1 (by simp), set_other h.m2 (by simp)⟩
theorem SumSt.skip2 {wr wq : World} {o u c n0 n1 n2 : Int} (h : SumSt wr wq o u c n0 n1 n2 2) (hz : n2 = 0) : SumSt wr wq o u c n0 n1 n2 3 := by
  subst hz
  exact ⟨h.b, h.s0, h.s1, h.s2, h.f0, h.f1, h.f2, h.m0, h.m1, h.m2⟩
theorem sum_start (wr : World) (o u c n0 n1 n2 : Int) : ∃ V, Hid ((wr.alloc (.cells #[.int .i64 0, .int .i64 0, .int .i64 0] 45)).alloc (.cells #[.int .i64 o, .int .i64 u, .int .i64 c] 3) = V) ∧ SumSt wr V o u c n0 n1 n2 0 :=
  ⟨_, Lib.hid rfl, ⟨(below_alloc wr _).alloc (by simp) _, by simp, by simp, by simp, by simp, by simp, by simp, by simp, by simp, by simp⟩⟩
theorem allDays_take (l : List (Int × Int × Int)) (t : Nat) : (allDays (l.take t)).length ≤ (allDays l).length := by
  conv => rhs; rw [← List.take_append_drop t l]
  unfold allDays
  rw [List.map_append, List.flatten_append, List.length_append]
  omega
theorem row3_form {w : World} {base : Nat} {v : Value} {l : List (Int × Int × Int)} (h : w.ownsRow base 23 3 v l.length (flat3 l)) :
    ∃ (A : Option Addr) (cp g : Nat), v = .slice A l.length cp ∧ (0 < l.length → A = some ⟨g, 0, none⟩) ∧ ∀ t, t < l.length → w.cell? ⟨g, t * 3, none⟩ = some (.int .i64 (l.getD t (0, 0, 0)).1) ∧ w.cell? ⟨g, t * 3 + 1, none⟩ = some (.int .i64 (l.getD t (0, 0, 0)).2.1) ∧ w.cell? ⟨g, t * 3 + 2, none⟩ = some (.int .i64 (l.getD t (0, 0, 0)).2.2) := by
  cases l with
  | nil =>
    obtain ⟨A, c, rfl⟩ := row_zero h
    exact ⟨A, c, 0, rfl, fun h0 => by simp at h0, fun t ht => by simp at ht⟩
  | cons x r =>
    obtain ⟨g, c, rfl⟩ := ownsRow_succ h
    refine ⟨some ⟨g, 0, none⟩, c, g, rfl, fun _ => rfl, fun t ht => ?_⟩
    obtain ⟨f0, f1, f2⟩ := flat3_at (x :: r) t ht
    have e : (x :: r).length = r.length + 1 := rfl
    exact ⟨(h.cellAt _ (by omega)).trans f0, (h.cellAt _ (by omega)).trans f1, (h.cellAt _ (by omega)).trans f2⟩
set_option maxRecDepth 100000 in
set_option maxHeartbeats 4000000 in
theorem Masks_true (a b m c d k mk : Int) (w : World) (ht : HeldTab w) (hs : HeldSea w) (h0 : 0 ≤ mk) (h255 : mk ≤ 255) :
    Calls Tryd.prog 11 #[.agg #[.int .i64 a, .int .i64 b, .int .i64 m], .agg #[.int .i64 c, .int .i64 d, .int .i64 k], .int .u8 mk] w (IsTrue w) := by
  obtain ⟨i0, hI, hz0, hz1, hz2⟩ := info_parts infoInt
  have HD : Hid (∀ w', Below w.heap.size w w' → Calls Tryd.prog 49 #[] w' (IsTrue w')) := Lib.hid fun w' hb => beaconDay_true w' (ht.below hb) (hs.below hb)
  clear ht hs
  obtain ⟨W, HW, hb0, a0, a1, a2, c0, c1, c2⟩ := two_pers w a b m c d k
  have CA : Hid (∀ W', Below W.heap.size W W' → W'.cell? ⟨w.heap.size, 0, none⟩ = some (.int .i64 a) ∧ W'.cell? ⟨w.heap.size, 1, none⟩ = some (.int .i64 b) ∧ W'.cell? ⟨w.heap.size, 2, none⟩ = some (.int .i64 m)) := Lib.hid fun W' h => ⟨b_old h a0, b_old h a1, b_old h a2⟩
  have CC : Hid (∀ W', Below W.heap.size W W' → W'.cell? ⟨w.heap.size + 1, 0, none⟩ = some (.int .i64 c) ∧ W'.cell? ⟨w.heap.size + 1, 1, none⟩ = some (.int .i64 d) ∧ W'.cell? ⟨w.heap.size + 1, 2, none⟩ = some (.int .i64 k)) := Lib.hid fun W' h => ⟨b_old h c0, b_old h c1, b_old h c2⟩
  go_enter Tryd.func11, Tryd.ntmps11
  go_wp2_with fail
  rw [HW.out]
  refine (qCheckPeriod_any _ _ _ _).mono ?_
  rintro e w1 ⟨rfl, hb1⟩
  clear a0 a1 a2 c0 c1 c2
  by_cases hA : perErr a b m = 0
  case neg =>
    have hAb : (perErr a b m != 0) = true := by simpa using hA
    generalize perErr a b m = E at *
    go_wp2_with fail
    refine (HD.out _ (b_then hb0 hb1)).mono ?_
    rintro e w2 ⟨rfl, hb2⟩
    go_wp2_with fail
    go_ret
    exact ⟨rfl, b_then (b_then hb0 hb1) hb2⟩
  case pos =>
  have HA := Lib.hid hA
  rw [hA]
  clear hA
  obtain ⟨q0, q1, q2⟩ := CA.out _ hb1
  obtain ⟨r0, r1, r2⟩ := CC.out _ hb1
  go_wp2_with fail
  refine (qCheckPeriod_any _ _ _ _).mono ?_
  rintro e w2 ⟨rfl, hb2⟩
  replace hb2 := b_then hb1 hb2
  clear hb1 q0 q1 q2 r0 r1 r2
  by_cases hC : perErr c d k = 0
  case neg =>
    have hCb : (perErr c d k != 0) = true := by simpa using hC
    generalize perErr c d k = E at *
    go_wp2_with fail
    refine (HD.out _ (b_then hb0 hb2)).mono ?_
    rintro e w3 ⟨rfl, hb3⟩
    go_wp2_with fail
    go_ret
    exact ⟨rfl, b_then (b_then hb0 hb2) hb3⟩
  case pos =>
  have HC := Lib.hid hC
  rw [hC]
  clear hC
  obtain ⟨⟨x1, x2, x3⟩, x4, x5, x6⟩ := per_valid HA.out
  obtain ⟨⟨y1, y2, y3⟩, y4, y5, y6⟩ := per_valid HC.out
  obtain ⟨q0, q1, q2⟩ := CA.out _ hb2
  obtain ⟨r0, r1, r2⟩ := CC.out _ hb2
  by_cases hA60 : 60 < b - a
  case pos =>
    go_wp2_with fail
    refine (HD.out _ (b_then hb0 hb2)).mono ?_
    rintro e w3 ⟨rfl, hb3⟩
    go_wp2_with fail
    go_ret
    exact ⟨rfl, b_then (b_then hb0 hb2) hb3⟩
  case neg =>
  by_cases hC60 : 60 < d - c
  case pos =>
    go_wp2_with fail
    refine (HD.out _ (b_then hb0 hb2)).mono ?_
    rintro e w3 ⟨rfl, hb3⟩
    go_wp2_with fail
    go_ret
    exact ⟨rfl, b_then (b_then hb0 hb2) hb3⟩
  case neg =>
  go_wp2_with fail
  refine (DaysOf_ok a b m _ HA.out).mono ?_
  rintro e w3 ⟨v1, rfl, i1, hb3⟩
  replace hb3 := b_then hb2 hb3
  clear hb2 q0 q1 q2 r0 r1 r2
  obtain ⟨r0, r1, r2⟩ := CC.out _ hb3
  go_wp2_with fail
  refine (DaysOf_ok c d k _ HC.out).mono ?_
  rintro e w4 ⟨v2, rfl, i2, hb4⟩
  replace i1 := i1.below hb4
  replace hb4 := b_then hb3 hb4
  clear hb3 r0 r1 r2
  obtain ⟨q0, q1, q2⟩ := CA.out _ hb4
  obtain ⟨r0, r1, r2⟩ := CC.out _ hb4
  go_wp2_with fail
  refine (Meet_ok a b m c d k _ HA.out HC.out).mono ?_
  rintro e w5 ⟨v3, rfl, i3, hb5⟩
  replace i1 := i1.below hb5
  replace i2 := i2.below hb5
  replace hb5 := b_then hb4 hb5
  clear hb4 q0 q1 q2 r0 r1 r2
  have hX := daysL_len61 (m := m) (show b - a ≤ 60 by omega)
  have hY := daysL_len61 (m := k) (show d - c ≤ 60 by omega)
  obtain ⟨M, HM⟩ : ∃ M, Hid (kept (hasB c d k) (daysL a b m) = M) := ⟨_, Lib.hid rfl⟩
  rw [HM.out] at i3
  have hM : M.length ≤ 61 := by rw [← HM.out]; exact Nat.le_trans (List.length_filter_le _ _) hX
  obtain ⟨A1, p1, rfl⟩ := i1.form
  obtain ⟨A2, p2, rfl⟩ := i2.form
  obtain ⟨A3, p3, rfl⟩ := i3.form
  obtain ⟨q0, q1, q2⟩ := CA.out _ hb5
  obtain ⟨r0, r1, r2⟩ := CC.out _ hb5
  have HMM : Hid (∀ e, e ∈ M ↔ e ∈ daysL a b m ∧ e ∈ daysL c d k) := Lib.hid fun e => by
    rw [← HM.out, kept, List.mem_filter, daysL_mem c d k]
    simp only [hasB, Bool.and_eq_true, decide_eq_true_eq, and_assoc]
  have HMP : Hid (M.Pairwise (· < ·)) := Lib.hid (by rw [← HM.out]; exact (daysL_pair a b m).filter _)
  clear HM
  have HXM := Lib.hid (daysL_mem a b m)
  have HYM := Lib.hid (daysL_mem c d k)
  have HXP := Lib.hid (daysL_pair a b m)
  have HYP := Lib.hid (daysL_pair c d k)
  have HXV := Lib.hid (fun a' b' => daysL_row a' b' m)
  generalize hXe : daysL a b m = X at *
  generalize hYe : daysL c d k = Y at *
  have HXE := Lib.hid hXe
  clear hXe hYe
  go_upto_region 9 with fail
  go_quiet (fail)
  generalize hlo : min a c = lo
  generalize hhi : max b d = hi
  have l1 : 0 ≤ lo := by omega
  have l2 : lo ≤ 99999 := by omega
  have g1 : 0 ≤ hi := by omega
  have g2 : hi ≤ 99999 := by omega
  have HLO : Hid ((lo ≤ a ∧ lo ≤ c ∧ b ≤ hi ∧ d ≤ hi) ∧ ((lo = a ∨ lo = c) ∧ (hi = b ∨ hi = d))) := Lib.hid (by omega)
  clear hlo hhi
  go_upto_if 103 with fail
  go_cut [9, 14, 15] from 104 to 111 (fun vy u v wx => (∃ q, wx = w5.drewN q) ∧ ∃ (n : Nat) (lo' : Int) (Y' : List Int) (A : Option Addr) (p : Nat), vy = .slice A Y'.length p ∧ u = .int .i64 lo' ∧ v = .int .i64 (lo' + n - 1) ∧ n ≤ 201 ∧ 1 ≤ n ∧ 0 ≤ lo' ∧ lo' + n ≤ 100000 ∧ IntsAt w5 w3.heap.size vy Y' ∧ Y'.length ≤ 61 ∧ Hid ((uniT X Y' lo' n).length + M.length = X.length + Y'.length))
  case first =>
    by_cases hw : 200 < hi - lo
    · have hM0 : M = [] := by
        rw [List.eq_nil_iff_forall_not_mem]
        intro e he
        have h1 := (HMM.out e).1 he
        have h2 := (HXM.out e).1 h1.1
        have h3 := (HYM.out e).1 h1.2
        have := HLO.out
        omega
      subst hM0
      go_wp2_with fail
      go_quiet (fail)
      go_wp2_with fail
      go_meet
      refine ⟨⟨_, rfl⟩, (b - a + 1).toNat, a, [], none, 0, rfl, rfl, by go_num, by omega, by omega, by omega, by omega, IntsAt.none _ _, by simp, Lib.hid (uni_len HXP.out List.Pairwise.nil List.Pairwise.nil (fun e he => by have := (HXM.out e).1 he; omega) (by simp) (by simp))⟩
    · go_wp2_with fail
      go_meet
      have hh := HLO.out
      refine ⟨⟨_, rfl⟩, (hi - lo + 1).toNat, lo, Y, A2, p2, rfl, rfl, by go_num, by omega, by omega, by omega, by omega, i2, hY, Lib.hid (uni_len HXP.out HYP.out HMP.out (fun e he => by have := (HXM.out e).1 he; omega) (fun e he => by have := (HYM.out e).1 he; omega) HMM.out)⟩
  case rest =>
  obtain ⟨⟨q, rfl⟩, n, lo', Y', A', p', rfl, rfl, rfl, n1, n2, n3, n4, iY, hY', HLEN⟩ := hcut
  clear HLO HYM HYP HMM HMP q0 q1 q2 r0 r1 r2 i2
  have hb6 := b_drewN (b_then hb0 hb5) q
  have HB6 : Hid (Below W.heap.size W (w5.drewN q)) := Lib.hid (b_drewN hb5 q)
  have J1 := Lib.hid (i1.below (b_drewN (Below.refl _ w5) q))
  have J2 := Lib.hid (iY.below (b_drewN (Below.refl _ w5) q))
  clear i1 iY hb5
  generalize w5.drewN q = w6 at *
  go_wp2_with fail
  go_loopw [13, 16] (fun v dv wr => ∃ t : Nat, t ≤ n ∧ dv = .int .i64 (lo' + t) ∧ IntsAt wr w6.heap.size v (uniT X Y' lo' t) ∧ Below w6.heap.size w6 wr) (fun _ dv _ => (lo' + n - intOf dv).toNat)
  case atStart => exact ⟨0, by omega, by simp, by simpa [uniT, rowD] using IntsAt.none w6 _, Below.refl _ _⟩
  case round =>
    obtain ⟨t, htn, rfl, io, hbr⟩ := hrel
    by_cases hlt : t < n
    · have hul := uniT_len X Y' lo' t
      cases hB : (decide (lo' + (t : Int) ∈ X) || decide (lo' + (t : Int) ∈ Y'))
      · have HU : Hid (uniT X Y' lo' (t + 1) = uniT X Y' lo' t) := Lib.hid (by rw [uniT_succ, hB]; simp)
        rw [Bool.or_eq_false_iff] at hB
        obtain ⟨hB1, hB2⟩ := hB
        have HB1 := Lib.hid hB1
        have HB2 := Lib.hid hB2
        clear hB1 hB2
        go_wp2_with fail
        refine (HasInt_any X (lo' + t) _ _ _ (J1.out.below hbr) (by omega)).mono ?_
        rintro e w7 ⟨rfl, rfl⟩
        rw [HB1.out]
        go_wp2_with fail
        refine (HasInt_any Y' (lo' + t) _ _ _ (J2.out.below hbr) (by omega)).mono ?_
        rintro e w7 ⟨rfl, rfl⟩
        rw [HB2.out]
        go_wp2_with fail
        go_roundw
        case rel => exact ⟨t + 1, by omega, by go_num, by rw [HU.out]; exact io, hbr⟩
        case measure => simp [intOf]; omega
      · have HU : Hid (uniT X Y' lo' (t + 1) = uniT X Y' lo' t ++ [lo' + t]) := Lib.hid (by rw [uniT_succ, hB]; simp)
        by_cases hx : (lo' + (t : Int)) ∈ X
        · have HB1 := Lib.hid (decide_eq_true hx)
          clear hx hB
          go_wp2_with fail
          refine (HasInt_any X (lo' + t) _ _ _ (J1.out.below hbr) (by omega)).mono ?_
          rintro e w7 ⟨rfl, hw7⟩
          rw [HB1.out, hw7]
          clear hw7
          have hl1 : (uniT X Y' lo' t).length + 1 ≤ maxLen := by unfold maxLen; omega
          have hsz : w6.heap.size ≤ wr.heap.size := hbr.size
          go_wp2_with (at_builtin; refine Hid.out ?_)
          refine Lib.hid ?_
          refine wpList_append_own _ rfl _ _ 36 rfl w6.heap.size 3 i0 (.int .i64 0) 1 8 Tryd.underlying36 hI hz0 hz1 hz2 rfl (by decide) _ (uniT X Y' lo' t).length _ rfl (io.own.alloc _) ⟨wr.heap.size, 0, none⟩ 1 1 [.int .i64 (lo' + t)] rfl rfl
            (World.news_of_block (cs := #[.int .i64 (lo' + t)]) (t := 3) (fr := (0, 0)) (heap_alloc_new wr _)) (by simp [Value.oneCell']) hl1 (by omega) (by simp; omega) ?_
          intro v' w8 hown' hgrow _
          have hgrow2 : (wr.alloc (.cells #[.int .i64 (lo' + t)] 3)).grownBy w8 u13.ownBlock := hgrow
          have hb8 : Below w6.heap.size w6 w8 := (hbr.alloc hbr.size _).grown hgrow2 (by simp; omega) (own_blk io.own)
          have io8 := Lib.hid (IntsAt.grew hown' HU.out)
          clear hgrow hgrow2 hown' io hbr
          go_wp2_with fail
          go_roundw
          case rel => exact ⟨t + 1, by omega, by go_num, io8.out, hb8⟩
          case measure => simp [intOf]; omega
        · have HB1 := Lib.hid (decide_eq_false hx)
          have HB2 : Hid (decide (lo' + (t : Int) ∈ Y') = true) := Lib.hid (by rw [decide_eq_false hx, Bool.false_or] at hB; exact hB)
          clear hx hB
          go_wp2_with fail
          refine (HasInt_any X (lo' + t) _ _ _ (J1.out.below hbr) (by omega)).mono ?_
          rintro e w7 ⟨rfl, hw7⟩
          rw [HB1.out, hw7]
          clear hw7
          go_wp2_with fail
          refine (HasInt_any Y' (lo' + t) _ _ _ (J2.out.below hbr) (by omega)).mono ?_
          rintro e w7 ⟨rfl, hw7⟩
          rw [HB2.out, hw7]
          clear hw7
          have hl1 : (uniT X Y' lo' t).length + 1 ≤ maxLen := by unfold maxLen; omega
          have hsz : w6.heap.size ≤ wr.heap.size := hbr.size
          go_wp2_with (at_builtin; refine Hid.out ?_)
          refine Lib.hid ?_
          refine wpList_append_own _ rfl _ _ 36 rfl w6.heap.size 3 i0 (.int .i64 0) 1 8 Tryd.underlying36 hI hz0 hz1 hz2 rfl (by decide) _ (uniT X Y' lo' t).length _ rfl (io.own.alloc _) ⟨wr.heap.size, 0, none⟩ 1 1 [.int .i64 (lo' + t)] rfl rfl
            (World.news_of_block (cs := #[.int .i64 (lo' + t)]) (t := 3) (fr := (0, 0)) (heap_alloc_new wr _)) (by simp [Value.oneCell']) hl1 (by omega) (by simp; omega) ?_
          intro v' w8 hown' hgrow _
          have hgrow2 : (wr.alloc (.cells #[.int .i64 (lo' + t)] 3)).grownBy w8 u13.ownBlock := hgrow
          have hb8 : Below w6.heap.size w6 w8 := (hbr.alloc hbr.size _).grown hgrow2 (by simp; omega) (own_blk io.own)
          have io8 := Lib.hid (IntsAt.grew hown' HU.out)
          clear hgrow hgrow2 hown' io hbr
          go_wp2_with fail
          go_roundw
          case rel => exact ⟨t + 1, by omega, by go_num, io8.out, hb8⟩
          case measure => simp [intOf]; omega
    · obtain rfl : t = n := by omega
      have hul := uniT_len X Y' lo' t
      have hE := uni_asc X Y' lo' t n3 n4 (by omega)
      have HP := Lib.hid (uniT_pair X Y' lo' t)
      have HLB := Lib.hid (b_then hb6 hbr)
      have HB7 := Lib.hid (b_then HB6.out hbr)
      have J3 := J1.out.below hbr
      have J4 := J2.out.below hbr
      go_upto_region 20 with fail
      generalize uniT X Y' lo' t = L at *
      have HE := Lib.hid hE
      have HASC := Lib.hid (asc_of hE)
      clear hE
      go_cut [17, 18] from 129 to 135 (fun v e wx => e = .int .i64 0 ∧ Below wr.heap.size wr wx ∧ ∃ (l : List (Int × Int × Int)) (j : Nat), JoinTo L (wkF L) j L.length l ∧ wx.ownsRow wr.heap.size 23 3 v l.length (flat3 l))
      case first =>
        cases hL : L with
        | nil =>
          subst hL
          obtain rfl := io.nil.2 rfl
          go_wp2_with fail
          refine (Join_zero _ _ _).mono ?_
          rintro e w9 ⟨rfl, hb9⟩
          have hb10 := b_then (below_alloc wr (.cells #[] 3)) hb9
          clear hb9
          go_wp2_with fail
          go_meet
          exact ⟨rfl, hb10, [], 0, JoinTo.zero, World.ownsRow_nil _ _ _ _⟩
        | cons z r =>
          have hpos : 0 < L.length := by rw [hL]; simp
          clear hL
          obtain ⟨g, cap, rfl, hia⟩ := intAt_of_own io.own hpos
          have HN : Hid (∀ (j : Nat) (u : Value), (L.map (Value.int .i64))[j]? = some u → (wr.alloc (.cells #[] 3)).cell? ((⟨g, 0, none⟩ : Addr).add j) = some u) := Lib.hid fun j u hu => by
            have hj : j < L.length := by
              have := (List.getElem?_eq_some_iff.1 hu).1
              simpa using this
            have e : u = .int .i64 (L.getD j 0) := by
              rw [List.getElem?_map, List.getElem?_eq_getElem hj] at hu
              simp only [Option.map_some, Option.some.injEq] at hu
              rw [← hu]; simp [hj]
            rw [e, Go.WideShapes.add_plain]
            exact b_old (below_alloc wr _) (hia j hj)
          have HO1 : Hid (∀ u ∈ L.map (Value.int .i64), u.oneCell' = true) := Lib.hid fun u hu => by
            obtain ⟨x, -, rfl⟩ := List.mem_map.1 hu
            rfl
          clear hia
          go_wp2_with (first
            | (refine wpList_append_own _ rfl _ _ 36 rfl wr.heap.size 3 i0 (.int .i64 0) 1 8 Tryd.underlying36 hI hz0 hz1 hz2 rfl (by decide) _ 0 [] rfl (World.ownsRow_lit wr #[] 0 (Nat.le_refl _) (by unfold maxLen; omega) rfl) ⟨g, 0, none⟩ L.length cap (L.map (Value.int .i64)) rfl (by simp) HN.out HO1.out (by unfold maxLen; omega) (by omega) (by simp) ?_)
            | fail)
          intro v' w9 hown hgrow _
          have hb9 : Below wr.heap.size wr w9 := ((Below.refl _ wr).alloc (Nat.le_refl _) _).grown hgrow (by simp) (by intro k hk; simp only [Value.ownBlock, Option.some.injEq] at hk; omega)
          clear hgrow
          obtain ⟨g', cp, rfl⟩ := ownsRow_succ (k := L.length - 1) (by rw [Nat.sub_add_cancel hpos]; exact hown)
          rw [Nat.sub_add_cancel hpos] at hown ⊢
          have HCV : Hid (∀ j, j < L.length → w9.cell? ⟨g', 0 + j, none⟩ = some (.int .i64 (L.getD j 0))) := Lib.hid fun j hj => by
            rw [Nat.zero_add, hown.cellAt j (by omega)]
            simp [hj]
          have HFV : Hid (∀ j, j < L.length → w9.frozen? ⟨g', 0 + j, none⟩ = false) := Lib.hid fun j _ => hown.frozenAt _
          have hg9 := own_lt hown g' rfl
          have hcp : L.length ≤ cp := by
            rcases hown.2 with ⟨h, -⟩ | ⟨g2, cap', cur, h, -, -, h2, -⟩
            · cases h
            · simp only [Value.slice.injEq] at h
              omega
          clear hown HN HO1
          go_wp2_with fail
          refine (Join_ok g' 0 cp L _ hg9 HCV.out HFV.out HE.out hcp).mono ?_
          rintro e w10 ⟨v, j, l, rfl, hj, hown5, hb10⟩
          have HJ := Lib.hid hj
          clear hj HCV HFV
          go_wp2_with fail
          go_meet
          exact ⟨rfl, b_then hb9 hb10, l, j, HJ.out, own_down hown5 hb9.size⟩
      case rest =>
      obtain ⟨rfl, hb8, l, j, hj, hown⟩ := hcut
      have hlen := JoinTo.len HASC.out.1 hj
      have HVAL := Lib.hid (hj.valid HASC.out.1)
      have HALL : Hid (allDays l = L) := Lib.hid (by rw [(hj.days HASC.out.1).2, List.take_length])
      obtain ⟨A5, cp5, g5, rfl, hA5, HCE⟩ := row3_form hown
      replace HCE := Lib.hid HCE
      replace hA5 := Lib.hid hA5
      obtain ⟨A4, p4, rfl⟩ := io.form
      have hLn : L.length ≤ 201 := by omega
      have hLm : (L.length : Int) + M.length = X.length + Y'.length := by have := HLEN.out; omega
      clear hj hown io HE HASC HP HLEN J1 J2 J3 J4
      replace HB7 := b_then HB7.out hb8
      replace HLB := b_then HLB.out hb8
      clear hb8
      have HBN := Lib.hid HB7
      have HLN := Lib.hid HLB
      clear HB7 HLB
      go_upto_region 25 with fail
      rw [show decide (L.length < l.length) = false from decide_eq_false (by omega)]
      go_loopw [19, 147] (fun nv iv wq => ∃ t : Nat, t ≤ l.length ∧ iv = .int .i64 t ∧ nv = .int .i64 (allDays (l.take t)).length ∧ Below wc.heap.size wc wq) (fun _ iv _ => l.length - (intOf iv).toNat)
      case atStart => exact ⟨0, Nat.zero_le _, rfl, rfl, Below.refl _ _⟩
      case round =>
        obtain ⟨t, ht, rfl, rfl, hbq⟩ := hrel
        by_cases hlt : t < l.length
        · obtain rfl := hA5.out (by omega)
          obtain ⟨z0, z1, z2⟩ := HCE.out t hlt
          replace z0 := b_old hbq z0
          replace z1 := b_old hbq z1
          replace z2 := b_old hbq z2
          obtain ⟨v0, v1, v2, v3, v4, v5⟩ := HVAL.out _ (show l.getD t (0, 0, 0) ∈ l by rw [List.getD_eq_getElem?_getD, List.getElem?_eq_getElem hlt]; exact List.getElem_mem hlt)
          have HS := Lib.hid (allDays_succ l t hlt)
          have hpre : (allDays (l.take t)).length ≤ L.length := by
            rw [← HALL.out]; exact allDays_take l t
          have hpre2 : (daysL (l.getD t (0, 0, 0)).1 (l.getD t (0, 0, 0)).2.1 (l.getD t (0, 0, 0)).2.2).length ≤ 401 := by
            unfold daysL
            exact Nat.le_trans (upto_len _ _ _ _) (by omega)
          generalize (l.getD t (0, 0, 0)).1 = e0 at *
          generalize (l.getD t (0, 0, 0)).2.1 = e1 at *
          generalize (l.getD t (0, 0, 0)).2.2 = e2 at *
          go_wp2_with fail
          refine (Count_ok e0 e1 e2 _ v0 v1 v2 v3 v4 v5).mono ?_
          rintro e w11 ⟨rfl, hb11⟩
          have hb12 := b_then (b_then hbq (below_alloc wr _)) hb11
          clear hb11 z0 z1 z2
          go_wp2_with fail
          go_roundw
          case rel => exact ⟨t + 1, by omega, by go_num, by rw [HS.out]; go_num, hb12⟩
          case measure => simp [intOf]; omega
        · have hte : allDays (l.take t) = L := by rw [List.take_of_length_le (by omega)]; exact HALL.out
          rw [hte]
          clear hte HALL HVAL HCE hA5
          go_upto_region 35 with fail
          obtain ⟨o, ho⟩ : ∃ o, Hid (1 + mk % 127 = o) := ⟨_, Lib.hid rfl⟩
          rw [ho.out]
          have o1 : 1 ≤ o := by have := ho.out; omega
          have o2 : o ≤ 127 := by have := ho.out; omega
          obtain ⟨u, cc, HU, HCa, u1, u2, cc1, cc2, HSUM⟩ := masks m o x5 x6 o1 o2
          have hbW := b_then HBN.out hbq
          have hbw := b_then HLN.out hbq
          obtain ⟨q0, q1, q2⟩ := CA.out _ hbW
          have q3 := cell_al (.cells #[.int .i64 0, .int .i64 0, .int .i64 0] 45) q2
          go_upto_region 37 with fail
          rw [HU.out, HCa.out, show ((L.length : Int) != (X.length : Int) + (Y'.length : Int) - (M.length : Int)) = false from bne_eq_false_iff_eq.2 (by omega)]
          obtain ⟨V, HV, hst⟩ := sum_start wr o u cc (daysL a b o).length (daysL a b u).length (daysL a b cc).length
          rw [HV.out]
          have LO := daysL_len61 (m := o) (show b - a ≤ 60 by omega)
          have LU := daysL_len61 (m := u) (show b - a ≤ 60 by omega)
          have LC := daysL_len61 (m := cc) (show b - a ≤ 60 by omega)
          have HLC : Hid (cc = 0 → ((daysL a b cc).length : Int) = 0) := Lib.hid fun h => by rw [h, daysL_none]; rfl
          have hsum : (X.length : Int) + (daysL a b o).length = (daysL a b u).length + (daysL a b cc).length := by have := HSUM a b; rw [HXE.out] at this; omega
          clear HSUM HV q0 q1 q2 q3
          have HST := Lib.hid hst
          clear hst
          obtain ⟨nc, HNCE⟩ : ∃ nc, Hid ((daysL a b cc).length = nc) := ⟨_, Lib.hid rfl⟩
          rw [HNCE.out] at LC HLC hsum HST
          go_loopw [188] (fun iv wq => ∃ t : Nat, t ≤ 3 ∧ iv = .int .i64 t ∧ SumSt wr wq o u cc (daysL a b o).length (daysL a b u).length nc t) (fun iv _ => 3 - (intOf iv).toNat)
          case atStart => exact ⟨0, by omega, rfl, HST.out⟩
          case round =>
            obtain ⟨t, ht, rfl, hst⟩ := hrel
            obtain rfl | rfl | rfl | rfl : t = 0 ∨ t = 1 ∨ t = 2 ∨ t = 3 := by omega
            · skip
              obtain ⟨q0, q1, q2⟩ := CA.out _ (b_then HBN.out (b_then hbq hst.b))
              obtain ⟨z0, z1, z2⟩ : _ ∧ _ ∧ _ := ⟨hst.m0, hst.m1, hst.m2⟩
              have HST1 := Lib.hid hst
              clear hst
              go_wp2_with fail
              refine (Count_ok a b o _ x1 x2 x3 x4 o1 o2).mono ?_
              rintro e w20 ⟨rfl, hb20⟩
              have hst := HST1.out.below hb20
              clear hb20 HST1 q0 q1 q2 z0 z1 z2
              obtain ⟨s0, f0⟩ : _ ∧ _ := ⟨hst.s0, hst.f0⟩
              have HST1 := Lib.hid hst
              clear hst
              go_wp2_with fail
              go_roundw
              case rel => exact ⟨1, by omega, by go_num, HST1.out.put0⟩
              case measure => simp [intOf]
            · skip
              obtain ⟨q0, q1, q2⟩ := CA.out _ (b_then HBN.out (b_then hbq hst.b))
              obtain ⟨z0, z1, z2⟩ : _ ∧ _ ∧ _ := ⟨hst.m0, hst.m1, hst.m2⟩
              have HST1 := Lib.hid hst
              clear hst
              go_wp2_with fail
              refine (Count_ok a b u _ x1 x2 x3 x4 u1 u2).mono ?_
              rintro e w20 ⟨rfl, hb20⟩
              have hst := HST1.out.below hb20
              clear hb20 HST1 q0 q1 q2 z0 z1 z2
              obtain ⟨s0, f0⟩ : _ ∧ _ := ⟨hst.s1, hst.f1⟩
              have HST1 := Lib.hid hst
              clear hst
              go_wp2_with fail
              go_roundw
              case rel => exact ⟨2, by omega, by go_num, HST1.out.put1⟩
              case measure => simp [intOf]
            · obtain ⟨q0, q1, q2⟩ := CA.out _ (b_then HBN.out (b_then hbq hst.b))
              obtain ⟨z0, z1, z2⟩ : _ ∧ _ ∧ _ := ⟨hst.m0, hst.m1, hst.m2⟩
              have HST1 := Lib.hid hst
              clear hst
              by_cases hcz : cc = 0
              · have HNC := Lib.hid (HLC.out hcz)
                subst hcz
                go_wp2_with fail
                go_roundw
                case rel => exact ⟨3, by omega, by go_num, HST1.out.skip2 HNC.out⟩
                case measure => simp [intOf]
              · have hcb : (cc == 0) = false := by simpa using hcz
                have hc1 : 1 ≤ cc := by omega
                clear hcz
                go_wp2_with fail
                refine (Count_ok a b cc _ x1 x2 x3 x4 hc1 cc2).mono ?_
                rintro e w20 ⟨rfl, hb20⟩
                rw [HNCE.out]
                have hst := HST1.out.below hb20
                clear hb20 HST1 q0 q1 q2 z0 z1 z2
                obtain ⟨s0, f0⟩ : _ ∧ _ := ⟨hst.s2, hst.f2⟩
                have HST1 := Lib.hid hst
                clear hst
                go_wp2_with fail
                go_roundw
                case rel => exact ⟨3, by omega, by go_num, HST1.out.put2⟩
                case measure => simp [intOf]
            · obtain ⟨q0, q1, q2⟩ := CA.out _ (b_then HBN.out (b_then hbq hst.b))
              obtain ⟨s0, s1, s2⟩ : _ ∧ _ ∧ _ := ⟨hst.s0, hst.s1, hst.s2⟩
              simp only [show (0 : Nat) < 3 from by decide, show (1 : Nat) < 3 from by decide, show (2 : Nat) < 3 from by decide, if_true] at s0 s1 s2
              have hbe := b_then hbw hst.b
              have HBE := Lib.hid (b_then HBN.out (b_then hbq hst.b))
              clear hst HST
              generalize (daysL a b o).length = no at *
              generalize (daysL a b u).length = nu at *
              by_cases ha6 : 99999 < a + 6
              · go_wp2_with fail
                refine (HD.out _ hbe).mono ?_
                rintro e w30 ⟨rfl, hb30⟩
                go_wp2_with fail
                go_ret
                exact ⟨rfl, b_then hbe hb30⟩
              · go_upto_region 50 with fail
                clear hsum s0 s1 s2 q0 q1 q2
                go_loopw [227] (fun iv wq => ∃ t : Nat, t ≤ 7 ∧ iv = .int .i64 t ∧ Below wr.heap.size wr wq) (fun iv _ => 7 - (intOf iv).toNat)
                case atStart => exact ⟨0, by omega, rfl, Below.refl _ _⟩
                case round =>
                  obtain ⟨t, ht, rfl, hbz⟩ := hrel
                  by_cases hlt : t < 7
                  · obtain ⟨q0, q1, q2⟩ := CA.out _ (b_then HBE.out hbz)
                    have HCT : Hid (∀ w0, Calls Tryd.prog 51 #[.agg #[.int .i64 a, .int .i64 (a + 6), .int .i64 (wrap64 (2 ^ t))]] w0 fun r w' => r = .returned (.tuple #[.int .i64 1, .int .i64 0]) ∧ Below w0.heap.size w0 w') := Lib.hid fun w0 => by
                      have key : ∀ t, t < 7 → wrap64 (2 ^ t) = ((2 ^ t : Nat) : Int) ∧ 1 ≤ 2 ^ t ∧ 2 ^ t ≤ 64 := by decide +kernel
                      obtain ⟨e1, e2, e3⟩ := key t hlt
                      rw [e1]
                      have h := Count_ok a (a + 6) ((2 ^ t : Nat) : Int) w0 x1 (by omega) (by omega) (by omega) (by omega) (by omega)
                      rw [week_one a t hlt] at h
                      exact h
                    have k0 : ∀ x : KeptW wr, x.v.cell? ⟨w.heap.size, 0, none⟩ = some (.int .i64 a) := fun x => x.cell q0
                    have hne : Nonempty (KeptW wr) := ⟨⟨wr, Below.refl _ _⟩⟩
                    clear q0 q1 q2
                    go_upto_region 52 with fail
                    refine region_kept (by kernel_rfl) (by kernel_rfl) ?_
                    iterate 8 (go_big_quiet_step (fail))
                    go_big_quiet_step (exact KeptW.calls (HCT.out _))
                    iterate 5 (go_big_quiet_step (fail))
                    refine wpQuiet_nil ?_
                    rintro _ ⟨x, rfl⟩
                    have hbx := b_then hbz x.below
                    clear k0
                    go_wp2_with fail
                    go_roundw
                    case rel => exact ⟨t + 1, by omega, by go_num, hbx⟩
                    case measure => simp [intOf]; omega
                  · go_wp2_with fail
                    refine (HD.out _ (b_then hbe hbz)).mono ?_
                    rintro e w30 ⟨rfl, hb30⟩
                    go_wp2_with fail
                    go_ret
                    exact ⟨rfl, b_then (b_then hbe hbz) hb30⟩
end Go.Proofs.YtoaimgfekbnijaaDoor
