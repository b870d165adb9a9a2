/- Contracts: the reference's Shift and CheckPeriod; turn. · Contracts: the reference's Shift. · Contracts of package calendar: Split. Contracts of package calendar: Split, where the day lies inside. A region that draws its order, in whose head (its first n operations) one operation makes a block · A region that draws its order, with operations in its head that make memory of their own (allocations, calls that hand back fresh rows): each of them keeps all cells that are there, and what it yields · Contract of printHeader. · Contract of PrintMessage, for every message. · Contract of the reference's Pairs (requests without error). · The statement's comparison of pairs: two rows of the same pairs; and its conditions on requests. -/
import Derived.Test.YtlcmcknbbmokjaaGreatPm4
import Derived.Test.YtlcmcknbbmokjaaGreatPm1
import Derived.Test.YtlcmcknbbmokjaaGreatPm3
import Derived.Deep.RegionHeld3
import Derived.Test.YtlcmcknbbmokjaaGreatPm11
import Derived.Test.YtlcmcknbbmokjaaGreatPm13
import Derived.Test.YtlcmcknbbmokjaaGreatPm14
import Derived.Laws.StructEq
import Derived.RangeFuncBox
namespace Go.Proofs.YtlcmcknbbmokjaaGreat
open Go Go.RowKit
theorem tm7 (x : Int) : ((x.tmod 7) + 7).tmod 7 = x % 7 := by
  have h1 := Int.tmod_add_tdiv_mul x 7
  have h2 := Int.lt_tmod_of_pos x (show (0 : Int) < 7 by decide)
  have h3 := Int.tmod_lt_of_pos x (show (0 : Int) < 7 by decide)
  rw [Int.tmod_eq_emod_of_nonneg (by omega)]
  generalize x.tmod 7 = r at *
  generalize x.tdiv 7 = q at *
  omega
theorem tm7_bd (x : Int) : -7 < x.tmod 7 ∧ x.tmod 7 < 7 := ⟨Int.lt_tmod_of_pos x (by decide), Int.tmod_lt_of_pos x (by decide)⟩
theorem tm7e (x : Int) : ((x.tmod 7) + 7) % 7 = x % 7 := by
  have h := tm7 x
  have hb := tm7_bd x
  rwa [Int.tmod_eq_emod_of_nonneg (by omega)] at h
/-- What the exact moved mask is, as the program reckons it. -/
def tv (n s : Nat) : Int := bits BinOp.and IntKind.i64 (bits BinOp.or IntKind.i64 ((n : Int) * 2 ^ s) ((n : Int) / 2 ^ (7 - s))) 127
theorem tv_eq : ∀ n, n < 128 → ∀ s, s < 7 → tv n s = (refN n s 7 : Nat) := by decide +kernel
theorem perErr_eq (a b m : Int) :
    perErr a b m = if ¬ (0 ≤ a ∧ a ≤ 99999) then 3 else if ¬ (0 ≤ b ∧ b ≤ 99999) then 3 else if b < a then 11 else if 400 < b - a then 4 else rng m 1 127 := by
  unfold perErr
  by_cases h1 : 0 ≤ a ∧ a ≤ 99999
  · rw [if_neg (by simpa using h1)]
    by_cases h2 : 0 ≤ b ∧ b ≤ 99999
    · rw [if_neg (by simpa using h2), rng_ok h1.1 h1.2, rng_ok h2.1 h2.2]
      have hw : wrap64 (b - a) = b - a := by unfold wrap64; omega
      rw [hw]
      by_cases h3 : b < a
      · rw [if_pos h3, decide_eq_false (by omega)]
        simp [fst, unl]
      · rw [if_neg h3, decide_eq_true (by omega)]
        by_cases h4 : 400 < b - a
        · rw [if_pos h4, decide_eq_false (by omega)]
          simp [fst, unl]
        · rw [if_neg h4, decide_eq_true (by omega)]
          simp only [fst, unl, if_true]
          by_cases h5 : rng m 1 127 = 0
          · simp [h5]
          · simp [h5]
    · rw [if_pos (by simpa using h2), rng_ok h1.1 h1.2, rng_bad h2]
      simp [fst]
  · rw [if_pos (by simpa using h1), rng_bad h1]
    simp [fst]
set_option maxRecDepth 100000 in
theorem qCheckPeriod_any (a b m : Int) (w : World) :
    Calls Tryz.prog 174 #[.agg #[.int .i64 a, .int .i64 b, .int .i64 m]] w fun r w' => r = .returned (.int .i64 (perErr a b m)) ∧ Below w.heap.size w w' := by
  obtain ⟨W, HW, hb0, hc0, hc1, hc2⟩ : ∃ W, Hid (w.alloc (.cells #[.int .i64 a, .int .i64 b, .int .i64 m] 24) = W) ∧ Below w.heap.size w W ∧ W.cell? ⟨w.heap.size, 0, none⟩ = some (.int .i64 a) ∧ W.cell? ⟨w.heap.size, 1, none⟩ = some (.int .i64 b) ∧ W.cell? ⟨w.heap.size, 2, none⟩ = some (.int .i64 m) := ⟨_, Lib.hid rfl, below_alloc w _, by simp, by simp, by simp⟩
  have HP := Lib.hid (perErr_eq a b m)
  by_cases h1 : 0 ≤ a ∧ a ≤ 99999
  · have RA : Hid (rng a 0 99999 = 0) := Lib.hid (rng_ok h1.1 h1.2)
    by_cases h2 : 0 ≤ b ∧ b ≤ 99999
    · have RB : Hid (rng b 0 99999 = 0) := Lib.hid (rng_ok h2.1 h2.2)
      by_cases h3 : b < a
      · have HQ : Hid (perErr a b m = 11) := Lib.hid (by rw [HP.out, if_neg (by simpa using h1), if_neg (by simpa using h2), if_pos h3])
        go_enter Tryz.func174, Tryz.ntmps174
        go_wp2_with fail
        rw [HW.out]
        refine (qCheckDay_any _ _).mono ?_
        rintro e w2 ⟨rfl, hw⟩
        rw [hw, RA.out]
        clear hw
        go_wp2_with fail
        refine (qCheckDay_any _ _).mono ?_
        rintro e w2 ⟨rfl, hw⟩
        rw [hw, RB.out]
        clear hw
        go_wp2_with fail
        go_ret
        exact ⟨by rw [HQ.out]; rfl, hb0⟩
      · by_cases h4 : 400 < b - a
        · have HQ : Hid (perErr a b m = 4) := Lib.hid (by rw [HP.out, if_neg (by simpa using h1), if_neg (by simpa using h2), if_neg h3, if_pos h4])
          go_enter Tryz.func174, Tryz.ntmps174
          go_wp2_with fail
          rw [HW.out]
          refine (qCheckDay_any _ _).mono ?_
          rintro e w2 ⟨rfl, hw⟩
          rw [hw, RA.out]
          clear hw
          go_wp2_with fail
          refine (qCheckDay_any _ _).mono ?_
          rintro e w2 ⟨rfl, hw⟩
          rw [hw, RB.out]
          clear hw
          go_wp2_with fail
          go_ret
          exact ⟨by rw [HQ.out]; rfl, hb0⟩
        · have HQ : Hid (perErr a b m = rng m 1 127) := Lib.hid (by rw [HP.out, if_neg (by simpa using h1), if_neg (by simpa using h2), if_neg h3, if_neg h4])
          go_enter Tryz.func174, Tryz.ntmps174
          go_wp2_with fail
          rw [HW.out]
          refine (qCheckDay_any _ _).mono ?_
          rintro e w2 ⟨rfl, hw⟩
          rw [hw, RA.out]
          clear hw
          go_wp2_with fail
          refine (qCheckDay_any _ _).mono ?_
          rintro e w2 ⟨rfl, hw⟩
          rw [hw, RB.out]
          clear hw
          go_wp2_with fail
          refine (qRange_any _ _ _ _).mono ?_
          rintro e w2 ⟨rfl, hw⟩
          rw [hw]
          clear hw
          go_wp2_with fail
          go_ret
          exact ⟨by rw [HQ.out]; rfl, hb0⟩
    · have RB : Hid (rng b 0 99999 = 3) := Lib.hid (rng_bad h2)
      have HQ : Hid (perErr a b m = 3) := Lib.hid (by rw [HP.out, if_neg (by simpa using h1), if_pos h2])
      go_enter Tryz.func174, Tryz.ntmps174
      go_wp2_with fail
      rw [HW.out]
      refine (qCheckDay_any _ _).mono ?_
      rintro e w2 ⟨rfl, hw⟩
      rw [hw, RA.out]
      clear hw
      go_wp2_with fail
      refine (qCheckDay_any _ _).mono ?_
      rintro e w2 ⟨rfl, hw⟩
      rw [hw, RB.out]
      clear hw
      go_wp2_with fail
      go_ret
      exact ⟨by rw [HQ.out]; rfl, hb0⟩
  · have RA : Hid (rng a 0 99999 = 3) := Lib.hid (rng_bad h1)
    have HQ : Hid (perErr a b m = 3) := Lib.hid (by rw [HP.out, if_pos h1])
    go_enter Tryz.func174, Tryz.ntmps174
    go_wp2_with fail
    rw [HW.out]
    refine (qCheckDay_any _ _).mono ?_
    rintro e w2 ⟨rfl, hw⟩
    rw [hw, RA.out]
    clear hw
    go_wp2_with fail
    go_ret
    exact ⟨by rw [HQ.out]; rfl, hb0⟩
end Go.Proofs.YtlcmcknbbmokjaaGreat
namespace Go.Proofs.YtlcmcknbbmokjaaGreat
open Go Go.RowKit
theorem tm7f (x : Int) : (x.tmod 7) % 7 = x % 7 := by
  have := tm7e x
  omega
theorem two_per (w : World) (a b m : Int) : ∃ W, Hid ((w.alloc (.cells #[.int .i64 a, .int .i64 b, .int .i64 m] 24)).alloc (.cells #[.int .i64 0, .int .i64 0, .int .i64 0] 24) = W) ∧ Below w.heap.size w W ∧
      W.cell? ⟨w.heap.size, 0, none⟩ = some (.int .i64 a) ∧ W.cell? ⟨w.heap.size, 1, none⟩ = some (.int .i64 b) ∧ W.cell? ⟨w.heap.size, 2, none⟩ = some (.int .i64 m) ∧ Res 3 (w.heap.size + 1) W W ∧ w.heap.size + 2 ≤ W.heap.size :=
    ⟨_, Lib.hid rfl, below_alloc2 w _ _, by simp, by simp, by simp, ⟨fun i hi => by
        match i, hi with
        | 0, _ => exact ⟨.int .i64 0, by simp⟩
        | 1, _ => exact ⟨.int .i64 0, by simp⟩
        | 2, _ => exact ⟨.int .i64 0, by simp⟩, fun i hi => by
        match i, hi with
        | 0, _ => simp
        | 1, _ => simp
        | 2, _ => simp, Below.refl _ _⟩, by simp⟩
end Go.Proofs.YtlcmcknbbmokjaaGreat
namespace Go.Proofs.YtlcmcknbbmokjaaGreat
open Go Go.RowKit
def inSplit (a b day : Int) : Bool := decide (a < day) && decide (day ≤ b)
def splitErr (a b m day : Int) : Int := fst [perErr a b m, unl (inSplit a b day) 30]
def zero6 : Value := .agg #[.int .i64 0, .int .i64 0, .int .i64 0, .int .i64 0, .int .i64 0, .int .i64 0]
theorem perErr_zero {a b m : Int} (h : perErr a b m = 0) : 0 ≤ a ∧ a ≤ b ∧ b ≤ 99999 ∧ b - a ≤ 400 ∧ 1 ≤ m ∧ m ≤ 127 := by
  rw [perErr_eq a b m] at h
  by_cases h1 : 0 ≤ a ∧ a ≤ 99999
  · rw [if_neg (by simpa using h1)] at h
    by_cases h2 : 0 ≤ b ∧ b ≤ 99999
    · rw [if_neg (by simpa using h2)] at h
      by_cases h3 : b < a
      · rw [if_pos h3] at h; omega
      · rw [if_neg h3] at h
        by_cases h4 : 400 < b - a
        · rw [if_pos h4] at h; omega
        · rw [if_neg h4] at h
          have := rng_zero h
          omega
    · rw [if_pos h2] at h; omega
  · rw [if_pos h1] at h; omega
end Go.Proofs.YtlcmcknbbmokjaaGreat
namespace Go.Proofs.YtlcmcknbbmokjaaGreat
open Go Go.RowKit
end Go.Proofs.YtlcmcknbbmokjaaGreat
namespace Go.Proofs.YtlcmcknbbmokjaaGreat
open Go Go.RowKit
section
variable {P : Program}
/-- A frame that ends the run as soon as it is resumed. -/
def deadEnd : Frame := { fn := 0, tmps := #[], todo := [.code (.goto 0)], defers := [], mode := .run, kind := .normal }
theorem deadEnd_finish (v : Value) : deadEnd.finish v = deadEnd := rfl
theorem deadEnd_step (w : World) : ∃ o w', step P (lone deadEnd [] w) = .ended o w' := by
  refine ⟨_, _, step_lone_ended (o := .stuck "exit, goto: no such block or label" (deadEnd.pos P)) (w' := w) ?_⟩
  simp [stepG, stepG.exec, deadEnd, gotoIn]
theorem leaves_once {fr1 fr2 : Frame} {w1 w2 : World} {v : Value} (hl : fr1.leaving P w1 (.returned v)) : ∀ k, runN P k (lone fr1 [deadEnd] w1) = .next (lone fr2 [deadEnd] w2) → fr1 = fr2 ∧ w1 = w2
  | 0, h => by
    simp only [runN, Stepped.next.injEq, lone, Machine.mk.injEq] at h
    obtain ⟨h1, h2, _⟩ := h
    have h3 : fr1 = fr2 := by simpa using h2
    exact ⟨h3, h1⟩
  | 1, h => by
    have h' : (match step P (lone fr1 [deadEnd] w1) with | .next m => runN P 0 m | e => e) = .next (lone fr2 [deadEnd] w2) := h
    rw [step_leave_returned hl] at h'
    simp only [runN, Stepped.next.injEq, lone, Machine.mk.injEq] at h'
    obtain ⟨_, h2, _⟩ := h'
    simp at h2
  | k + 2, h => by
    obtain ⟨o, w', he⟩ := deadEnd_step (P := P) w1
    have h' : (match step P (lone fr1 [deadEnd] w1) with | .next m => runN P (k + 1) m | e => e) = .next (lone fr2 [deadEnd] w2) := h
    rw [step_leave_returned hl, deadEnd_finish] at h'
    have h'' : (match step P (lone deadEnd [] w1) with | .next m => runN P k m | e => e) = .next (lone fr2 [deadEnd] w2) := h'
    rw [he] at h''
    cases h''
theorem leaving_one {fr : Frame} {w : World} {v v' : Value} (h : fr.leaving P w (.returned v)) (h' : fr.leaving P w (.returned v')) : v = v' := by
  obtain ⟨_, _, _, fn, hf, hr⟩ := h
  obtain ⟨_, _, _, fn', hf', hr'⟩ := h'
  rw [hf] at hf'
  cases hf'
  rw [hr] at hr'
  cases hr'
  rfl
theorem calls_one {f : FuncId} {args : Array Value} {w : World} {v v' : Value} {R R' : World → Prop} (h : Calls P f args w fun e w' => e = .returned v ∧ R w') (h' : Calls P f args w fun e w' => e = .returned v' ∧ R' w') : v = v' := by
  obtain ⟨_, w1, fr1, ⟨rfl, _⟩, ⟨n1, h1⟩, _, hl1⟩ := h [deadEnd]
  obtain ⟨_, w2, fr2, ⟨rfl, _⟩, ⟨n2, h2⟩, _, hl2⟩ := h' [deadEnd]
  rcases Nat.le_total n1 n2 with hle | hle
  · obtain ⟨k, rfl⟩ := Nat.le.dest hle
    rw [runN_add, h1] at h2
    obtain ⟨rfl, rfl⟩ := leaves_once hl1 k h2
    exact leaving_one hl1 hl2
  · obtain ⟨k, rfl⟩ := Nat.le.dest hle
    rw [runN_add, h2] at h1
    obtain ⟨rfl, rfl⟩ := leaves_once hl2 k h1
    exact leaving_one hl1 hl2
theorem quietAt_one {o : Oper} {a : Act} {C C' : World → Prop} {w : World} {v v' : Value} (h : o.quietAt P a C w v) (h' : o.quietAt P a C' w v') : v = v' := by
  unfold Oper.quietAt at h h'
  generalize (execOp a.eval o).run P w = r at *
  cases r with
  | ok n w' =>
    cases n <;> simp only [Oper.quietUpon] at h h'
    case value u => exact h.2.symm.trans h'.2
    case skip => exact h.2.trans h'.2.symm
    case enter f args => exact calls_one h.2 h'.2
  | halt x w' => simp only [Oper.quietUpon] at h
variable {ops : Array Oper} {md : Region.Mode}
theorem yieldsIn_one {o : Oper} {a : Act} {C C' : World → Prop} {w : World} {v v' : Value} (hw : C w) (hw' : C' w) (h : YieldsIn P ops C o v a) (h' : YieldsIn P ops C' o v' a) : v = v' := by
  rcases h with ⟨g, h⟩ | ⟨g, h⟩ <;> rcases h' with ⟨g', h'⟩ | ⟨g', h'⟩
  · exact quietAt_one (h w hw) (h' w hw')
  · rw [g] at g'; cases g'
  · rw [g] at g'; cases g'
  · rw [h, h']
/-- The worlds that keep what w holds. -/
def Kp (w : World) : World → Prop := fun w' => ∃ x : KeptW w, w' = x.v
theorem Kp.iff {w w' : World} : Kp w w' ↔ Below w.heap.size w w' := ⟨fun ⟨x, h⟩ => h ▸ x.below, fun h => ⟨⟨w', h⟩, rfl⟩⟩
theorem Kp.self (w : World) : Kp w w := Kp.iff.2 (Below.refl _ w)
theorem Kp.trans {w w1 w2 : World} (h : Kp w w1) (k : Kp w1 w2) : Kp w w2 := Kp.iff.2 (b_then (Kp.iff.1 h) (Kp.iff.1 k))
/-- The walk's order: a run of neighbours, from k on. -/
def segB (md : Region.Mode) (ops : Array Oper) : Nat → Nat → Array Bool → Bool
  | 0, _, _ => true
  | f + 1, k, listed => (Region.ready md ops listed).contains k && Region.free md ops listed k && segB md ops f (k + 1) (listed.setIfInBounds k true)
def segTo : Nat → Nat → Array Bool → Array Bool
  | 0, _, listed => listed
  | f + 1, k, listed => segTo f (k + 1) (listed.setIfInBounds k true)
theorem HeadQ.seg {C : World → Prop} {n f : Nat} {L : Array Bool → Act → Prop} (hsel : Region.noSelect ops = true) (hs : Region.sinkB md ops n = true) (hc : Region.chainB md ops n = true) (hn : n < ops.size) (hL : ∀ listed a, L listed a → ∀ j ∈ Region.ready md ops listed, n ≤ j) (l : List Oper) :
    ∀ (k : Nat) (listed : Array Bool) (a : Act), (∀ j, j < l.length → l[j]? = ops[k + j]?) → k + l.length ≤ n → HeadInv md ops n listed → segB md ops l.length k listed = true →
      wpQuiet P ops C (fun a' => HeadInv md ops n (segTo l.length k listed) → HeadQ P md ops C n L f (segTo l.length k listed) a') l a → HeadQ P md ops C n L (l.length + f) listed a := by
  induction l with
  | nil => intro k listed a _ _ inv _ h; rw [List.length_nil, Nat.zero_add]; exact h inv
  | cons o l ih =>
    intro k listed a hl hk inv hB h
    have h0 : ops[k]? = some o := by simpa using (hl 0 (by simp)).symm
    simp only [List.length_cons, segB, Bool.and_eq_true, List.contains_iff_mem] at hB
    have hkn : k < n := by simp only [List.length_cons] at hk; omega
    obtain ⟨v, hy, hK⟩ := yieldsIn_of_qOp (K := wpQuiet P ops C _ l) h0 (by unfold qOp; simp only [h0]; exact h)
    rw [List.length_cons, Nat.succ_add]
    exact HeadQ.first h0 (Region.noSelect_spec hsel) hs hc hn hkn hL _ listed a inv (Region.free_spec h0 hB.1.2) hB.1.1 hy
      (ih (k + 1) _ _ (fun j hj => by have := hl (j + 1) (by simp; omega); simpa [Nat.add_assoc, Nat.add_comm 1 j] using this) (by simp only [List.length_cons] at hk; omega) (inv.set hB.1.1 hkn) hB.2 hK)
theorem wpQuiet_append {C : World → Prop} {Q : Act → Prop} (l1 l2 : List Oper) : ∀ a, wpQuiet P ops C Q (l1 ++ l2) a → wpQuiet P ops C (wpQuiet P ops C Q l2) l1 a := by
  induction l1 with
  | nil => intro a h; exact h
  | cons o l ih =>
    intro a h
    have h' : (if Region.wanted o (yielded ops a.tmps) then o.quiet P a C (wpQuiet P ops C Q (l ++ l2)) else wpQuiet P ops C Q (l ++ l2) (a.put o.dst undef)) := h
    show (if Region.wanted o (yielded ops a.tmps) then o.quiet P a C (wpQuiet P ops C (wpQuiet P ops C Q l2) l) else wpQuiet P ops C (wpQuiet P ops C Q l2) l (a.put o.dst undef))
    split
    · rename_i hw; rw [if_pos hw] at h'; exact Oper.quiet_mono ih h'
    · rename_i hw; rw [if_neg hw] at h'; exact ih _ h'
theorem wpQuiet_mono {C : World → Prop} {Q Q' : Act → Prop} (hQ : ∀ a, Q a → Q' a) (l : List Oper) : ∀ a, wpQuiet P ops C Q l a → wpQuiet P ops C Q' l a := by
  induction l with
  | nil => intro a h; exact hQ a h
  | cons o l ih =>
    intro a h
    have h' : (if Region.wanted o (yielded ops a.tmps) then o.quiet P a C (wpQuiet P ops C Q l) else wpQuiet P ops C Q l (a.put o.dst undef)) := h
    show (if Region.wanted o (yielded ops a.tmps) then o.quiet P a C (wpQuiet P ops C Q' l) else wpQuiet P ops C Q' l (a.put o.dst undef))
    split
    · rename_i hw; rw [if_pos hw] at h'; exact Oper.quiet_mono ih h'
    · rename_i hw; rw [if_neg hw] at h'; exact ih _ h'
/-- An operation that makes the block o and yields its address, in whatever world. -/
def Makes (P : Program) (oi : Oper) (o : Obj) : Prop := oi.guard = none ∧ ∀ (a : Act) (w : World), (execOp a.eval oi).run P w = .ok (.value (.pointer (some ⟨w.heap.size, 0, none⟩))) (w.alloc o)
theorem Makes.wpOp {oi : Oper} {o : Obj} {i : Nat} {Q : Exit → Act → World → Prop} {K : Act → World → Prop} {a : Act} {w : World} (h : Makes P oi o) (hi : ops[i]? = some oi) (hk : K (a.put oi.dst (.pointer (some ⟨w.heap.size, 0, none⟩))) (w.alloc o)) : wpOp P ops Q i K a w := by
  unfold Go.wpOp
  simp only [hi]
  have hw : Region.wanted oi (yielded ops a.tmps) = true := by simp [Region.wanted, h.1]
  simp only [hw, if_true, Oper.wp, h.2 a w, Oper.upon]
  exact .inl hk
/-- The operation that makes a block may be taken first. -/
theorem alloc_first {w0 : World} {n i g : Nat} {oi : Oper} {o : Obj} {L : Nat → Array Bool → Act → Prop} {Q : Exit → Act → World → Prop} (hi : ops[i]? = some oi) (hm : Makes P oi o) (hsel : ∀ (j : Nat) (o : Oper) cs b, ops[j]? = some o → o.op ≠ .select cs b)
    (hs : Region.sinkB md ops n = true) (hc : Region.chainB md ops n = true) (hn : n < ops.size) (hin : i < n) (hdone : ∀ A listed a, L A listed a → ∀ j ∈ Region.ready md ops listed, n ≤ j)
    (hL : ∀ A listed a w, Kp w0 w → w0.heap.size ≤ A → w.heap[A]? = some o → L A listed a → wpAny P md ops Q g listed a w) (f : Nat) :
    ∀ (listed : Array Bool) (a : Act) (w : World), Kp w0 w → HeadInv md ops n listed →
      (∀ j oj, ops[j]? = some oj → j ≠ i → listed.getD j true = false → (∀ e ∈ oj.after, Region.binds md e = true → e.on ≠ i) → oi.apart ops oj = true) →
      i ∈ Region.ready md ops listed → (∀ A w1, Kp w0 w1 → HeadQ P md ops (Kp w1) n (L A) f (listed.setIfInBounds i true) (a.put oi.dst (.pointer (some ⟨A, 0, none⟩)))) → wpAny P md ops Q (f + 1 + g) listed a w := by
  have atI : ∀ (f : Nat) (listed : Array Bool) (a : Act) (w : World), Kp w0 w → (∀ A w1, Kp w0 w1 → HeadQ P md ops (Kp w1) n (L A) f (listed.setIfInBounds i true) (a.put oi.dst (.pointer (some ⟨A, 0, none⟩)))) →
      wpOp P ops Q i (wpAny P md ops Q (f + g) (listed.setIfInBounds i true)) a w := fun f listed a w hw H => by
    refine hm.wpOp hi ?_
    have hk : Kp w0 (w.alloc o) := hw.trans (Kp.iff.2 (below_alloc w o))
    refine HeadQ.any (C := Kp (w.alloc o)) (L := L w.heap.size) (fun listed' a' w' hw' hl => hL _ _ _ _ (hk.trans hw') (Kp.iff.1 hw).size ?_ hl) f _ _ _ (Kp.self _) (H _ _ hk)
    rw [(Kp.iff.1 hw').block w.heap.size (by show _ < (w.heap.push o).size; simp)]
    show (w.heap.push o)[w.heap.size]? = _
    simp
  have heq : ∀ m, m + 1 + g = (m + g) + 1 := fun m => by omega
  induction f with
  | zero =>
    intro listed a w hw inv _ hr H
    rw [heq]
    refine ⟨fun h0 => absurd h0 (List.ne_nil_of_mem hr), fun j hj => ?_⟩
    have hjn : j < n := Nat.lt_of_not_le fun h => tail_waits hs hc hn inv _ i rfl hin (mem_ready.1 hr).1 j h hj
    rcases Nat.decEq j i with hji | hji
    · exact absurd (hdone _ _ _ (H 0 w0 (Kp.self _)) j (ready_mono hj hji)) (by omega)
    · subst hji; exact atI 0 listed a w hw H
  | succ f ih =>
    intro listed a w hw inv hfree hr H
    rw [heq]
    refine ⟨fun h0 => absurd h0 (List.ne_nil_of_mem hr), fun j hj => ?_⟩
    have hjn : j < n := Nat.lt_of_not_le fun h => tail_waits hs hc hn inv _ i rfl hin (mem_ready.1 hr).1 j h hj
    rcases Nat.decEq j i with hji | hji
    · obtain ⟨hun, oj, hoj, hall⟩ := mem_ready.1 hj
      have hnot : ∀ e ∈ oj.after, Region.binds md e = true → e.on ≠ i := fun e he hb heq => by
        have h1 := hall e he hb
        rw [heq, getD_both (mem_ready.1 hr).1] at h1
        cases h1
      have hap := hfree j oj hoj hji hun hnot
      obtain ⟨p1, p2, p3⟩ := Oper.apart_spec hap
      have hone : ∀ A w1, Kp w0 w1 → ∃ v, YieldsIn P ops (Kp w1) oj v a ∧ HeadQ P md ops (Kp w1) n (L A) f ((listed.setIfInBounds i true).setIfInBounds j true) ((a.put oi.dst (.pointer (some ⟨A, 0, none⟩))).put oj.dst v) := fun A w1 hw1 => by
        obtain ⟨v, hy, hk⟩ := yieldsIn_of_qOp hoj ((H A w1 hw1).2 j (ready_mono hj hji)).2
        exact ⟨v, hy.of_same (execOp_put oj (fun cs b => hsel j oj cs b hoj) a oi.dst _ p1).symm (wanted_put oj a oi.dst _ p1).symm, hk⟩
      obtain ⟨v, hv, -⟩ := hone 0 w0 (Kp.self _)
      have hall : ∀ A w1, Kp w0 w1 → HeadQ P md ops (Kp w1) n (L A) f ((listed.setIfInBounds j true).setIfInBounds i true) ((a.put oj.dst v).put oi.dst (.pointer (some ⟨A, 0, none⟩))) := fun A w1 hw1 => by
        obtain ⟨u, hu, hk⟩ := hone A w1 hw1
        obtain rfl : v = u := yieldsIn_one hw1 (Kp.self w1) hv hu
        rw [Array.setIfInBounds_comm _ _ hji, ← Act.put_comm a (.pointer (some ⟨A, 0, none⟩)) v p2]
        exact hk
      obtain ⟨u, hu, -⟩ := hone 0 w hw
      obtain rfl : v = u := yieldsIn_one hw (Kp.self w) hv hu
      refine wpOp_of_qOp (C := Kp w) (K := fun a' => a' = a.put oj.dst v) (Kp.self w) (fun a' w' hw' ha => ?_) (hu.qOp hoj rfl)
      subst ha
      have := ih (listed.setIfInBounds j true) (a.put oj.dst v) w' (hw.trans hw') (inv.set hj hjn) (fun k ok hk hki hk2 hno => hfree k ok hk hki (by
        rcases Nat.decEq j k with hjk | hjk
        · rwa [getD_set_ne true hjk] at hk2
        · subst hjk; exact hun) hno) (ready_mono hr (Ne.symm hji)) hall
      exact this
    · subst hji; exact atI _ listed a w hw H
/-- What the order must be like: number i may come first. -/
def allocB (md : Region.Mode) (ops : Array Oper) (n i : Nat) : Bool :=
  let l0 := Array.replicate ops.size false
  let l1 := l0.setIfInBounds i true
  let l2 := segTo i 0 l1
  Region.noSelect ops && decide (n < ops.size) && decide (i < n) && Region.sinkB md ops n && Region.chainB md ops n && (Region.ready md ops l0).contains i && Region.free md ops l0 i &&
    segB md ops i 0 l1 && segB md ops (n - i - 1) (i + 1) l2 && Region.seqB md ops (ops.size - n) n (segTo (n - i - 1) (i + 1) l2)
theorem alloc_tail {id : Nat} {Q : Exit → Act → World → Prop} {a : Act} {w : World} {l : List Oper} {oi : Oper} {o : Obj} (n i : Nat) (hm : P.follows .mixedOrders = true) (hB : allocB .any l.toArray n i = true) (hi : l[i]? = some oi) (hmk : Makes P oi o)
    (h : ∀ (A : Nat) (w1 : World), Below w.heap.size w w1 → wpQuiet P l.toArray (fun w' => ∃ x : KeptW w1, w' = x.v) (fun a' => ∀ w', Below w.heap.size w w' → w.heap.size ≤ A → w'.heap[A]? = some o → wpList P l.toArray Q (l.drop n) a' w') (l.take i ++ (l.take n).drop (i + 1)) (a.put oi.dst (.pointer (some ⟨A, 0, none⟩)))) :
    (Code.region id l.toArray true).wp P Q a w := by
  simp only [allocB, Bool.and_eq_true, decide_eq_true_eq, List.contains_iff_mem] at hB
  obtain ⟨⟨⟨⟨⟨⟨⟨⟨⟨hsel, hn⟩, hin⟩, hs⟩, hc⟩, hr⟩, hf⟩, hs1⟩, hs2⟩, hq⟩ := hB
  have hlen : n < l.length := by simpa using hn
  have hdl : (l.drop n).length = l.toArray.size - n := by simp
  have hi' : l.toArray[i]? = some oi := by simpa using hi
  have l1 : (l.take i).length = i := by simp; omega
  have l2 : ((l.take n).drop (i + 1)).length = n - i - 1 := by simp; omega
  have inv0 : HeadInv .any l.toArray n (Array.replicate l.toArray.size false) :=
    ⟨by simp, fun j oj _ hl => (by rw [getD_replicate_false] at hl; cases hl), fun t _ ht => getD_in (by simpa using ht) (getD_replicate_false _ _)⟩
  have T := alloc_first (md := .any) (w0 := w) (Q := Q) (g := l.toArray.size - n) (f := n - 1) (L := fun A listed' a' => Region.seqB .any l.toArray (l.toArray.size - n) n listed' = true ∧ ∀ w', Kp w w' → w.heap.size ≤ A → w'.heap[A]? = some o → wpList P l.toArray Q (l.drop n) a' w')
    hi' hmk (Region.noSelect_spec hsel) hs hc hn hin (fun _ _ _ hL => seqB_ready hL.1) (fun A listed' a' w' hw' hA hb hL => by
      have := wpAny_of_seq (md := .any) (Q' := Q) (l.drop n) n listed' a' w' (fun j => by simp [List.getElem?_drop]) (by rw [hdl]; exact hL.1) (hL.2 w' hw' hA hb)
      rwa [hdl] at this) _ a w.drew (Kp.iff.2 (below_drew w)) inv0 (Region.free_spec hi' hf) hr (fun A w1 hw1 => by
        have H := wpQuiet_append _ _ _ (h A w1 (Kp.iff.1 hw1))
        have e1 : n - 1 = (l.take i).length + (((l.take n).drop (i + 1)).length + 0) := by rw [l1, l2]; omega
        rw [e1]
        refine HeadQ.seg hsel hs hc hn (fun _ _ hL => seqB_ready hL.1) _ 0 _ _ (fun j hj => by rw [l1] at hj; simp [hj]) (by rw [l1]; omega) (inv0.set hr hin) (by rw [l1]; exact hs1) ?_
        refine wpQuiet_mono (fun a' h' inv1 => ?_) _ _ H
        rw [l1] at inv1 ⊢
        refine HeadQ.seg hsel hs hc hn (fun _ _ hL => seqB_ready hL.1) _ (i + 1) _ _ (fun j hj => by rw [l2] at hj; rw [List.getElem?_drop, List.getElem?_take_of_lt (by omega)]; simp) (by rw [l2]; omega) inv1 (by rw [l2]; exact hs2) ?_
        refine wpQuiet_mono (fun a'' h'' _ => ?_) _ _ h'
        rw [l2]
        exact ⟨hq, fun w' hw' => h'' w' (Kp.iff.1 hw')⟩)
  rw [Nat.sub_add_cancel (by omega), Nat.add_sub_cancel' (Nat.le_of_lt hn)] at T
  exact wp_region_any hm T
end
end Go.Proofs.YtlcmcknbbmokjaaGreat
namespace Go.Proofs.YtlcmcknbbmokjaaGreat
open Go Go.RowKit
def shiftErr (a b m d : Int) : Int := fst [perErr a b m, rng d (-99999) 99999]
def zeroPer : Value := .agg #[.int .i64 0, .int .i64 0, .int .i64 0]
theorem fresh_frozen (w : World) (l : Array Value) (T : TypeId) (a : Addr) (h : a.block = w.heap.size) : (w.alloc (.cells l T)).frozen? a = false := by
  have e : (w.alloc (.cells l T)).heap[a.block]? = some (.cells l T (0, 0)) := by rw [h]; show (w.heap.push _)[_]? = _; simp
  unfold World.frozen?
  simp only [e]
  simp
theorem sh_below {a b n : Int} {B : Nat} {W w' w2 : World} (h : w'.cell? ⟨B, 0, none⟩ = some (.int .i64 a) ∧ w'.cell? ⟨B, 1, none⟩ = some (.int .i64 b) ∧ w'.cell? ⟨B, 2, none⟩ = some (.int .i64 n) ∧ Res 3 (B + 1) W w') (hb : Below w'.heap.size w' w2) :
    w2.cell? ⟨B, 0, none⟩ = some (.int .i64 a) ∧ w2.cell? ⟨B, 1, none⟩ = some (.int .i64 b) ∧ w2.cell? ⟨B, 2, none⟩ = some (.int .i64 n) ∧ Res 3 (B + 1) W w2 :=
  ⟨b_old hb h.1, b_old hb h.2.1, b_old hb h.2.2.1, h.2.2.2.more (h.2.2.2.pos (by decide)) hb⟩
theorem sh_set {a b n : Int} {B p : Nat} {W w' : World} (h : w'.cell? ⟨B, 0, none⟩ = some (.int .i64 a) ∧ w'.cell? ⟨B, 1, none⟩ = some (.int .i64 b) ∧ w'.cell? ⟨B, 2, none⟩ = some (.int .i64 n) ∧ Res 3 (B + 1) W w') (hp : B + 2 ≤ p) (x y z : Value) :
    (((w'.setCell ⟨p, 0, none⟩ x).setCell ⟨p, 1, none⟩ y).setCell ⟨p, 2, none⟩ z).cell? ⟨B, 0, none⟩ = some (.int .i64 a) ∧ (((w'.setCell ⟨p, 0, none⟩ x).setCell ⟨p, 1, none⟩ y).setCell ⟨p, 2, none⟩ z).cell? ⟨B, 1, none⟩ = some (.int .i64 b) ∧
      (((w'.setCell ⟨p, 0, none⟩ x).setCell ⟨p, 1, none⟩ y).setCell ⟨p, 2, none⟩ z).cell? ⟨B, 2, none⟩ = some (.int .i64 n) ∧ Res 3 (B + 1) W (((w'.setCell ⟨p, 0, none⟩ x).setCell ⟨p, 1, none⟩ y).setCell ⟨p, 2, none⟩ z) := by
  have hb : Below (B + 2) w' (((w'.setCell ⟨p, 0, none⟩ x).setCell ⟨p, 1, none⟩ y).setCell ⟨p, 2, none⟩ z) := (((Below.refl _ _).setCell (p := ⟨p, 0, none⟩) hp x).setCell (p := ⟨p, 1, none⟩) hp y).setCell (p := ⟨p, 2, none⟩) hp z
  exact ⟨b_keep hb (by omega) h.1, b_keep hb (by omega) h.2.1, b_keep hb (by omega) h.2.2.1, h.2.2.2.up hb⟩
end Go.Proofs.YtlcmcknbbmokjaaGreat
namespace Go.Proofs.YtlcmcknbbmokjaaGreat
open Go Go.RowKit
theorem block3 {w : World} {A : Nat} {a b c : Value} {T : TypeId} (h : w.heap[A]? = some (.cells #[a, b, c] T)) :
    w.cell? ⟨A, 0, none⟩ = some a ∧ w.cell? ⟨A, 1, none⟩ = some b ∧ w.cell? ⟨A, 2, none⟩ = some c ∧ w.frozen? ⟨A, 0, none⟩ = false ∧ w.frozen? ⟨A, 1, none⟩ = false ∧ w.frozen? ⟨A, 2, none⟩ = false := by
  simp [World.cell?, World.frozen?, h]
theorem below_drewN (w : World) (q : Nat) : Below w.heap.size w (w.drewN q) := ⟨rfl, rfl, rfl, Nat.le_refl _, fun _ _ => rfl⟩
theorem KeptW.calls_drew {P : Program} {w : World} {x : KeptW w} {f : FuncId} {args : Array Value} {u : Value} (h : Calls P f args x.v fun e w' => e = .returned u ∧ ∃ q, w' = x.v.drewN q) :
    Calls P f args x.v fun e w' => e = .returned u ∧ ∃ y : KeptW w, w' = y.v :=
  KeptW.calls (h.mono fun _ _ ⟨he, q, hb⟩ => ⟨he, hb ▸ below_drewN _ q⟩)
end Go.Proofs.YtlcmcknbbmokjaaGreat
namespace Go.Proofs.YtlcmcknbbmokjaaGreat
open Go Go.RowKit
section
variable {P : Program} {ops : Array Oper} {md : Region.Mode} {w0 : World} {hb : Oper → Bool} {S : Oper → Value → World → Prop}
def QuietIn (P : Program) (w0 : World) (x : Sem Next) (u : Value) : Prop := ∀ w, Kp w0 w → Oper.quietUpon P (Kp w) w u (x.run P w)
def heldUpon (P : Program) (w : World) (R : Value → World → Prop) : Result Next → Prop
  | .ok (.value v) w' => Kp w w' ∧ R v w'
  | .ok .skip w' => Kp w w' ∧ R undef w'
  | .ok (.enter f args) w' => Kp w w' ∧ Calls P f args w' (fun e w'' => ∃ v, e = .returned v ∧ Kp w w'' ∧ R v w'')
  | _ => False
def RX (P : Program) (w0 : World) (hb : Oper → Bool) (S : Oper → Value → World → Prop) (o : Oper) (x : Sem Next) (v : Value) (w : World) : Prop := if hb o = true then S o v w else ∀ u, QuietIn P w0 x u → v = u
def HeldX (P : Program) (w0 : World) (hb : Oper → Bool) (S : Oper → Value → World → Prop) (o : Oper) (x : Sem Next) : Prop := ∀ w, Kp w0 w → heldUpon P w (RX P w0 hb S o x) (x.run P w)
theorem RX.stay (hS : ∀ o v w w', S o v w → Kp w w' → S o v w') {o : Oper} {x : Sem Next} {v : Value} {w w' : World} (h : RX P w0 hb S o x v w) (hw : Kp w w') : RX P w0 hb S o x v w' := by
  unfold RX at *
  split
  · rename_i e; rw [if_pos e] at h; exact hS _ _ _ _ h hw
  · rename_i e; rw [if_neg e] at h; exact h
theorem HeldX.some {o : Oper} {x : Sem Next} (h : HeldX P w0 hb S o x) : ∃ v w, Kp w0 w ∧ RX P w0 hb S o x v w := by
  have h0 := h w0 (Kp.self _)
  generalize x.run P w0 = r at h0
  cases r with
  | ok n w' =>
    cases n
    case value v => exact ⟨v, w', h0⟩
    case skip => exact ⟨_, w', h0⟩
    case enter f args =>
      obtain ⟨e, w'', fr, ⟨v, -, h1, h2⟩, -⟩ := h0.2 []
      exact ⟨v, w'', h1, h2⟩
    all_goals exact (h0 : False).elim
  | halt y w' => exact absurd h0 (by cases y <;> exact id)
def hOp (P : Program) (ops : Array Oper) (w0 : World) (hb : Oper → Bool) (S : Oper → Value → World → Prop) (o : Oper) (K : World → Prop) (a : Act) (next : (World → Prop) → Act → Prop) : Prop :=
  if Region.wanted o (yielded ops a.tmps) then HeldX P w0 hb S o (execOp a.eval o) ∧ ∀ v, (∃ w, Kp w0 w ∧ RX P w0 hb S o (execOp a.eval o) v w) → next (fun w => K w ∧ RX P w0 hb S o (execOp a.eval o) v w) (a.put o.dst v)
  else next K (a.put o.dst undef)
theorem hOp.mono {o : Oper} {K : World → Prop} {a : Act} {next next' : (World → Prop) → Act → Prop} (hn : ∀ K a, next K a → next' K a) (h : hOp P ops w0 hb S o K a next) : hOp P ops w0 hb S o K a next' := by
  unfold hOp at *
  split
  · rename_i e; rw [if_pos e] at h; exact ⟨h.1, fun v hv => hn _ _ (h.2 v hv)⟩
  · rename_i e; rw [if_neg e] at h; exact hn _ _ h
/-- Two operations that are apart may change places. -/
theorem hOp.swap {oi oj : Oper} {K : World → Prop} {a : Act} {next : (World → Prop) → Act → Prop} (hap : oi.apart ops oj = true) (hsi : ∀ cs b, oi.op ≠ .select cs b) (hsj : ∀ cs b, oj.op ≠ .select cs b)
    (h : hOp P ops w0 hb S oi K a (fun K' a' => hOp P ops w0 hb S oj K' a' next)) : hOp P ops w0 hb S oj K a (fun K' a' => hOp P ops w0 hb S oi K' a' next) := by
  obtain ⟨p1, p2, p3⟩ := Oper.apart_spec hap
  have ej : ∀ v, execOp (a.put oi.dst v).eval oj = execOp a.eval oj := fun v => execOp_put oj hsj a oi.dst v p1
  have wj : ∀ v, Region.wanted oj (yielded ops (a.put oi.dst v).tmps) = Region.wanted oj (yielded ops a.tmps) := fun v => wanted_put oj a oi.dst v p1
  have ei : ∀ v, execOp (a.put oj.dst v).eval oi = execOp a.eval oi := fun v => execOp_put oi hsi a oj.dst v p3
  have wi : ∀ v, Region.wanted oi (yielded ops (a.put oj.dst v).tmps) = Region.wanted oi (yielded ops a.tmps) := fun v => wanted_put oi a oj.dst v p3
  have hcomm : ∀ v u, (a.put oi.dst v).put oj.dst u = (a.put oj.dst u).put oi.dst v := fun v u => Act.put_comm a v u p2
  simp only [hOp, ej, wj, ei, wi] at h ⊢
  by_cases hi : Region.wanted oi (yielded ops a.tmps) = true
  · simp only [hi, if_true] at h ⊢
    obtain ⟨hI, hN⟩ := h
    obtain ⟨v0, w1, h1, h2⟩ := hI.some
    by_cases hj : Region.wanted oj (yielded ops a.tmps) = true
    · simp only [hj, if_true] at hN ⊢
      refine ⟨(hN v0 ⟨w1, h1, h2⟩).1, fun u hu => ⟨hI, fun v hv => ?_⟩⟩
      have := (hN v hv).2 u hu
      rw [hcomm] at this
      have e : (fun w => (K w ∧ RX P w0 hb S oi (execOp a.eval oi) v w) ∧ RX P w0 hb S oj (execOp a.eval oj) u w) = (fun w => (K w ∧ RX P w0 hb S oj (execOp a.eval oj) u w) ∧ RX P w0 hb S oi (execOp a.eval oi) v w) := funext fun w => propext ⟨fun h => ⟨⟨h.1.1, h.2⟩, h.1.2⟩, fun h => ⟨⟨h.1.1, h.2⟩, h.1.2⟩⟩
      rw [← e]
      exact this
    · simp only [hj] at hN ⊢
      refine ⟨hI, fun v hv => ?_⟩
      have := hN v hv
      rw [if_neg (by simp)] at this
      rw [hcomm] at this
      exact this
  · simp only [hi] at h ⊢
    rw [if_neg (by simp)] at h
    by_cases hj : Region.wanted oj (yielded ops a.tmps) = true
    · simp only [hj, if_true] at h ⊢
      refine ⟨h.1, fun u hu => ?_⟩
      rw [if_neg (by simp)]
      have := h.2 u hu
      rw [hcomm] at this
      exact this
    · simp only [hj] at h ⊢
      rw [if_neg (by simp)] at h ⊢
      rw [if_neg (by simp)]
      rw [hcomm] at h
      exact h
/-- Whatever order is drawn among the first n operations, f of them; then L. -/
def HeadR (P : Program) (md : Region.Mode) (ops : Array Oper) (w0 : World) (hb : Oper → Bool) (S : Oper → Value → World → Prop) (n : Nat) (L : Array Bool → (World → Prop) → Act → Prop) (f : Nat) : Array Bool → (World → Prop) → Act → Prop :=
  f.rec L fun _ next listed K a => Region.ready md ops listed ≠ [] ∧ ∀ i ∈ Region.ready md ops listed, i < n ∧ ∃ o, ops[i]? = some o ∧ hOp P ops w0 hb S o K a (next (listed.setIfInBounds i true))
theorem HeadR.any {n g : Nat} {L : Array Bool → (World → Prop) → Act → Prop} {Q' : Exit → Act → World → Prop} (hS : ∀ o v w w', S o v w → Kp w w' → S o v w')
    (hL : ∀ listed K a w, Kp w0 w → K w → L listed K a → wpAny P md ops Q' g listed a w) (f : Nat) :
    ∀ (listed : Array Bool) (K : World → Prop) (a : Act) (w : World), (∀ w w', K w → Kp w w' → K w') → Kp w0 w → K w → HeadR P md ops w0 hb S n L f listed K a → wpAny P md ops Q' (f + g) listed a w := by
  induction f with
  | zero => intro listed K a w _ hw hk h; rw [Nat.zero_add]; exact hL _ _ _ _ hw hk h
  | succ f ih =>
    intro listed K a w hK hw hk h
    rw [Nat.succ_add]
    refine ⟨fun h0 => absurd h0 h.1, fun i hi => ?_⟩
    obtain ⟨-, o, ho, h2⟩ := h.2 i hi
    unfold wpOp
    simp only [ho]
    unfold hOp at h2
    split
    · rename_i hwt
      rw [if_pos hwt] at h2
      refine .inl ?_
      have h3 := h2.1 w hw
      unfold Oper.wp
      have hgo : ∀ v w', Kp w w' → RX P w0 hb S o (execOp a.eval o) v w' → wpAny P md ops Q' (f + g) (listed.setIfInBounds i true) (a.put o.dst v) w' := fun v w' h4 h5 =>
        ih _ _ _ w' (fun x y hx hy => ⟨hK _ _ hx.1 hy, hx.2.stay hS hy⟩) (hw.trans h4) ⟨hK _ _ hk h4, h5⟩ (h2.2 v ⟨w', hw.trans h4, h5⟩)
      generalize (execOp a.eval o).run P w = r at h3
      cases r with
      | ok nx w' =>
        cases nx
        case value v => exact hgo _ _ h3.1 h3.2
        case skip => exact hgo _ _ h3.1 h3.2
        case enter fn args => exact Calls.mono h3.2 (fun e w'' h => by obtain ⟨v, he, h4, h5⟩ := h; subst he; exact hgo _ _ h4 h5)
        all_goals exact (h3 : False).elim
      | halt y w' => exact absurd h3 (by cases y <;> exact id)
    · rename_i hwt
      rw [if_neg hwt] at h2
      exact ih _ _ _ w hK hw hk h2
theorem hOp.out {o : Oper} {K : World → Prop} {a : Act} {next : (World → Prop) → Act → Prop} (h : hOp P ops w0 hb S o K a next) : ∃ K' a', next K' a' := by
  unfold hOp at h
  split at h
  · obtain ⟨v, w, h1, h2⟩ := h.1.some
    exact ⟨_, _, h.2 v ⟨w, h1, h2⟩⟩
  · exact ⟨_, _, h⟩
theorem HeadR.first {n i : Nat} {oi : Oper} {L : Array Bool → (World → Prop) → Act → Prop} (hi : ops[i]? = some oi) (hsel : ∀ (j : Nat) (o : Oper) cs b, ops[j]? = some o → o.op ≠ .select cs b)
    (hs : Region.sinkB md ops n = true) (hc : Region.chainB md ops n = true) (hn : n < ops.size) (hin : i < n) (hdone : ∀ listed K a, L listed K a → ∀ j ∈ Region.ready md ops listed, n ≤ j) (f : Nat) :
    ∀ (listed : Array Bool) (K : World → Prop) (a : Act), HeadInv md ops n listed →
      (∀ j oj, ops[j]? = some oj → j ≠ i → listed.getD j true = false → (∀ e ∈ oj.after, Region.binds md e = true → e.on ≠ i) → oi.apart ops oj = true) →
      i ∈ Region.ready md ops listed → hOp P ops w0 hb S oi K a (HeadR P md ops w0 hb S n L f (listed.setIfInBounds i true)) → HeadR P md ops w0 hb S n L (f + 1) listed K a := by
  induction f with
  | zero =>
    intro listed K a inv _ hr H
    refine ⟨List.ne_nil_of_mem hr, fun j hj => ?_⟩
    have hjn : j < n := Nat.lt_of_not_le fun h => tail_waits hs hc hn inv _ i rfl hin (mem_ready.1 hr).1 j h hj
    rcases Nat.decEq j i with hji | hji
    · obtain ⟨K', a', hl⟩ := H.out
      exact absurd (hdone _ _ _ hl j (ready_mono hj hji)) (by omega)
    · subst hji; exact ⟨hjn, oi, hi, H⟩
  | succ f ih =>
    intro listed K a inv hfree hr H
    refine ⟨List.ne_nil_of_mem hr, fun j hj => ?_⟩
    have hjn : j < n := Nat.lt_of_not_le fun h => tail_waits hs hc hn inv _ i rfl hin (mem_ready.1 hr).1 j h hj
    refine ⟨hjn, ?_⟩
    rcases Nat.decEq j i with hji | hji
    · obtain ⟨hun, oj, hoj, hall⟩ := mem_ready.1 hj
      have hnot : ∀ e ∈ oj.after, Region.binds md e = true → e.on ≠ i := fun e he hb heq => by
        have h1 := hall e he hb
        rw [heq, getD_both (mem_ready.1 hr).1] at h1
        cases h1
      have hap := hfree j oj hoj hji hun hnot
      refine ⟨oj, hoj, ?_⟩
      have H2 : hOp P ops w0 hb S oi K a (fun K' a' => hOp P ops w0 hb S oj K' a' (HeadR P md ops w0 hb S n L f ((listed.setIfInBounds j true).setIfInBounds i true))) := H.mono (fun K' a' h => by
        obtain ⟨-, o, ho, h3⟩ := h.2 j (ready_mono hj hji)
        rw [hoj] at ho
        cases ho
        rw [Array.setIfInBounds_comm _ _ hji]
        exact h3)
      refine (H2.swap hap (fun cs b => hsel i oi cs b hi) (fun cs b => hsel j oj cs b hoj)).mono (fun K' a' h => ?_)
      refine ih _ K' a' (inv.set hj hjn) (fun k ok hk hki hk2 hno => hfree k ok hk hki ?_ hno) (ready_mono hr (Ne.symm hji)) h
      rcases Nat.decEq j k with hjk | hjk
      · rwa [getD_set_ne true hjk] at hk2
      · subst hjk; exact hun
    · subst hji; exact ⟨oi, hi, H⟩
/-- The lexical walk. -/
def wpHold (P : Program) (ops : Array Oper) (w0 : World) (hb : Oper → Bool) (S : Oper → Value → World → Prop) (Q : (World → Prop) → Act → Prop) : List Oper → (World → Prop) → Act → Prop
  | [], K, a => Q K a
  | o :: r, K, a => hOp P ops w0 hb S o K a (wpHold P ops w0 hb S Q r)
theorem HeadR.lex {n g : Nat} {Lq : (World → Prop) → Act → Prop} (hsel : Region.noSelect ops = true) (hs : Region.sinkB md ops n = true) (hc : Region.chainB md ops n = true) (hn : n < ops.size) (l : List Oper) :
    ∀ (k : Nat) (listed : Array Bool) (K : World → Prop) (a : Act), (∀ j, j < l.length → l[j]? = ops[k + j]?) → k + l.length = n → HeadInv md ops n listed → Region.lexHead md ops g l.length k listed = true → wpHold P ops w0 hb S Lq l K a →
    HeadR P md ops w0 hb S n (fun listed' K' a' => Region.seqB md ops g n listed' = true ∧ Lq K' a') l.length listed K a := by
  induction l with
  | nil =>
    intro k listed K a _ hk _ hB h
    obtain rfl : k = n := by simpa using hk
    exact ⟨by simpa [Region.lexHead] using hB, h⟩
  | cons o l ih =>
    intro k listed K a hl hk inv hB h
    have h0 : ops[k]? = some o := by simpa using (hl 0 (by simp)).symm
    simp only [List.length_cons, Region.lexHead, Bool.and_eq_true, List.contains_iff_mem] at hB
    have hkn : k < n := by simp only [List.length_cons] at hk; omega
    refine HeadR.first h0 (Region.noSelect_spec hsel) hs hc hn hkn (fun _ _ _ hL => seqB_ready hL.1) l.length listed K a inv (Region.free_spec h0 hB.1.2) hB.1.1 ?_
    exact hOp.mono (fun K' a' h' => ih (k + 1) _ K' a' (fun j hj => by have := hl (j + 1) (by simp; omega); simpa [Nat.add_assoc, Nat.add_comm 1 j] using this) (by simp only [List.length_cons] at hk; omega) (inv.set hB.1.1 hkn) hB.2 h') h
theorem held_tail {id : Nat} {Q : Exit → Act → World → Prop} {a : Act} {w : World} {l : List Oper} (hb : Oper → Bool) (S : Oper → Value → World → Prop) (n : Nat) (hm : P.follows .mixedOrders = true) (hB : Region.lexTailB .any l.toArray n = true)
    (hS : ∀ o v w w', S o v w → Below w.heap.size w w' → S o v w')
    (h : wpHold P l.toArray w hb S (fun K a' => ∀ w', Below w.heap.size w w' → K w' → wpList P l.toArray Q (l.drop n) a' w') (l.take n) (fun _ => True) a) : (Code.region id l.toArray true).wp P Q a w := by
  simp only [Region.lexTailB, Bool.and_eq_true, decide_eq_true_eq] at hB
  obtain ⟨⟨⟨⟨hsel, hn⟩, hs⟩, hc⟩, hlex⟩ := hB
  have hlen : n < l.length := by simpa using hn
  have hln : (l.take n).length = n := by simp; omega
  have hdl : (l.drop n).length = l.toArray.size - n := by simp
  have inv0 : HeadInv .any l.toArray n (Array.replicate l.toArray.size false) :=
    ⟨by simp, fun j oj _ hl => (by rw [getD_replicate_false] at hl; cases hl), fun t _ ht => getD_in (by simpa using ht) (getD_replicate_false _ _)⟩
  have H := HeadR.lex (md := .any) (g := l.toArray.size - n) hsel hs hc hn (l.take n) 0 _ (fun _ => True) a (fun j hj => by
    have hj' : j < n := by rw [hln] at hj; exact hj
    simp [hj']) (by simpa using hln) inv0 (by rw [hln]; exact hlex) h
  have T := HeadR.any (Q' := Q) (g := l.toArray.size - n) (fun o v x y hx hy => hS o v x y hx (Kp.iff.1 hy)) (fun listed K' a' w' hw' hk hL => by
    have := wpAny_of_seq (md := .any) (Q' := Q) (l.drop n) n listed a' w' (fun j => by simp [List.getElem?_drop]) (by rw [hdl]; exact hL.1) (hL.2 w' (Kp.iff.1 hw') hk)
    rwa [hdl] at this) _ _ _ a w.drew (fun _ _ _ _ => trivial) (Kp.iff.2 (below_drew w)) trivial H
  rw [hln, Nat.add_sub_cancel' (Nat.le_of_lt hn)] at T
  exact wp_region_any hm T
theorem wpHold_append {Q : (World → Prop) → Act → Prop} (l1 l2 : List Oper) : ∀ K a, wpHold P ops w0 hb S (wpHold P ops w0 hb S Q l2) l1 K a → wpHold P ops w0 hb S Q (l1 ++ l2) K a := by
  induction l1 with
  | nil => intro K a h; exact h
  | cons o l ih => intro K a h; exact hOp.mono ih h
/-- Operations that yield one value each. -/
theorem hold_quiet {Q : (World → Prop) → Act → Prop} {QQ : Act → Prop} (l : List Oper) (hl : l.all (fun o => !hb o) = true) :
    ∀ (K : World → Prop) (a : Act), (∀ K' a', (∀ w, K' w → K w) → QQ a' → Q K' a') → (∀ w1, Kp w0 w1 → wpQuiet P ops (Kp w1) QQ l a) → wpHold P ops w0 hb S Q l K a := by
  induction l with
  | nil => intro K a hQ h; exact hQ _ _ (fun _ h => h) (h w0 (Kp.self _))
  | cons o l ih =>
    intro K a hQ h
    simp only [List.all_cons, Bool.and_eq_true, Bool.not_eq_true'] at hl
    obtain ⟨ho, hl⟩ := hl
    show hOp P ops w0 hb S o K a (wpHold P ops w0 hb S Q l)
    have h' : ∀ w1, Kp w0 w1 → (if Region.wanted o (yielded ops a.tmps) then o.quiet P a (Kp w1) (wpQuiet P ops (Kp w1) QQ l) else wpQuiet P ops (Kp w1) QQ l (a.put o.dst undef)) := h
    unfold hOp
    split
    · rename_i hw
      simp only [hw, if_true] at h'
      obtain ⟨v0, q0, -⟩ := h' w0 (Kp.self _)
      have hq : ∀ w1, Kp w0 w1 → o.quietAt P a (Kp w1) w1 v0 ∧ wpQuiet P ops (Kp w1) QQ l (a.put o.dst v0) := fun w1 hw1 => by
        obtain ⟨v1, q1, k1⟩ := h' w1 hw1
        obtain rfl : v0 = v1 := quietAt_one (q0 w1 hw1) (q1 w1 (Kp.self _))
        exact ⟨q1 w1 (Kp.self _), k1⟩
      have hone : ∀ w, RX P w0 hb S o (execOp a.eval o) v0 w := fun w => by
        unfold RX
        rw [if_neg (by simp [ho])]
        exact fun u hu => quietAt_one (hq w0 (Kp.self _)).1 (hu w0 (Kp.self _))
      refine ⟨fun w hw0 => ?_, fun v hv => ?_⟩
      · have := (hq w hw0).1
        unfold Oper.quietAt at this
        generalize (execOp a.eval o).run P w = r at this
        cases r with
        | ok n w' =>
          cases n
          case value u => obtain ⟨rfl, rfl⟩ := this; exact ⟨Kp.self _, hone _⟩
          case skip => obtain ⟨rfl, rfl⟩ := this; exact ⟨Kp.self _, hone _⟩
          case enter f args => obtain ⟨rfl, this⟩ := this; exact ⟨Kp.self _, Calls.mono this (fun e w'' h => ⟨v0, h.1, h.2, hone _⟩)⟩
          all_goals exact (this : False).elim
        | halt y w' => exact (this : False).elim
      · obtain ⟨w, hw0, hv⟩ := hv
        unfold RX at hv
        rw [if_neg (by simp [ho])] at hv
        obtain rfl : v = v0 := hv v0 (fun w1 hw1 => (hq w1 hw1).1)
        exact ih hl _ _ (fun K' a' hK' ha' => hQ K' a' (fun w h => (hK' w h).1) ha') (fun w1 hw1 => (hq w1 hw1).2)
    · rename_i hw
      simp only [hw] at h'
      refine ih hl _ _ hQ (fun w1 hw1 => ?_)
      have := h' w1 hw1
      rwa [if_neg (by simp)] at this
/-- An operation that makes memory of its own. -/
theorem hold_at {Q : (World → Prop) → Act → Prop} {o : Oper} {l : List Oper} {K : World → Prop} {a : Act} (ho : hb o = true) (hg : o.guard = none) (hx : ∀ w, Kp w0 w → heldUpon P w (S o) ((execOp a.eval o).run P w))
    (h : ∀ v, (∃ w, Kp w0 w ∧ S o v w) → wpHold P ops w0 hb S Q l (fun w => K w ∧ S o v w) (a.put o.dst v)) : wpHold P ops w0 hb S Q (o :: l) K a := by
  show hOp P ops w0 hb S o K a (wpHold P ops w0 hb S Q l)
  have e : ∀ v w, RX P w0 hb S o (execOp a.eval o) v w = S o v w := fun v w => by unfold RX; rw [if_pos ho]
  have e2 : RX P w0 hb S o (execOp a.eval o) = S o := funext fun v => funext fun w => e v w
  unfold hOp
  rw [if_pos (by simp [Region.wanted, hg])]
  unfold HeldX
  rw [e2]
  exact ⟨hx, h⟩
/-- A run of operations that yield one value each, then the rest. -/
theorem hold_run {Q : (World → Prop) → Act → Prop} {l : List Oper} {K : World → Prop} {a : Act} (k : Nat) (hl : (l.take k).all (fun o => !hb o) = true)
    (h : ∀ w1, Below w0.heap.size w0 w1 → wpQuiet P ops (fun w' => ∃ x : KeptW w1, w' = x.v) (fun a' => ∀ K', (∀ w, K' w → K w) → wpHold P ops w0 hb S Q (l.drop k) K' a') (l.take k) a) : wpHold P ops w0 hb S Q l K a := by
  rw [← List.take_append_drop k l]
  exact wpHold_append _ _ _ _ (hold_quiet _ hl _ _ (fun K' a' hK h => h K' hK) (fun w1 hw1 => h w1 (Kp.iff.1 hw1)))
theorem heldUpon_enter {w : World} {R : Value → World → Prop} {x : Sem Next} {f : FuncId} {args : Array Value} (hx : x.run P w = .ok (.enter f args) w) (hc : Calls P f args w (fun e w' => ∃ v, e = .returned v ∧ Kp w w' ∧ R v w')) : heldUpon P w R (x.run P w) := by
  rw [hx]; exact ⟨Kp.self _, hc⟩
theorem heldUpon_made {w : World} {R : Value → World → Prop} {x : Sem Next} {o : Obj} {v : Value} (hx : x.run P w = .ok (.value v) (w.alloc o)) (hc : R v (w.alloc o)) : heldUpon P w R (x.run P w) := by
  rw [hx]; exact ⟨Kp.iff.2 (below_alloc w o), hc⟩
end
end Go.Proofs.YtlcmcknbbmokjaaGreat
namespace Go.Proofs.YtlcmcknbbmokjaaGreat
open Go Go.RowKit
def headWs (h : HeadV) (d : Nat) : List ByteArray := [⟨#[83, 76, 79, 84, 83]⟩, h.kind, h.airport, h.season, widT d 5]
def headT (h : HeadV) (d : Nat) : ByteArray := ⟨(Lib.join ((headWs h d).map (·.data.toList)) [32]).toArray⟩ ++ ⟨#[10]⟩
/-- A fresh row of five empty strings. -/
def FiveS (W : World) (v : Value) (w : World) : Prop := ∃ A, v = .pointer (some ⟨A, 0, none⟩) ∧ RowV W.heap.size A 5 (fun _ => .string ⟨#[]⟩) W w
set_option maxRecDepth 100000 in
set_option maxHeartbeats 8000000 in
theorem printHeader_any (h : HeadV) (d : Nat) (v : Value) (w : World) (hd : h.day = (d : Int)) (hd5 : d ≤ 99999) (hk : h.kind.size ≤ 60) (ha : h.airport.size ≤ 60) (hs : h.season.size ≤ 60) :
    Calls Tryz.prog 74 #[.agg (h.cells v)] w fun e w' => e = .returned (.string (headT h d)) ∧ Below w.heap.size w w' := by
  have hle : ∀ x ∈ headWs h d, x.size ≤ 60 := fun x hx => by
    simp only [headWs, List.mem_cons, List.not_mem_nil, or_false] at hx
    rcases hx with rfl | rfl | rfl | rfl | rfl
    · decide
    · exact hk
    · exact ha
    · exact hs
    · rw [widT_size]; decide
  have hl5 : (headWs h d).length = 5 := rfl
  have hjl := join_le (headWs h d) [32] 60 hle
  have hsz : (ByteArray.mk (Lib.join ((headWs h d).map (·.data.toList)) [32]).toArray).size ≤ 305 := by simpa [ByteArray.size, headWs] using hjl
  have HJ := Lib.hid (fun (bk c : Nat) (w : World) h1 h2 h3 => Tryz.strings_Join bk 0 c (headWs h d) ⟨#[32]⟩ w h1 h2 (by rw [hl5]; decide) h3 (Nat.le_trans hjl (by rw [hl5]; decide)))
  have HX : Hid (⟨(Lib.join ((headWs h d).map (·.data.toList)) [32]).toArray⟩ ++ ⟨#[10]⟩ = headT h d) := Lib.hid rfl
  have HD := Lib.hid (fun W => digits_any d 5 W (by decide) (by omega))
  generalize headT h d = ht at HX ⊢
  have HWS : Hid (headWs h d = [⟨#[83, 76, 79, 84, 83]⟩, h.kind, h.airport, h.season, widT d 5]) := Lib.hid rfl
  have HL : Hid ((headWs h d).length = 5) := Lib.hid rfl
  generalize headWs h d = ws at *
  generalize widT d 5 = dt at HWS HD
  obtain ⟨W, HW, hb0, R⟩ := head_new w h v 44
  have HB0 := Lib.hid hb0
  obtain ⟨kind, airport, season, day⟩ := h
  obtain ⟨r0, r1, r2, r3, r4⟩ := R
  simp only [HeadV.cells] at *
  subst hd
  have HSZ := Lib.hid hsz
  clear hl5 hle hjl hsz hk ha hs hb0 hd5
  go_enter Tryz.func74, Tryz.ntmps74
  go_wp2_with fail
  rw [HW.out]
  clear HW
  refine held_tail (fun o => o.dst == some 3) (fun _ => FiveS W) 11 (by kernel_rfl) (by kernel_rfl) (fun _ v x y hx hy => ?_) ?_
  · obtain ⟨A, rfl, h2⟩ := hx
    exact ⟨A, rfl, h2.more h2.below.size hy⟩
  simp only [List.take_succ_cons, List.take_zero, List.drop_succ_cons, List.drop_zero]
  refine hold_run 10 (by kernel_rfl) (fun w1 hw1 => ?_)
  have k0 : ∀ x : KeptW w1, x.v.cell? ⟨w.heap.size, 0, none⟩ = some (.string kind) := fun x => x.cell (b_old hw1 r0)
  have k1 : ∀ x : KeptW w1, x.v.cell? ⟨w.heap.size, 1, none⟩ = some (.string airport) := fun x => x.cell (b_old hw1 r1)
  have k2 : ∀ x : KeptW w1, x.v.cell? ⟨w.heap.size, 2, none⟩ = some (.string season) := fun x => x.cell (b_old hw1 r2)
  have k3 : ∀ x : KeptW w1, x.v.cell? ⟨w.heap.size, 3, none⟩ = some (.int .i64 (d : Int)) := fun x => x.cell (b_old hw1 r3)
  have hne : Nonempty (KeptW w1) := ⟨⟨w1, Below.refl _ _⟩⟩
  simp only [List.take_succ_cons, List.take_zero, List.drop_succ_cons, List.drop_zero]
  iterate 8 (go_big_quiet_step (fail))
  go_big_quiet_step (exact KeptW.calls (HD.out _))
  go_big_quiet_step (fail)
  refine wpQuiet_nil ?_
  intro K1 _
  refine hold_at rfl rfl (fun w2 hw2 => ?_) ?_
  · refine heldUpon_made (o := .cells #[.string ⟨#[]⟩, .string ⟨#[]⟩, .string ⟨#[]⟩, .string ⟨#[]⟩, .string ⟨#[]⟩] 202) (v := .pointer (some ⟨w2.heap.size, 0, none⟩)) (by simp [go_sem]) ?_
    have RN := RowV.new w2 [.string ⟨#[]⟩, .string ⟨#[]⟩, .string ⟨#[]⟩, .string ⟨#[]⟩, .string ⟨#[]⟩] 202
    have hk := Kp.iff.1 hw2
    refine ⟨w2.heap.size, rfl, fun i hi => ?_, fun i hi => RN.f i hi, hk.size, b_then hk RN.below⟩
    have := RN.c i hi
    rw [this]
    match i, hi with
    | 0, _ => rfl
    | 1, _ => rfl
    | 2, _ => rfl
    | 3, _ => rfl
    | 4, _ => rfl
  rintro v2 ⟨_, -, A, rfl, -⟩ w4 hw4 hk4
  obtain ⟨A', he, R2⟩ := hk4.2
  cases he
  simp only [Act.put, List.setIfInBounds_toArray, List.set_cons_succ, List.set_cons_zero]
  have q0 := R2.c 0 (by decide)
  have q1 := R2.c 1 (by decide)
  have q2 := R2.c 2 (by decide)
  have q3 := R2.c 3 (by decide)
  have q4 := R2.c 4 (by decide)
  have g0 := R2.f 0 (by decide)
  have g1 := R2.f 1 (by decide)
  have g2 := R2.f 2 (by decide)
  have g3 := R2.f 3 (by decide)
  have g4 := R2.f 4 (by decide)
  have RF := Lib.hid (((((R2.set 0 (by decide) (.string ⟨#[83, 76, 79, 84, 83]⟩)).set 1 (by decide) (.string kind)).set 2 (by decide) (.string airport)).set 3 (by decide) (.string season)).set 4 (by decide) (.string dt))
  have hcl : Hid (∀ (j : Nat) x, ws[j]? = some x → (((((w4.setCell ⟨A, 0, none⟩ (.string ⟨#[83, 76, 79, 84, 83]⟩)).setCell ⟨A, 1, none⟩ (.string kind)).setCell ⟨A, 2, none⟩ (.string airport)).setCell ⟨A, 3, none⟩ (.string season)).setCell ⟨A, 4, none⟩ (.string dt)).cell? ⟨A, 0 + j, none⟩ = some (.string x)) := Lib.hid (fun j x hj => by
    rw [HWS.out] at hj
    rw [Nat.zero_add]
    match j, hj with
    | 0, hj => cases hj; exact RF.out.c 0 (by decide)
    | 1, hj => cases hj; exact RF.out.c 1 (by decide)
    | 2, hj => cases hj; exact RF.out.c 2 (by decide)
    | 3, hj => cases hj; exact RF.out.c 3 (by decide)
    | 4, hj => cases hj; exact RF.out.c 4 (by decide)
    | j + 5, hj => simp at hj)
  have HA := Lib.hid (cell_in (RF.out.c 0 (by decide)))
  have HBF := Lib.hid (b_then HB0.out RF.out.below)
  clear R2 RF hw4 hk4 hw1 hne k0 k1 k2 k3 r0 r1 r2 r3 r4 HWS HD
  have HJ5 := HJ.out A 5
  rw [HL.out] at HJ5
  have HJ6 := Lib.hid HJ5
  clear HJ5 HJ HL
  go_wp2_with fail
  refine (HJ6.out _ hcl.out HA.out (by omega)).mono ?_
  rintro e w5 ⟨rfl, hb5⟩
  have HB5 := Lib.hid (b_then HBF.out hb5)
  have hsz := HSZ.out
  clear hcl HA HBF HJ6 hb5 q0 q1 q2 q3 q4 g0 g1 g2 g3 g4
  generalize ByteArray.mk (Lib.join (ws.map (·.data.toList)) [32]).toArray = jt at *
  go_wp2_with fail
  go_ret
  exact ⟨by rw [← HX.out]; rfl, HB5.out⟩
end Go.Proofs.YtlcmcknbbmokjaaGreat
namespace Go.Proofs.YtlcmcknbbmokjaaGreat
open Go Go.RowKit
theorem wlGo_ok (kind : ByteArray) (L : List LineV) : ∀ (x : LineV) (i : Nat), (wlGo kind L x i).2 = 0 → ∀ k, k < L.length → lineErr (L.getD k default) = 0 := by
  induction L with
  | nil => intro x i _ k hk; simp at hk
  | cons l r ih =>
    intro x i h k hk
    unfold wlGo at h
    split at h
    · rename_i hne; exact absurd h hne
    · rename_i hne
      have h0 : lnErr kind x l = 0 := by simpa using hne
      unfold lnErr at h0
      rw [fst_zero] at h0
      cases k with
      | zero => exact h0 _ (by simp)
      | succ k => exact ih _ _ h k (by simpa using hk)
/-- What a message without error has. -/
structure MsgOk (h : HeadV) (L : List LineV) : Prop where
  kind : h.kind.size ≤ 60
  airport : h.airport.size ≤ 60
  season : h.season.size ≤ 60
  day : ∃ d : Nat, h.day = (d : Int) ∧ d ≤ 99999
  len : L.length ≤ 64
  lines : ∀ k, k < L.length → LineOk (L.getD k default)
theorem msg_ok {h : HeadV} {L : List LineV} (he : msgErr h L = 0) : MsgOk h L := by
  unfold msgErr at he
  split at he
  · rename_i hne; exact absurd he hne
  · rename_i hne
    have h0 : fst [headErr h, unl (decide ((L.length : Int) ≤ 64)) 5] = 0 := by simpa using hne
    rw [fst_zero] at h0
    have hh := h0 (headErr h) (by simp)
    have hl := of_decide_eq_true ((unl_zero (by decide)).1 (h0 (unl (decide ((L.length : Int) ≤ 64)) 5) (by simp)))
    unfold headErr at hh
    rw [fst_zero] at hh
    have hk := (unl_zero (by decide)).1 (hh (unl (kindM h.kind) 13) (by simp))
    have ha : isName h.airport := of_decide_eq_true ((unl_zero (by decide)).1 (hh (nameE h.airport) (by simp)))
    have hs := (unl_zero (by decide)).1 (hh (unl (seasonB h.season) 1) (by simp))
    have hd := rng_zero' (hh (rng h.day 0 99999) (by simp))
    refine ⟨?_, Nat.le_trans ha.2.1 (by decide), ?_, ⟨h.day.toNat, by omega, by omega⟩, by omega, fun k hk => line_ok (wlGo_ok _ _ _ _ he k hk)⟩
    · unfold kindM at hk
      rw [Bool.or_eq_true] at hk
      have e : h.kind.size = h.kind.toList.length := by rw [ByteArray.toList_eq]; exact (size_list _).symm
      rw [e]
      rcases hk with hk | hk <;> (rw [eq_of_beq hk]; decide)
    · unfold seasonB at hs
      rw [Bool.and_eq_true] at hs
      rw [of_decide_eq_true hs.1]; decide
def msgT (h : HeadV) (L : List LineV) : ByteArray := headT h h.day.toNat ++ ⟨(Lib.join ((L.map lineN).map (·.data.toList)) []).toArray⟩ ++ footT L.length
theorem lines_text (L : List LineV) (v : Value) (w w' : World) (hv : LnArg w v L) (hb : Below w.heap.size w w') (hn : L.length ≤ 64) (hok : ∀ k, k < L.length → LineOk (L.getD k default)) :
    Calls Tryz.prog 71 #[v, .func (.func 72) #[] #[]] w' fun e w'' => StrsR e w'' (L.map lineN) ∧ Below w'.heap.size w' w'' := by
  rcases hv with ⟨rfl, A, c, rfl⟩ | ⟨h0, b, off, cap, rfl, hl, hc, hs⟩
  · exact transL_zero A c _ w'
  · refine transL_any L (L.map lineN) b off cap _ #[] w' (by simp) h0 (by omega) (hl.below hb) (enters Tryz.func72 (by kernel_rfl) (by kernel_rfl)) (fun k hk x hx => ?_)
    have e : (L.map lineN).getD k ⟨#[]⟩ = lineN (L.getD k default) := by simp [List.getD_eq_getElem?_getD, hk]
    rw [e]
    exact printOne _ (hok k hk) x
theorem headT_size {h : HeadV} {L : List LineV} (ok : MsgOk h L) (d : Nat) : (headT h d).size ≤ 306 := by
  have hjl := join_le (headWs h d) [32] 60 (fun x hx => by
    simp only [headWs, List.mem_cons, List.not_mem_nil, or_false] at hx
    rcases hx with rfl | rfl | rfl | rfl | rfl
    · decide
    · exact ok.kind
    · exact ok.airport
    · exact ok.season
    · rw [widT_size]; decide)
  have : (ByteArray.mk (Lib.join ((headWs h d).map (·.data.toList)) [32]).toArray).size ≤ 305 := by simpa [ByteArray.size, headWs] using hjl
  unfold headT
  rw [ByteArray.size_append]
  have h1 : (ByteArray.mk #[10]).size = 1 := rfl
  omega
theorem lineN_size {l : LineV} (h : LineOk l) : (lineN l).size ≤ 351 := by
  unfold lineN
  rw [ByteArray.size_append]
  have h1 : (ByteArray.mk #[10]).size = 1 := rfl
  have := lineT_size h
  omega
theorem footT_size (n : Nat) : (footT n).size = 7 := by
  unfold footT
  rw [ByteArray.size_append, ByteArray.size_append, widT_size]; rfl
theorem body_size {h : HeadV} {L : List LineV} (ok : MsgOk h L) : (Lib.join ((L.map lineN).map (·.data.toList)) []).length ≤ 22464 := by
  have := join_le (L.map lineN) [] 351 (fun x hx => by
    obtain ⟨l, hl, rfl⟩ := List.mem_map.1 hx
    obtain ⟨k, hk, rfl⟩ := List.getElem_of_mem hl
    have := ok.lines k hk
    rw [List.getD_eq_getElem?_getD, List.getElem?_eq_getElem hk] at this
    exact lineN_size this)
  rw [List.length_map] at this
  have h2 := ok.len
  simp only [List.length_nil, Nat.add_zero] at this
  omega
set_option maxRecDepth 100000 in
set_option maxHeartbeats 4000000 in
theorem PrintMessage_any (h : HeadV) (L : List LineV) (v : Value) (w w' : World) (hv : LnArg w v L) (hb : Below w.heap.size w w') :
    Calls Tryz.prog 19 #[.agg (h.cells v)] w' fun e w'' => e = .returned (.tuple #[.string (if msgErr h L = 0 then msgT h L else ⟨#[]⟩), .int .i64 (msgErr h L)]) ∧ Below w'.heap.size w' w'' := by
  have HCK := Lib.hid (fun W hW => CheckMessage_any h L v w W hv hW)
  have HOK := Lib.hid (fun he : msgErr h L = 0 => msg_ok he)
  obtain ⟨A, c, hve⟩ := hv.len
  have HTX := Lib.hid (fun (ok : MsgOk h L) W hW => lines_text L v w W hv hW ok.len ok.lines)
  have HHD := Lib.hid (fun (ok : MsgOk h L) W => printHeader_any h h.day.toNat v W (by obtain ⟨d, h1, h2⟩ := ok.day; omega) (by obtain ⟨d, h1, h2⟩ := ok.day; omega) ok.kind ok.airport ok.season)
  have HFT := Lib.hid (fun (ok : MsgOk h L) W => printFooter_any L.length (Nat.le_trans ok.len (by decide)) W)
  have HJ := Lib.hid (fun (ok : MsgOk h L) (bk c : Nat) (w : World) h1 h2 h3 => Tryz.strings_Join bk 0 c (L.map lineN) ⟨#[]⟩ w h1 h2 (by rw [List.length_map]; have := ok.len; omega) h3 (Nat.le_trans (body_size ok) (by decide)))
  have HS1 := Lib.hid (fun (ok : MsgOk h L) => headT_size ok h.day.toNat)
  have HS2 := Lib.hid (fun (ok : MsgOk h L) => show (ByteArray.mk (Lib.join ((L.map lineN).map (·.data.toList)) []).toArray).size ≤ 22464 by simpa [ByteArray.size] using body_size ok)
  have HS3 := Lib.hid (footT_size L.length)
  have HX : Hid (headT h h.day.toNat ++ ⟨(Lib.join ((L.map lineN).map (·.data.toList)) []).toArray⟩ ++ footT L.length = msgT h L) := Lib.hid rfl
  have HLM : Hid ((L.map lineN).length = L.length) := Lib.hid (by simp)
  obtain ⟨W, HW, hb0, R⟩ := head_new w' h v 44
  have HB0 := Lib.hid hb0
  have HBB := Lib.hid (b_then hb hb0)
  have HR := Lib.hid R
  generalize msgT h L = mt at *
  generalize headT h h.day.toNat = ht at *
  generalize footT L.length = ft at *
  generalize msgErr h L = er at *
  generalize L.map lineN = tx at *
  generalize hok : MsgOk h L = OK at *
  subst hve
  obtain ⟨kind, airport, season, day⟩ := h
  simp only [HeadV.cells] at *
  clear hb hb0 hv hok
  go_enter Tryz.func19, Tryz.ntmps19
  obtain ⟨r0, r1, r2, r3, r4⟩ := R
  go_wp2_with fail
  rw [HW.out]
  clear HW
  go_wp2_with fail
  refine (HCK.out W HBB.out).mono ?_
  rintro e w1 ⟨rfl, hb1⟩
  obtain ⟨q0, q1, q2, q3, q4⟩ := HR.out.below hb1
  have HB1 := Lib.hid (b_then HB0.out hb1)
  have HBB1 := Lib.hid (b_then HBB.out hb1)
  clear r0 r1 r2 r3 r4 hb1 HCK HBB HB0 HR
  by_cases he : er = 0
  · have ok := HOK.out he
    have hs1 := HS1.out ok
    have hs2 := HS2.out ok
    have hs3 := HS3.out
    subst he
    go_wp2_with fail
    refine (HTX.out ok w1 HBB1.out).mono ?_
    rintro e w2 ⟨⟨g, c2, rfl, hcap, hg, hcells⟩, hb2⟩
    have p0 := b_old hb2 q0; have p1 := b_old hb2 q1; have p2 := b_old hb2 q2; have p3 := b_old hb2 q3; have p4 := b_old hb2 q4
    have HB2 := Lib.hid (b_then HB1.out hb2)
    rw [HLM.out] at hcap ⊢
    clear q0 q1 q2 q3 q4 hb2 HTX
    go_wp2_with fail
    refine (HHD.out ok w2).mono ?_
    rintro e w3 ⟨rfl, hb3⟩
    have hcells3 : ∀ (j : Nat) x, tx[j]? = some x → w3.cell? ⟨g, 0 + j, none⟩ = some (.string x) := fun j x hj => b_old hb3 (hcells j x hj)
    have hg3 : g < w3.heap.size := Nat.lt_of_lt_of_le hg hb3.size
    have HB3 := Lib.hid (b_then HB2.out hb3)
    have HJ2 := HJ.out ok g c2 w3 hcells3 hg3
    rw [HLM.out] at HJ2
    have HJ3 := Lib.hid (HJ2 hcap)
    clear HJ2 HJ hcells hcells3 hg hg3 p0 p1 p2 p3 p4 hb3 HHD
    go_wp2_with fail
    refine HJ3.out.mono ?_
    rintro e w4 ⟨rfl, hb4⟩
    have HB4 := Lib.hid (b_then HB3.out hb4)
    clear HJ3 hb4
    generalize ByteArray.mk (Lib.join (tx.map (·.data.toList)) []).toArray = bt at *
    go_wp2_with fail
    refine (HFT.out ok w4).mono ?_
    rintro e w5 ⟨rfl, hb5⟩
    have HB5 := Lib.hid (b_then HB4.out hb5)
    clear hb5
    go_wp2_with fail
    exact bodyPost_ret (v := .tuple #[.string (ht ++ bt ++ ft), .int .i64 0]) (by simp [results, Tryz.results19, go_sem]) rfl ⟨by rw [← HX.out], HB5.out⟩
  · go_wp2_with fail
    exact bodyPost_ret (v := .tuple #[.string ⟨#[]⟩, .int .i64 er]) (by simp [results, Tryz.results19, go_sem]) rfl ⟨rfl, HB1.out⟩
end Go.Proofs.YtlcmcknbbmokjaaGreat
namespace Go.Proofs.YtlcmcknbbmokjaaGreat
open Go Go.RowKit Go.ChangeMaps Go.MapKept
end Go.Proofs.YtlcmcknbbmokjaaGreat
namespace Go.Proofs.YtlcmcknbbmokjaaGreat
open Go Go.RowKit
theorem pEq_int (d : Nat) (a b : Int) (w : World) : (Op.equalIn (d + 1) 3 (.int .i64 a) (.int .i64 b)).run Tryz.prog w = .ok (a == b) w := run_equalIn_int w d 3 .i64 .i64 a b Tryz.underlying3
theorem pEq_arr2 (a b a' b' : Int) (w : World) :
    (Op.equalIn 10000 117 (.agg #[.int .i64 a, .int .i64 b]) (.agg #[.int .i64 a', .int .i64 b'])).run Tryz.prog w = .ok (a == a' && b == b') w := by
  have hs : (sizeOf 3).run Tryz.prog w = .ok 1 w := Tryz.sizeOf3 w
  rw [show (10000 : Nat) = 9999 + 1 from rfl]
  unfold Op.equalIn
  simp only [Sem.run_bind, run_underlying Tryz.underlying117, Result.andThen_ok, hs]
  cases h1 : (a == a') <;> cases h2 : (b == b') <;> simp [Std.Legacy.Range.forIn_eq_forIn_range', List.range', part, pEq_int, h1, h2]
attribute [local go_sem] pEq_arr2
theorem prFlat_at (l : List (Int × Int)) : ∀ (i : Nat), i < l.length → (prFlat l)[i * 2]? = some (.int .i64 (l.getD i (0, 0)).1) ∧ (prFlat l)[i * 2 + 1]? = some (.int .i64 (l.getD i (0, 0)).2) := by
  induction l with
  | nil => intro i h; simp at h
  | cons x r ih =>
    intro i h
    cases i with
    | zero => simp [prFlat]
    | succ j =>
      have e : prFlat (x :: r) = [.int .i64 x.1, .int .i64 x.2] ++ prFlat r := by simp [prFlat]
      obtain ⟨a, b⟩ := ih j (by simpa using h)
      rw [e, show (j + 1) * 2 = 2 + j * 2 from by omega]
      refine ⟨?_, ?_⟩
      · rw [List.getElem?_append_right (by simp)]; simpa using a
      · rw [List.getElem?_append_right (by simp; omega)]; simpa [show 2 + j * 2 + 1 - 2 = j * 2 + 1 from by omega] using b
theorem pr_zero {w : World} {base : Nat} {e : TypeId} {size : Nat} {v : Value} {xs : List Value} (h : w.ownsRow base e size v 0 xs) : ∃ A c, v = .slice A 0 c := by
  rcases h.2 with ⟨rfl, _⟩ | ⟨g, cap, cur, rfl, _⟩
  · exact ⟨none, 0, rfl⟩
  · exact ⟨_, _, rfl⟩
/-- A call that has returned true or false; true only where h holds. -/
structure BoolR (e : Ending) (h : Prop) : Prop where
  ex : ∃ bb : Bool, e = .returned (.bool bb) ∧ (bb = true → h)
theorem BoolR.mk' {e : Ending} {h : Prop} (bb : Bool) (h1 : e = .returned (.bool bb)) (h2 : bb = true → h) : BoolR e h := ⟨bb, h1, h2⟩
set_option maxRecDepth 100000 in
set_option maxHeartbeats 2000000 in
theorem Brief_any (q : ReqV) (w : World) : Calls Tryz.prog 93 #[.agg q.cells] w fun e w' => BoolR e True ∧ Below w.heap.size w w' := by
  obtain ⟨W, HW, hb0, R⟩ := req_new w q 26
  obtain ⟨name, carrier, kind, terminal, partner, link, a, b, d, m, s, z, n⟩ := q
  obtain ⟨r0, r1, r2, r3, r4, r5, -, -, -, -, -, -, -⟩ := R
  simp only [ReqV.cells] at *
  clear HW hb0 r0 r1 r2 r3 r4 r5
  go_enter Tryz.func93, Tryz.ntmps93
  go_wp2_with fail
  all_goals go_ret
  all_goals exact ⟨.mk' _ rfl fun _ => trivial, below_alloc _ _⟩
set_option maxRecDepth 100000 in
theorem Short_zero (A : Option Addr) (c : Nat) (w : World) : Calls Tryz.prog 32 #[.slice A 0 c, .int .i64 6] w fun e w' => BoolR e True ∧ Below w.heap.size w w' := by
  go_enter Tryz.func32, Tryz.ntmps32
  go_wp2_with fail
  go_loopw [5] (fun i wr => i = .int .i64 0 ∧ wr = w) (fun _ _ => 0)
  case atStart => exact ⟨rfl, rfl⟩
  case round =>
    obtain ⟨rfl, rfl⟩ := hrel
    go_wp2_with fail
    go_ret
    exact ⟨.mk' _ rfl fun _ => trivial, Below.refl _ _⟩
set_option maxRecDepth 100000 in
set_option maxHeartbeats 2000000 in
theorem Short_any (l : List ReqV) (b off cap : Nat) (w : World) (hl : RqsAt w b off l) : Calls Tryz.prog 32 #[.slice (some ⟨b, off, none⟩) l.length cap, .int .i64 6] w
    fun e w' => BoolR e (l.length ≤ 65) ∧ Below w.heap.size w w' := by
  have HL := Lib.hid hl
  clear hl
  by_cases h6 : 65 < l.length
  · have h1 : decide ((6 : Int) < (l.length : Int)) = true := by simp; omega
    have h2 : ((l.length : Int) == 65) = false := by simp; omega
    go_enter Tryz.func32, Tryz.ntmps32
    go_wp2_with fail
    all_goals go_ret
    all_goals exact ⟨.mk' false rfl (fun h => by cases h), Below.refl _ _⟩
  have h65 : l.length ≤ 65 := by omega
  by_cases h3 : (6 : Int) < (l.length : Int) ∧ (l.length : Int) ≠ 65
  · have h2 : ((l.length : Int) == 65) = false := by simpa using h3.2
    have h1 := h3.1
    go_enter Tryz.func32, Tryz.ntmps32
    go_wp2_with fail
    all_goals go_ret
    all_goals exact ⟨.mk' _ rfl fun _ => h65, Below.refl _ _⟩
  have hcase : (decide ((6 : Int) < (l.length : Int)) && !((l.length : Int) == 65)) = false := by
    by_cases h1 : (6 : Int) < (l.length : Int)
    · have h2 : (l.length : Int) = 65 := by
        by_cases h : (l.length : Int) = 65
        · exact h
        · exact absurd ⟨h1, h⟩ h3
      rw [h2]; rfl
    · rw [decide_eq_false h1]; rfl
  clear h3 h6
  cases h1 : decide ((6 : Int) < (l.length : Int))
  · have h1' : (l.length : Int) ≤ 6 := by have := of_decide_eq_false h1; omega
    clear hcase h1
    go_enter Tryz.func32, Tryz.ntmps32
    go_wp2_with fail
    go_loopw [5] (fun i wr => ∃ k : Nat, k ≤ l.length ∧ i = .int .i64 k ∧ Hid (Below w.heap.size w wr)) (fun i _ => l.length - (intOf i).toNat)
    case atStart => exact ⟨0, Nat.zero_le _, rfl, Lib.hid (Below.refl _ _)⟩
    case round =>
      obtain ⟨k, hk, rfl, HB⟩ := hrel
      by_cases hlt : k < l.length
      · obtain ⟨x0, x1, x2, x3, x4, x5, x6, x7, x8, x9, x10, x11, x12⟩ := (HL.out.below HB.out).row hlt rfl
        have hcall := Brief_any (l.getD k default)
        generalize l.getD k default = q at *
        obtain ⟨qa, qb, qc, qd, qe, qf, qg, qh, qi, qj, qk, ql, qm⟩ := q
        dsimp only [ReqV.cells] at hcall x0 x1 x2 x3 x4 x5 x6 x7 x8 x9 x10 x11 x12
        go_wp2_with fail
        refine (hcall _).mono ?_
        rintro e1 w1 ⟨⟨bb, rfl, -⟩, hb1⟩
        have HB1 : Hid (Below w.heap.size w w1) := Lib.hid (b_then HB.out hb1)
        clear x0 x1 x2 x3 x4 x5 x6 x7 x8 x9 x10 x11 x12 hcall hb1
        cases bb
        · go_wp2_with fail
          go_ret
          exact ⟨.mk' _ rfl fun _ => h65, HB1.out⟩
        · go_wp2_with fail
          refine ⟨⟨k + 1, by omega, by go_num, HB1⟩, by simp [intOf]; omega⟩
      · go_wp2_with fail
        go_ret
        exact ⟨.mk' _ rfl fun _ => h65, HB.out⟩
  · have h2 : (l.length : Int) = 65 := by
      rw [h1] at hcase; simpa using hcase
    have h1' : (6 : Int) < (l.length : Int) := by omega
    clear hcase h1
    go_enter Tryz.func32, Tryz.ntmps32
    go_wp2_with fail
    go_loopw [5] (fun i wr => ∃ k : Nat, k ≤ l.length ∧ i = .int .i64 k ∧ Hid (Below w.heap.size w wr)) (fun i _ => l.length - (intOf i).toNat)
    case atStart => exact ⟨0, Nat.zero_le _, rfl, Lib.hid (Below.refl _ _)⟩
    case round =>
      obtain ⟨k, hk, rfl, HB⟩ := hrel
      by_cases hlt : k < l.length
      · obtain ⟨x0, x1, x2, x3, x4, x5, x6, x7, x8, x9, x10, x11, x12⟩ := (HL.out.below HB.out).row hlt rfl
        have hcall := Brief_any (l.getD k default)
        generalize l.getD k default = q at *
        obtain ⟨qa, qb, qc, qd, qe, qf, qg, qh, qi, qj, qk, ql, qm⟩ := q
        dsimp only [ReqV.cells] at hcall x0 x1 x2 x3 x4 x5 x6 x7 x8 x9 x10 x11 x12
        go_wp2_with fail
        refine (hcall _).mono ?_
        rintro e1 w1 ⟨⟨bb, rfl, -⟩, hb1⟩
        have HB1 : Hid (Below w.heap.size w w1) := Lib.hid (b_then HB.out hb1)
        clear x0 x1 x2 x3 x4 x5 x6 x7 x8 x9 x10 x11 x12 hcall hb1
        cases bb
        · go_wp2_with fail
          go_ret
          exact ⟨.mk' _ rfl fun _ => h65, HB1.out⟩
        · go_wp2_with fail
          refine ⟨⟨k + 1, by omega, by go_num, HB1⟩, by simp [intOf]; omega⟩
      · go_wp2_with fail
        go_ret
        exact ⟨.mk' _ rfl fun _ => h65, HB.out⟩
end Go.Proofs.YtlcmcknbbmokjaaGreat
