/- The iterator over the days of a period: its contract for every loop body. -/
import Derived.Test.YtoaimgfekbnijaaDoorPer
import Derived.RangeFuncNested
import Derived.RangeFuncBound
import Derived.RangeFuncCalls
import Derived.RangeFuncLeaves
import Derived.Shelf.Abstract
import Derived.Shelf.RegionOpen
import Derived.OwnWalkIn
import Derived.TacticsInMore
import Derived.LoopNIn
import Derived.LoopIn
namespace Go.Proofs.YtoaimgfekbnijaaDoor
open Go.RowKit Go.Shelf
attribute [local go_sem] Oper.semAt_some
def upto (a b m : Int) (k : Nat) : List Int := ((List.range k).map (fun i : Nat => a + i)).filter (fun d => hasB a b m d)
theorem upto_succ (a b m : Int) (k : Nat) : upto a b m (k + 1) = upto a b m k ++ (if hasB a b m (a + k) = true then [a + k] else []) := by
  unfold upto
  rw [List.range_succ, List.map_append, List.filter_append]
  simp only [List.map_cons, List.map_nil, List.filter_cons, List.filter_nil]
def daysL (a b m : Int) : List Int := upto a b m (b - a + 1).toNat
theorem upto_pre (a b m : Int) (k n : Nat) (h : k ≤ n) : upto a b m k <+: upto a b m n := by
  induction n with
  | zero => obtain rfl : k = 0 := by omega
            exact List.prefix_refl _
  | succ j ih =>
    by_cases e : k = j + 1
    · subst e; exact List.prefix_refl _
    · exact (ih (by omega)).trans (by rw [upto_succ]; exact List.prefix_append _ _)
theorem upto_len (a b m : Int) (k : Nat) : (upto a b m k).length ≤ k := by
  unfold upto
  exact Nat.le_trans (List.length_filter_le _ _) (by simp)
theorem grown_of_below {w w' : World} (h : Below w.heap.size w w') : w.grownBy w' none := ⟨h.os, h.tape, h.output, h.size, fun k hk _ => h.block k hk⟩
/-- What a loop body keeps for the iterator: its block. -/
def KeepB (B : Nat) (W W' : World) : Prop := W'.heap[B]? = W.heap[B]? ∧ W.heap.size ≤ W'.heap.size
theorem KeepB.refl (B : Nat) (W : World) : KeepB B W W := ⟨rfl, Nat.le_refl _⟩
theorem KeepB.trans {B : Nat} {W1 W2 W3 : World} (h : KeepB B W1 W2) (k : KeepB B W2 W3) : KeepB B W1 W3 := ⟨k.1.trans h.1, Nat.le_trans h.2 k.2⟩
theorem KeepB.of_below {B : Nat} {W W' : World} (h : Below (B + 1) W W') : KeepB B W W' := ⟨h.block B (Nat.lt_succ_self B), h.size⟩
theorem KeepB.cell {B o : Nat} {W W' : World} {v : Value} (h : KeepB B W W') (hc : W.cell? ⟨B, o, none⟩ = some v) : W'.cell? ⟨B, o, none⟩ = some v := (World.cell?_of_block (w := W) (a := ⟨B, o, none⟩) h.1).trans hc
set_option maxRecDepth 100000 in
set_option maxHeartbeats 1000000 in
theorem daysIn1_in (n l Bn : Nat) (hn : 1 ≤ n) (a b m : Int) (h1 : 0 ≤ a) (h2 : a ≤ b) (h3 : b ≤ 99999) (hm1 : 0 ≤ m) (hm2 : m ≤ 127) (J Jx : List Int → World → Prop) (W : World) (hbn : Bn < W.heap.size)
    (hJ : AbidesFrom W.heap.size J)
    (hY : ∀ pre x W1, J pre W1 → pre.length < (daysL a b m).length → YieldAt Fence.wide (n - 1) Tryd.prog l #[.int .i64 x] W1 fun e W' =>
      (e = .returned (.bool true) ∧ J (pre ++ [x]) W' ∧ KeepB Bn W1 W') ∨ (e = .returned (.bool false) ∧ Jx (pre ++ [x]) W'))
    (c0 : W.cell? ⟨Bn, 0, none⟩ = some (.int .i64 a)) (c1 : W.cell? ⟨Bn, 1, none⟩ = some (.int .i64 b)) (c2 : W.cell? ⟨Bn, 2, none⟩ = some (.int .i64 m)) (h0 : J [] W) :
    CallsIn Fence.wide n Tryd.prog 97 #[.func (.yield l) #[] #[], .pointer (some ⟨Bn, 0, none⟩)] W fun e W' => (∃ v, e = .returned v) ∧
      ((∃ ys, ys = daysL a b m ∧ J ys W') ∨ (∃ pre, pre <+: daysL a b m ∧ Jx pre W')) := by
  have HD : Hid (∀ k, k ≤ (b - a + 1).toNat → upto a b m k <+: daysL a b m) := Lib.hid (fun k hk => upto_pre a b m k _ hk)
  refine callsIn_of_wp Tryd.func97 rfl trivial ?_
  simp only [Tryd.ntmps97, List.size_toArray, List.length_cons, List.length_nil, Nat.reduceAdd, Nat.reduceSub, Array.replicate_succ, Array.replicate_zero, List.push_toArray, List.append_toArray, List.nil_append, List.cons_append]
  gi_wp2
  gi_loopw [3] (fun d wr => ∃ k : Nat, (k : Int) ≤ b - a + 1 ∧ d = .int .i64 (a + k) ∧ J (upto a b m k) wr ∧ KeepB Bn W wr)
    (fun d wr => (b + 1 - intOf d).toNat)
  case atStart => exact ⟨0, by omega, by simp, h0, KeepB.refl _ _⟩
  case round =>
    obtain ⟨k, hk, rfl, hJk, hbr⟩ := hrel
    have hsz := hbr.2
    have d0 := hbr.cell c0
    have d1 := hbr.cell c1
    have d2 := hbr.cell c2
    by_cases hlt : a + k ≤ b
    · cases hB : hasB a b m (a + k)
      · have HU : Hid (upto a b m (k + 1) = upto a b m k) := Lib.hid (by rw [upto_succ, hB]; simp)
        have HB := Lib.hid hB; clear hB
        gi_wp2
        refine ⟨trivial, ?_⟩
        refine (callsIn_wide.2 (has_any a b m (a + k) _ (by omega) (by omega) hm1 hm2)).mono ?_
        rintro e w2 ⟨rfl, hb2⟩
        rw [HB.out]
        have hJ2 := hJ _ _ _ _ hJk (grown_of_below hb2) (fun r e => by cases e)
        have hbr2 : KeepB Bn W w2 := hbr.trans (KeepB.of_below (hb2.mono (by omega)))
        have hsz2 : W.heap.size ≤ w2.heap.size := Nat.le_trans hsz hb2.size
        clear hb2
        gi_wp2
        refine ⟨fun _ h => (by cases h), ?_⟩
        gi_wp2
        go_roundw
        case rel => exact ⟨k + 1, by omega, by go_num, by rw [HU.out]; exact hJ2, hbr2⟩
        case measure => simp [intOf]; omega
      · have HU : Hid (upto a b m (k + 1) = upto a b m k ++ [a + k]) := Lib.hid (by rw [upto_succ, hB]; simp)
        have HB := Lib.hid hB; clear hB
        have HLEN : (upto a b m k).length < (daysL a b m).length := by
          have hp := (HD.out (k + 1) (by omega)).length_le
          rw [HU.out] at hp
          simp at hp; omega
        gi_wp2
        refine ⟨trivial, ?_⟩
        refine (callsIn_wide.2 (has_any a b m (a + k) _ (by omega) (by omega) hm1 hm2)).mono ?_
        rintro e w2 ⟨rfl, hb2⟩
        rw [HB.out]
        have hJ2 := hJ _ _ _ _ hJk (grown_of_below hb2) (fun r e => by cases e)
        have hbr2 : KeepB Bn W w2 := hbr.trans (KeepB.of_below (hb2.mono (by omega)))
        have hsz2 : W.heap.size ≤ w2.heap.size := Nat.le_trans hsz hb2.size
        clear hb2
        obtain ⟨fn, tmps, assign, body, hy, hR⟩ := hY (upto a b m k) (a + k) w2 hJ2 HLEN
        gi_wp2
        refine hR.mono ?_
        rintro e W3 (⟨rfl, hJ3, hk3⟩ | ⟨rfl, hJx3⟩)
        · gi_wp2
          go_roundw
          case rel => exact ⟨k + 1, by omega, by go_num, by rw [HU.out]; exact hJ3, hbr2.trans hk3⟩
          case measure => simp [intOf]; omega
        · gi_wp2
          refine bodyPost_ret (results_none rfl _ _ _) rfl ?_
          exact ⟨⟨_, rfl⟩, .inr ⟨_, by rw [← HU.out]; exact HD.out (k + 1) (by omega), hJx3⟩⟩
    · have HK : Hid (upto a b m k = daysL a b m) := Lib.hid (by rw [show k = (b - a + 1).toNat from by omega]; rfl)
      gi_wp2
      go_end0
      exact ⟨⟨_, rfl⟩, .inl (by rw [← HK.out]; exact hJk)⟩
/-- The iterator, for every loop body that keeps its block. -/
theorem days_stops (n : Nat) (hn : 1 ≤ n) (Bn : Nat) (a b m : Int) (w : World) (h1 : 0 ≤ a) (h2 : a ≤ b) (h3 : b ≤ 99999) (hm1 : 0 ≤ m) (hm2 : m ≤ 127) (hbn : Bn < w.heap.size)
    (c0 : w.cell? ⟨Bn, 0, none⟩ = some (.int .i64 a)) (c1 : w.cell? ⟨Bn, 1, none⟩ = some (.int .i64 b)) (c2 : w.cell? ⟨Bn, 2, none⟩ = some (.int .i64 m)) :
    SeqStopsK Fence.wide n Tryd.prog 97 #[.pointer (some ⟨Bn, 0, none⟩)] (fun x : Int => #[Value.int .i64 x]) (KeepB Bn) (fun ys => ys = daysL a b m) (fun pre => pre <+: daysL a b m) (daysL a b m).length w := fun l J Jx W hW hJ _ hY h0 =>
  daysIn1_in n l Bn hn a b m h1 h2 h3 hm1 hm2 J Jx W (Nat.lt_of_lt_of_le hbn hW.size) hJ hY (b_old hW c0) (b_old hW c1) (b_old hW c2) h0
theorem keepB_b {B : Nat} {w : World} (h : B < w.heap.size) (W : World) (l : Nat) (o o' : Obj) (hl : w.heap.size ≤ l) (ho : W.heap[l]? = some o) (h1 : o.isCells = false) (h2 : o.isWalk = false) : KeepB B W (W.putObj l o') :=
  KeepB.of_below (belowK_b (n₀ := B + 1) (w := w) h W l o o' hl ho h1 h2)
theorem daysL_len (a b m : Int) (h : b - a ≤ 400) : (daysL a b m).length ≤ 401 := Nat.le_trans (upto_len a b m _) (by omega)
end Go.Proofs.YtoaimgfekbnijaaDoor
