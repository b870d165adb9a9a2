/- The iterator over the words of a text: its contract for every loop body. -/
import Derived.Test.YtlcmcknbbmokjaaGreatRmCut
import Derived.Test.YtlcmcknbbmokjaaGreatPm1
import Derived.RangeFuncNested
import Derived.RangeFuncBound
import Derived.RangeFuncCalls
import Derived.RangeFuncLeaves
import Derived.Shelf.Abstract
import Derived.Shelf.RegionOpen
import Derived.OwnWalkIn
import Derived.TacticsInMore
import Derived.LoopNIn
import Derived.LoopIn
namespace Go.Proofs.YtlcmcknbbmokjaaGreat
open Go.RowKit Go.Shelf
attribute [local go_sem] Oper.semAt_some
/-- What a loop body keeps for an iterator: its block. -/
def KpB (B : Nat) (W W' : World) : Prop := W'.heap[B]? = W.heap[B]? ∧ W.heap.size ≤ W'.heap.size
theorem KpB.refl (B : Nat) (W : World) : KpB B W W := ⟨rfl, Nat.le_refl _⟩
theorem KpB.trans {B : Nat} {W1 W2 W3 : World} (h : KpB B W1 W2) (k : KpB B W2 W3) : KpB B W1 W3 := ⟨k.1.trans h.1, Nat.le_trans h.2 k.2⟩
theorem KpB.of_below {B : Nat} {W W' : World} (h : Below (B + 1) W W') : KpB B W W' := ⟨h.block B (Nat.lt_succ_self B), h.size⟩
theorem KpB.cell {B o : Nat} {W W' : World} {v : Value} (h : KpB B W W') (hc : W.cell? ⟨B, o, none⟩ = some v) : W'.cell? ⟨B, o, none⟩ = some v := (World.cell?_of_block (w := W) (a := ⟨B, o, none⟩) h.1).trans hc
theorem fin_take (N k : Nat) (h : k < N) : (List.finRange N).take (k + 1) = (List.finRange N).take k ++ [⟨k, h⟩] := by
  rw [List.take_succ_eq_append_getElem (by simpa using h)]
  simp
set_option maxRecDepth 100000 in
set_option maxHeartbeats 1000000 in
theorem words1_in (n l Bn : Nat) (hn : 1 ≤ n) (s : ByteArray) (hs : s.size ≤ 1000000) (J Jx : List (Fin (nWords s)) → World → Prop) (W : World) (hbn : Bn < W.heap.size)
    (hJ : AbidesFrom W.heap.size J)
    (hY : ∀ pre (x : Fin (nWords s)) W1, J pre W1 → pre.length < nWords s → YieldAt Fence.wide (n - 1) Tryz.prog l #[.int .i64 x.1, .string (cwAt s x.1)] W1 fun e W' =>
      (e = .returned (.bool true) ∧ J (pre ++ [x]) W' ∧ KpB Bn W1 W') ∨ (e = .returned (.bool false) ∧ Jx (pre ++ [x]) W'))
    (c0 : W.cell? ⟨Bn, 0, none⟩ = some (.string s)) (h0 : J [] W) :
    CallsIn Fence.wide n Tryz.prog 142 #[.func (.yield l) #[] #[], .pointer (some ⟨Bn, 0, none⟩)] W fun e W' => (∃ v, e = .returned v) ∧
      ((∃ ys, ys = List.finRange (nWords s) ∧ J ys W') ∨ (∃ pre, pre <+: List.finRange (nWords s) ∧ Jx pre W')) := by
  have hcw := fun w => countWords_any s w hs
  have hct := fun k w => Cut_any (restAt s k) w (Nat.le_trans (restAt_size s k) hs)
  have HNB : Hid (nWords s ≤ 1000001) := Lib.hid (by
    have : Lib.countByte s.data.toList 32 ≤ s.size := Nat.le_trans (List.count_le_length) (by simp)
    unfold nWords; omega)
  have HW : Hid (∀ k, cutB (restAt s k) = (cwAt s k, restAt s (k + 1))) := Lib.hid fun k => rfl
  have HR0 : Hid (restAt s 0 = s) := Lib.hid rfl
  have HFT := Lib.hid (fin_take (nWords s))
  have HCT := Lib.hid hct
  clear hct
  generalize nWords s = N at *
  have hNB := HNB.out
  refine callsIn_of_wp Tryz.func142 rfl trivial ?_
  simp only [Tryz.ntmps142, List.size_toArray, List.length_cons, List.length_nil, Nat.reduceAdd, Nat.reduceSub, Array.replicate_succ, Array.replicate_zero, List.push_toArray, List.append_toArray, List.nil_append, List.cons_append]
  gi_wp2
  refine ⟨trivial, ?_⟩
  refine (callsIn_wide.2 (hcw _)).mono ?_
  rintro e w1 ⟨rfl, hb1⟩
  have hJ1 := hJ _ _ _ _ h0 (grown_below hb1) (fun r e => by cases e)
  have hk1 : KpB Bn W w1 := KpB.of_below (hb1.mono (by omega))
  have hsz1 : W.heap.size ≤ w1.heap.size := hb1.size
  clear hb1 hcw
  gi_wp2
  gi_loopw [3, 4, 5, 9] (fun v3 _ _ v9 wr => ∃ k : Nat, k ≤ N ∧ v9 = .int .i64 k ∧ v3 = .string (restAt s k) ∧ J ((List.finRange N).take k) wr ∧ KpB Bn W wr) (fun _ _ _ v9 _ => N - (intOf v9).toNat)
  case atStart => exact ⟨0, Nat.zero_le _, rfl, by rw [HR0.out], by simpa using hJ1, hk1⟩
  case round =>
    obtain ⟨k, hk, rfl, rfl, hJk, hbr⟩ := hrel
    have hsz := hbr.2
    by_cases hlt : k < N
    · have hc := HCT.out k wr
      rw [HW.out k] at hc
      have HTK := Lib.hid (HFT.out k hlt)
      have hlen : ((List.finRange N).take k).length < N := by simp; omega
      generalize restAt s k = rk at hc
      obtain ⟨rk1, hr1⟩ : ∃ r, restAt s (k + 1) = r := ⟨_, rfl⟩
      rw [hr1] at hc
      have HR1 := Lib.hid hr1
      clear hr1
      gi_wp2
      refine ⟨trivial, ?_⟩
      refine (callsIn_wide.2 hc).mono ?_
      rintro e w2 ⟨rfl, hb2⟩
      have hJ2 := hJ _ _ _ _ hJk (grown_below hb2) (fun r e => by cases e)
      have hbr2 : KpB Bn W w2 := hbr.trans (KpB.of_below (hb2.mono (by omega)))
      have hsz2 : W.heap.size ≤ w2.heap.size := Nat.le_trans hsz hb2.size
      clear hb2 hc
      obtain ⟨fn, tmps, assign, body, hy, hR⟩ := hY _ ⟨k, hlt⟩ w2 hJ2 hlen
      dsimp only at hy
      gi_wp2
      refine hR.mono ?_
      rintro e W3 (⟨rfl, hJ3, hk3⟩ | ⟨rfl, hJx3⟩)
      · gi_wp2
        go_roundw
        case rel => exact ⟨k + 1, by omega, by go_num, by rw [HR1.out], by rw [HTK.out]; exact hJ3, hbr2.trans hk3⟩
        case measure => simp [intOf]; omega
      · gi_wp2
        refine bodyPost_ret (results_none rfl _ _ _) rfl ?_
        exact ⟨⟨_, rfl⟩, .inr ⟨_, by rw [← HTK.out]; exact List.take_prefix _ _, hJx3⟩⟩
    · obtain rfl : k = N := by omega
      gi_wp2
      go_end0
      exact ⟨⟨_, rfl⟩, .inl ⟨_, rfl, by rw [List.take_of_length_le (by simp)] at hJk; exact hJk⟩⟩
/-- The iterator, for every loop body that keeps its block. -/
theorem words_stops (n : Nat) (hn : 1 ≤ n) (Bn : Nat) (s : ByteArray) (hs : s.size ≤ 1000000) (w : World) (hbn : Bn < w.heap.size) (c0 : w.cell? ⟨Bn, 0, none⟩ = some (.string s)) :
    SeqStopsK Fence.wide n Tryz.prog 142 #[.pointer (some ⟨Bn, 0, none⟩)] (fun x : Fin (nWords s) => #[Value.int .i64 x.1, .string (cwAt s x.1)]) (KpB Bn) (fun ys => ys = List.finRange (nWords s)) (fun pre => pre <+: List.finRange (nWords s)) (nWords s) w := fun l J Jx W hW hJ _ hY h0 =>
  words1_in n l Bn hn s hs J Jx W (Nat.lt_of_lt_of_le hbn hW.size) hJ hY (b_old hW c0) h0
theorem kpB_b {B : Nat} {w : World} (h : B < w.heap.size) (W : World) (l : Nat) (o o' : Obj) (hl : w.heap.size ≤ l) (ho : W.heap[l]? = some o) (h1 : o.isCells = false) (h2 : o.isWalk = false) : KpB B W (W.putObj l o') :=
  KpB.of_below (belowK_b (n₀ := B + 1) (w := w) h W l o o' hl ho h1 h2)
theorem wordsOf_any (s : ByteArray) (w : World) : Calls Tryz.prog 61 #[.string s] w fun e w' => e = .returned (.func (.func 142) #[] #[.pointer (some ⟨w.heap.size, 0, none⟩)]) ∧ w'.cell? ⟨w.heap.size, 0, none⟩ = some (.string s) ∧ w.heap.size < w'.heap.size ∧ Below w.heap.size w w' := by
  have hc := cell_fresh w [.string s] 9 0 (.string s) rfl
  have hz : w.heap.size < (w.alloc (.cells #[.string s] 9)).heap.size := by simp
  have HX := Lib.hid (And.intro hc (And.intro hz (below_alloc w (.cells #[.string s] 9))))
  clear hc hz
  go_enter Tryz.func61, Tryz.ntmps61
  go_wp2_with fail
  go_ret
  exact ⟨rfl, HX.out.1, HX.out.2.1, HX.out.2.2⟩
end Go.Proofs.YtlcmcknbbmokjaaGreat
