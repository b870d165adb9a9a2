/- The fields of a line read their words: one contract for all fourteen. -/
import Derived.Test.YtlcmcknbbmokjaaGreatRmReadF
import Derived.Test.YtlcmcknbbmokjaaGreatPm11
import Derived.Test.YtlcmcknbbmokjaaGreatPm12
namespace Go.Proofs.YtlcmcknbbmokjaaGreat
open Go Go.RowKit
/-- Where the field k of a line is. -/
def oK (k : Nat) : Nat := [0, 2, 1, 3, 5, 7, 8, 9, 10, 11, 12, 13, 4, 6].getD k 0
/-- What the field k is, read from a word, and whether it can be that word. -/
def rdV : Nat → ByteArray → Value
  | 5, t => .int .i64 (if allK t 5 then nv t 5 else 0)
  | 6, t => .int .i64 (if allK t 5 then nv t 5 else 0)
  | 7, t => .int .i64 (pmV t : Nat)
  | 8, t => .int .i64 (if pmOk t then pmVal t else 0)
  | 9, t => .int .i64 (if allK t 3 then nv t 3 else 0)
  | 10, t => .int .i64 (if allK t 1 then nv t 1 else 0)
  | 11, t => .int .i64 (if allK t 2 then nv t 2 else 0)
  | _, t => .string t
def rdOk : Nat → ByteArray → Bool
  | 0, t => actB t.data.toList
  | 3, t => isKindB t
  | 5, t => decide (allK t 5)
  | 6, t => decide (allK t 5)
  | 7, t => pmErr t == 0
  | 8, t => decide (pmOk t)
  | 9, t => decide (allK t 3)
  | 10, t => decide (allK t 1)
  | 11, t => decide (allK t 2)
  | 12, t => t.toList == [45] || decide (isName t)
  | 13, t => t.toList == [45] || decide (isName t)
  | _, t => decide (isName t)
def rdSkip (k : Nat) (t : ByteArray) : Bool := decide (12 ≤ k) && t.toList == [45]
def rdG (g : Nat → Value) (k : Nat) (t : ByteArray) : Nat → Value := fun i => if rdSkip k t = true then g i else if i = oK k then rdV k t else g i
/-- A line that is being read: its block, and all that is kept beside it. -/
structure LI (V : World) (lb : Nat) (g : Nat → Value) (W : World) : Prop where
  c : ∀ i, i < 14 → W.cell? ⟨lb, i, none⟩ = some (g i)
  f : ∀ i, i < 14 → W.frozen? ⟨lb, i, none⟩ = false
  blk : ∀ b, b < V.heap.size → b ≠ lb → W.heap[b]? = V.heap[b]?
  size : V.heap.size ≤ W.heap.size
theorem LI.cell {V W : World} {lb : Nat} {g : Nat → Value} (h : LI V lb g W) {b o : Nat} {v : Value} (hb : b ≠ lb) (hc : V.cell? ⟨b, o, none⟩ = some v) : W.cell? ⟨b, o, none⟩ = some v :=
  (World.cell?_of_block (w := V) (a := ⟨b, o, none⟩) (h.blk b (cell_in hc) hb)).trans hc
theorem cell_of_blk {V W : World} {b o : Nat} (h : W.heap[b]? = V.heap[b]?) : W.cell? ⟨b, o, none⟩ = V.cell? ⟨b, o, none⟩ := World.cell?_of_block (w := V) (a := ⟨b, o, none⟩) h
theorem frozen_of_blk {V W : World} {b o : Nat} (h : W.heap[b]? = V.heap[b]?) : W.frozen? ⟨b, o, none⟩ = V.frozen? ⟨b, o, none⟩ := by unfold World.frozen?; rw [h]
theorem LI.frozen {V W : World} {lb : Nat} {g : Nat → Value} (h : LI V lb g W) {b o : Nat} {v : Value} (hb : b ≠ lb) (hc : V.cell? ⟨b, o, none⟩ = some v) (hf : V.frozen? ⟨b, o, none⟩ = false) : W.frozen? ⟨b, o, none⟩ = false :=
  (frozen_of_blk (h.blk b (cell_in hc) hb)).trans hf
theorem LI.grown {V X Y : World} {lb : Nat} {g : Nat → Value} {row : Option Nat} (h : LI V lb g X) (hlb : lb < V.heap.size) (hg : X.grownBy Y row) (hr : ∀ r, row = some r → V.heap.size ≤ r) : LI V lb g Y := by
  have hk : ∀ b, b < V.heap.size → Y.heap[b]? = X.heap[b]? := fun b hb => hg.block b (Nat.lt_of_lt_of_le hb h.size) (by intro e; have := hr b e.symm; omega)
  exact ⟨fun i hi => (cell_of_blk (hk lb hlb)).trans (h.c i hi), fun i hi => (frozen_of_blk (hk lb hlb)).trans (h.f i hi), fun b hb hne => (hk b hb).trans (h.blk b hb hne), Nat.le_trans h.size hg.size⟩
theorem LI.below {V X Y : World} {lb : Nat} {g : Nat → Value} (h : LI V lb g X) (hlb : lb < V.heap.size) (hb : Below X.heap.size X Y) : LI V lb g Y := h.grown hlb (grown_below hb) (by simp)
theorem LI.set {V X : World} {lb : Nat} {g : Nat → Value} (h : LI V lb g X) (o : Nat) (v : Value) (ho : o < 14) : LI V lb (fun i => if i = o then v else g i) (X.setCell ⟨lb, o, none⟩ v) :=
  ⟨fun i hi => by
    by_cases e : i = o
    · subst e; rw [if_pos rfl]; exact set_same (h.c i hi)
    · rw [if_neg e]; exact set_other (h.c i hi) (by intro e2; cases e2; exact e rfl),
   fun i hi => by rw [World.frozen?_setCell]; exact h.f i hi,
   fun b hb hne => by rw [← h.blk b hb hne]; exact Below.heap_setCell _ _ _ _ (fun e => hne (by rw [e])),
   by rw [set_size]; exact h.size⟩
theorem LI.read {V W W' : World} {lb o : Nat} {g : Nat → Value} {v : Value} {ok : Bool} {e : Ending} (h : LI V lb g W) (hlb : lb < V.heap.size) (ho : o < 14) (hr : ReadR e W W' lb o v ok) : LI V lb (fun i => if i = o then v else g i) W' := by
  obtain ⟨w1, h1, h2⟩ := hr.ex
  rw [← set_size w1 ⟨lb, o, none⟩ v] at h2
  exact ((h.below hlb h1).set o v ho).below hlb h2
/-- A call that has read a word into a line. -/
structure ReadG (V : World) (lb : Nat) (w : World) (e : Ending) (w' : World) (g : Nat → Value) (ok : Bool) : Prop where
  ret : e = .returned (.bool ok)
  li : LI V lb g w'
  oth : KeepsOthers w w'
  low : ∀ N, N ≤ lb → Below N w w'
theorem ReadG.of {V w w' : World} {lb k : Nat} {g : Nat → Value} {e : Ending} {t : ByteArray} {ok : Bool} (h : LI V lb g w) (hlb : lb < V.heap.size) (ho : oK k < 14) (hs : rdSkip k t = false) (hr : ReadR e w w' lb (oK k) (rdV k t) ok) : ReadG V lb w e w' (rdG g k t) ok := by
  have h1 := h.read hlb ho hr
  have e1 : rdG g k t = fun i => if i = oK k then rdV k t else g i := funext fun i => by unfold rdG; rw [hs]; rfl
  rw [e1]
  obtain ⟨w1, k1, k2⟩ := hr.ex
  have k2' := k2
  rw [← set_size w1 ⟨lb, oK k, none⟩ (rdV k t)] at k2'
  refine ⟨hr.ret, h1, ((KeepsOthers.of_grownBy (grown_below k1) (fun j o ej hj => by cases ej)).trans (KeepsOthers.setCell _ _ _)).trans (KeepsOthers.of_grownBy (grown_below k2') (fun j o ej hj => by cases ej)), fun N hN => ?_⟩
  have a1 : Below N w w1 := k1.mono (by have := h.size; omega)
  have a2 : Below N w (w1.setCell ⟨lb, oK k, none⟩ (rdV k t)) := a1.setCell (p := ⟨lb, oK k, none⟩) hN _
  exact a2.trans (k2'.mono (by rw [set_size]; have := h.size; have := k1.size; omega))
end Go.Proofs.YtlcmcknbbmokjaaGreat
