/- The fields of a line read their words: one contract for all fourteen. · Each field of a line reads its word. · Contract of the reference's Pairs (requests without error). · The statement's comparison of pairs: two rows of the same pairs; and its conditions on requests. -/
import Derived.Test.YtphoclgibnhjfaaGreatPm11
import Derived.Test.YtphoclgibnhjfaaGreatPm12
import Derived.Test.YtphoclgibnhjfaaGreatPm13
import Derived.Laws.StructEq
import Derived.RangeFuncBox
namespace Go.Proofs.YtphoclgibnhjfaaGreat
open Go Go.RowKit
/-- Where the field k of a line is. -/
def oK (k : Nat) : Nat := [0, 2, 1, 3, 5, 7, 8, 9, 10, 11, 12, 13, 4, 6].getD k 0
/-- What the field k is, read from a word, and whether it can be that word. -/
def rdV : Nat → ByteArray → Value
  | 5, t => .int .i64 (if allK t 5 then nv t 5 else 0)
  | 6, t => .int .i64 (if allK t 5 then nv t 5 else 0)
  | 7, t => .int .i64 (pmV t : Nat)
  | 8, t => .int .i64 (if pmOk t then pmVal t else 0)
  | 9, t => .int .i64 (if allK t 3 then nv t 3 else 0)
  | 10, t => .int .i64 (if allK t 1 then nv t 1 else 0)
  | 11, t => .int .i64 (if allK t 2 then nv t 2 else 0)
  | _, t => .string t
def rdOk : Nat → ByteArray → Bool
  | 0, t => actB t.data.toList
  | 3, t => isKindB t
  | 5, t => decide (allK t 5)
  | 6, t => decide (allK t 5)
  | 7, t => pmErr t == 0
  | 8, t => decide (pmOk t)
  | 9, t => decide (allK t 3)
  | 10, t => decide (allK t 1)
  | 11, t => decide (allK t 2)
  | 12, t => t.toList == [45] || decide (isName t)
  | 13, t => t.toList == [45] || decide (isName t)
  | _, t => decide (isName t)
def rdSkip (k : Nat) (t : ByteArray) : Bool := decide (12 ≤ k) && t.toList == [45]
def rdG (g : Nat → Value) (k : Nat) (t : ByteArray) : Nat → Value := fun i => if rdSkip k t = true then g i else if i = oK k then rdV k t else g i
/-- A line that is being read: its block, and all that is kept beside it. -/
structure LI (V : World) (lb : Nat) (g : Nat → Value) (W : World) : Prop where
  c : ∀ i, i < 14 → W.cell? ⟨lb, i, none⟩ = some (g i)
  f : ∀ i, i < 14 → W.frozen? ⟨lb, i, none⟩ = false
  blk : ∀ b, b < V.heap.size → b ≠ lb → W.heap[b]? = V.heap[b]?
  size : V.heap.size ≤ W.heap.size
theorem LI.cell {V W : World} {lb : Nat} {g : Nat → Value} (h : LI V lb g W) {b o : Nat} {v : Value} (hb : b ≠ lb) (hc : V.cell? ⟨b, o, none⟩ = some v) : W.cell? ⟨b, o, none⟩ = some v :=
  (World.cell?_of_block (w := V) (a := ⟨b, o, none⟩) (h.blk b (cell_in hc) hb)).trans hc
theorem cell_of_blk {V W : World} {b o : Nat} (h : W.heap[b]? = V.heap[b]?) : W.cell? ⟨b, o, none⟩ = V.cell? ⟨b, o, none⟩ := World.cell?_of_block (w := V) (a := ⟨b, o, none⟩) h
theorem frozen_of_blk {V W : World} {b o : Nat} (h : W.heap[b]? = V.heap[b]?) : W.frozen? ⟨b, o, none⟩ = V.frozen? ⟨b, o, none⟩ := by unfold World.frozen?; rw [h]
theorem LI.frozen {V W : World} {lb : Nat} {g : Nat → Value} (h : LI V lb g W) {b o : Nat} {v : Value} (hb : b ≠ lb) (hc : V.cell? ⟨b, o, none⟩ = some v) (hf : V.frozen? ⟨b, o, none⟩ = false) : W.frozen? ⟨b, o, none⟩ = false :=
  (frozen_of_blk (h.blk b (cell_in hc) hb)).trans hf
theorem LI.grown {V X Y : World} {lb : Nat} {g : Nat → Value} {row : Option Nat} (h : LI V lb g X) (hlb : lb < V.heap.size) (hg : X.grownBy Y row) (hr : ∀ r, row = some r → V.heap.size ≤ r) : LI V lb g Y := by
  have hk : ∀ b, b < V.heap.size → Y.heap[b]? = X.heap[b]? := fun b hb => hg.block b (Nat.lt_of_lt_of_le hb h.size) (by intro e; have := hr b e.symm; omega)
  exact ⟨fun i hi => (cell_of_blk (hk lb hlb)).trans (h.c i hi), fun i hi => (frozen_of_blk (hk lb hlb)).trans (h.f i hi), fun b hb hne => (hk b hb).trans (h.blk b hb hne), Nat.le_trans h.size hg.size⟩
theorem LI.below {V X Y : World} {lb : Nat} {g : Nat → Value} (h : LI V lb g X) (hlb : lb < V.heap.size) (hb : Below X.heap.size X Y) : LI V lb g Y := h.grown hlb (grown_below hb) (by simp)
theorem LI.set {V X : World} {lb : Nat} {g : Nat → Value} (h : LI V lb g X) (o : Nat) (v : Value) (ho : o < 14) : LI V lb (fun i => if i = o then v else g i) (X.setCell ⟨lb, o, none⟩ v) :=
  ⟨fun i hi => by
    by_cases e : i = o
    · subst e; rw [if_pos rfl]; exact set_same (h.c i hi)
    · rw [if_neg e]; exact set_other (h.c i hi) (by intro e2; cases e2; exact e rfl),
   fun i hi => by rw [World.frozen?_setCell]; exact h.f i hi,
   fun b hb hne => by rw [← h.blk b hb hne]; exact Below.heap_setCell _ _ _ _ (fun e => hne (by rw [e])),
   by rw [set_size]; exact h.size⟩
theorem LI.read {V W W' : World} {lb o : Nat} {g : Nat → Value} {v : Value} {ok : Bool} {e : Ending} (h : LI V lb g W) (hlb : lb < V.heap.size) (ho : o < 14) (hr : ReadR e W W' lb o v ok) : LI V lb (fun i => if i = o then v else g i) W' := by
  obtain ⟨w1, h1, h2⟩ := hr.ex
  rw [← set_size w1 ⟨lb, o, none⟩ v] at h2
  exact ((h.below hlb h1).set o v ho).below hlb h2
/-- A call that has read a word into a line. -/
structure ReadG (V : World) (lb : Nat) (w : World) (e : Ending) (w' : World) (g : Nat → Value) (ok : Bool) : Prop where
  ret : e = .returned (.bool ok)
  li : LI V lb g w'
  oth : KeepsOthers w w'
  low : ∀ N, N ≤ lb → Below N w w'
theorem ReadG.of {V w w' : World} {lb k : Nat} {g : Nat → Value} {e : Ending} {t : ByteArray} {ok : Bool} (h : LI V lb g w) (hlb : lb < V.heap.size) (ho : oK k < 14) (hs : rdSkip k t = false) (hr : ReadR e w w' lb (oK k) (rdV k t) ok) : ReadG V lb w e w' (rdG g k t) ok := by
  have h1 := h.read hlb ho hr
  have e1 : rdG g k t = fun i => if i = oK k then rdV k t else g i := funext fun i => by unfold rdG; rw [hs]; rfl
  rw [e1]
  obtain ⟨w1, k1, k2⟩ := hr.ex
  have k2' := k2
  rw [← set_size w1 ⟨lb, oK k, none⟩ (rdV k t)] at k2'
  refine ⟨hr.ret, h1, ((KeepsOthers.of_grownBy (grown_below k1) (fun j o ej hj => by cases ej)).trans (KeepsOthers.setCell _ _ _)).trans (KeepsOthers.of_grownBy (grown_below k2') (fun j o ej hj => by cases ej)), fun N hN => ?_⟩
  have a1 : Below N w w1 := k1.mono (by have := h.size; omega)
  have a2 : Below N w (w1.setCell ⟨lb, oK k, none⟩ (rdV k t)) := a1.setCell (p := ⟨lb, oK k, none⟩) hN _
  exact a2.trans (k2'.mono (by rw [set_size]; have := h.size; have := k1.size; omega))
end Go.Proofs.YtphoclgibnhjfaaGreat
namespace Go.Proofs.YtphoclgibnhjfaaGreat
open Go Go.RowKit
/-- The function that reads the field k. -/
structure ReadFn (V : World) (lb : Nat) (w : World) (r : Value) (k : Nat) (t : ByteArray) (g : Nat → Value) : Prop where
  ex : ∃ id caps, r = .func (.func id) #[] caps ∧ Enters id ∧ Calls Tryz.prog id (#[.pointer (some ⟨lb, 0, none⟩), .string t] ++ caps) w fun e w' => ReadG V lb w e w' (rdG g k t) (rdOk k t)
section
variable {V w : World} {lb N : Nat} {s r : Value} {t : ByteArray} {g : Nat → Value}
theorem pm_split (t : ByteArray) : pmOut t = .tuple #[.int .i64 (if pmOk t then pmVal t else 0), .int .i64 (if pmOk t then 0 else 25)] := by
  unfold pmOut
  by_cases h : pmOk t <;> simp [h]
theorem read0 (h : FieldW w N (fkAt 0) s r) (hl : lb < N) (hli : LI V lb g w) (hlb : lb < V.heap.size) (ht : t.size ≤ maxLen) : ReadFn V lb w r 0 t g := by
  obtain ⟨b, c, h1, h2, h3, h4, h5, h6⟩ := h
  exact ⟨⟨_, _, h4, enters Tryz.func189 (by kernel_rfl) (by kernel_rfl), (textRead _ _ 0 b c lb t _ w atF0 (enters Tryz.func138 (by kernel_rfl) (by kernel_rfl)) (fun w => isAction_any t ht w) h5 h6 (by omega) _ (hli.c 0 (by decide)) (hli.f 0 (by decide))).mono fun e w' hr => ReadG.of (k := 0) hli hlb (by decide) rfl hr⟩⟩
theorem read1 (h : FieldW w N (fkAt 1) s r) (hl : lb < N) (hli : LI V lb g w) (hlb : lb < V.heap.size) (_ : t.size ≤ maxLen) : ReadFn V lb w r 1 t g := by
  obtain ⟨b, c, h1, h2, h3, h4, h5, h6⟩ := h
  exact ⟨⟨_, _, h4, enters Tryz.func189 (by kernel_rfl) (by kernel_rfl), (textRead _ _ 2 b c lb t _ w atF1 (enters Tryz.func143 (by kernel_rfl) (by kernel_rfl)) (fun w => cIsName_any t w) h5 h6 (by omega) _ (hli.c 2 (by decide)) (hli.f 2 (by decide))).mono fun e w' hr => ReadG.of (k := 1) hli hlb (by decide) rfl hr⟩⟩
theorem read2 (h : FieldW w N (fkAt 2) s r) (hl : lb < N) (hli : LI V lb g w) (hlb : lb < V.heap.size) (_ : t.size ≤ maxLen) : ReadFn V lb w r 2 t g := by
  obtain ⟨b, c, h1, h2, h3, h4, h5, h6⟩ := h
  exact ⟨⟨_, _, h4, enters Tryz.func189 (by kernel_rfl) (by kernel_rfl), (textRead _ _ 1 b c lb t _ w atF2 (enters Tryz.func143 (by kernel_rfl) (by kernel_rfl)) (fun w => cIsName_any t w) h5 h6 (by omega) _ (hli.c 1 (by decide)) (hli.f 1 (by decide))).mono fun e w' hr => ReadG.of (k := 2) hli hlb (by decide) rfl hr⟩⟩
theorem read3 (h : FieldW w N (fkAt 3) s r) (hl : lb < N) (hli : LI V lb g w) (hlb : lb < V.heap.size) (_ : t.size ≤ maxLen) : ReadFn V lb w r 3 t g := by
  obtain ⟨b, c, h1, h2, h3, h4, h5, h6⟩ := h
  exact ⟨⟨_, _, h4, enters Tryz.func189 (by kernel_rfl) (by kernel_rfl), (textRead _ _ 3 b c lb t _ w atF3 (enters Tryz.func146 (by kernel_rfl) (by kernel_rfl)) (fun w => (CIsKind_any t w).mono fun e w' ⟨h1, h2⟩ => ⟨h1, by rw [h2]; exact Below.refl _ _⟩) h5 h6 (by omega) _ (hli.c 3 (by decide)) (hli.f 3 (by decide))).mono fun e w' hr => ReadG.of (k := 3) hli hlb (by decide) rfl hr⟩⟩
theorem read4 (h : FieldW w N (fkAt 4) s r) (hl : lb < N) (hli : LI V lb g w) (hlb : lb < V.heap.size) (_ : t.size ≤ maxLen) : ReadFn V lb w r 4 t g := by
  obtain ⟨b, c, h1, h2, h3, h4, h5, h6⟩ := h
  exact ⟨⟨_, _, h4, enters Tryz.func189 (by kernel_rfl) (by kernel_rfl), (textRead _ _ 5 b c lb t _ w atF4 (enters Tryz.func143 (by kernel_rfl) (by kernel_rfl)) (fun w => cIsName_any t w) h5 h6 (by omega) _ (hli.c 5 (by decide)) (hli.f 5 (by decide))).mono fun e w' hr => ReadG.of (k := 4) hli hlb (by decide) rfl hr⟩⟩
theorem read5 (h : FieldW w N (fkAt 5) s r) (_ : lb < N) (hli : LI V lb g w) (hlb : lb < V.heap.size) (_ : t.size ≤ maxLen) : ReadFn V lb w r 5 t g := by
  obtain ⟨b, c, h1, h2, h3, h4, h5, h6⟩ := h
  exact ⟨⟨_, _, h4, enters Tryz.func191 (by kernel_rfl) (by kernel_rfl), (numRead _ 7 b c lb 5 t w atF5 (by decide) (by decide) h5 h6 _ (hli.c 7 (by decide)) (hli.f 7 (by decide))).mono fun e w' hr => ReadG.of (k := 5) hli hlb (by decide) rfl hr⟩⟩
theorem read6 (h : FieldW w N (fkAt 6) s r) (_ : lb < N) (hli : LI V lb g w) (hlb : lb < V.heap.size) (_ : t.size ≤ maxLen) : ReadFn V lb w r 6 t g := by
  obtain ⟨b, c, h1, h2, h3, h4, h5, h6⟩ := h
  exact ⟨⟨_, _, h4, enters Tryz.func191 (by kernel_rfl) (by kernel_rfl), (numRead _ 8 b c lb 5 t w atF6 (by decide) (by decide) h5 h6 _ (hli.c 8 (by decide)) (hli.f 8 (by decide))).mono fun e w' hr => ReadG.of (k := 6) hli hlb (by decide) rfl hr⟩⟩
theorem read7 (h : FieldW w N (fkAt 7) s r) (_ : lb < N) (hli : LI V lb g w) (hlb : lb < V.heap.size) (_ : t.size ≤ maxLen) : ReadFn V lb w r 7 t g := by
  obtain ⟨b, c, d, h1, h2, h3, h4, h5, h6, h7, h8⟩ := h
  exact ⟨⟨_, _, h5, enters Tryz.func193 (by kernel_rfl) (by kernel_rfl), (codeRead _ _ 9 b d lb t (pmV t : Nat) (pmErr t) w atF7 (enters Tryz.func154 (by kernel_rfl) (by kernel_rfl)) (fun w => ParseMask_any t w) h6 h8 _ (hli.c 9 (by decide)) (hli.f 9 (by decide))).mono fun e w' hr => ReadG.of (k := 7) hli hlb (by decide) rfl hr⟩⟩
theorem read8 (h : FieldW w N (fkAt 8) s r) (_ : lb < N) (hli : LI V lb g w) (hlb : lb < V.heap.size) (_ : t.size ≤ maxLen) : ReadFn V lb w r 8 t g := by
  obtain ⟨b, c, d, h1, h2, h3, h4, h5, h6, h7, h8⟩ := h
  have e : ((if pmOk t then (0 : Int) else 25) == 0) = decide (pmOk t) := by by_cases hp : pmOk t <;> simp [hp]
  refine ⟨⟨_, _, h5, enters Tryz.func193 (by kernel_rfl) (by kernel_rfl), (codeRead _ _ 10 b d lb t (if pmOk t then pmVal t else 0) (if pmOk t then 0 else 25) w atF8 (enters Tryz.func44 (by kernel_rfl) (by kernel_rfl)) (fun w => by have := ParseMinute_any t w; rwa [pm_split] at this) h6 h8 _ (hli.c 10 (by decide)) (hli.f 10 (by decide))).mono fun e' w' hr => ?_⟩⟩
  rw [e] at hr
  exact ReadG.of (k := 8) hli hlb (by decide) rfl hr
theorem read9 (h : FieldW w N (fkAt 9) s r) (_ : lb < N) (hli : LI V lb g w) (hlb : lb < V.heap.size) (_ : t.size ≤ maxLen) : ReadFn V lb w r 9 t g := by
  obtain ⟨b, c, h1, h2, h3, h4, h5, h6⟩ := h
  exact ⟨⟨_, _, h4, enters Tryz.func191 (by kernel_rfl) (by kernel_rfl), (numRead _ 11 b c lb 3 t w atF9 (by decide) (by decide) h5 h6 _ (hli.c 11 (by decide)) (hli.f 11 (by decide))).mono fun e w' hr => ReadG.of (k := 9) hli hlb (by decide) rfl hr⟩⟩
theorem read10 (h : FieldW w N (fkAt 10) s r) (_ : lb < N) (hli : LI V lb g w) (hlb : lb < V.heap.size) (_ : t.size ≤ maxLen) : ReadFn V lb w r 10 t g := by
  obtain ⟨b, c, h1, h2, h3, h4, h5, h6⟩ := h
  exact ⟨⟨_, _, h4, enters Tryz.func191 (by kernel_rfl) (by kernel_rfl), (numRead _ 12 b c lb 1 t w atF10 (by decide) (by decide) h5 h6 _ (hli.c 12 (by decide)) (hli.f 12 (by decide))).mono fun e w' hr => ReadG.of (k := 10) hli hlb (by decide) rfl hr⟩⟩
theorem read11 (h : FieldW w N (fkAt 11) s r) (_ : lb < N) (hli : LI V lb g w) (hlb : lb < V.heap.size) (_ : t.size ≤ maxLen) : ReadFn V lb w r 11 t g := by
  obtain ⟨b, c, h1, h2, h3, h4, h5, h6⟩ := h
  exact ⟨⟨_, _, h4, enters Tryz.func191 (by kernel_rfl) (by kernel_rfl), (numRead _ 13 b c lb 2 t w atF11 (by decide) (by decide) h5 h6 _ (hli.c 13 (by decide)) (hli.f 13 (by decide))).mono fun e w' hr => ReadG.of (k := 11) hli hlb (by decide) rfl hr⟩⟩
theorem read12 (h : FieldW w N (fkAt 12) s r) (_ : lb < N) (hli : LI V lb g w) (hlb : lb < V.heap.size) (_ : t.size ≤ maxLen) : ReadFn V lb w r 12 t g := by
  obtain ⟨b, h1, h2, h3, h4⟩ := h
  cases hd : (t.toList == [45])
  · have ek : rdOk 12 t = decide (isName t) := by show (t.toList == [45] || decide (isName t)) = _; rw [hd, Bool.false_or]
    have es : rdSkip 12 t = false := by show (true && t.toList == [45]) = false; rw [hd]; rfl
    refine ⟨⟨_, _, h3, enters Tryz.func196 (by kernel_rfl) (by kernel_rfl), ?_⟩⟩
    rw [ek]
    exact (optRead _ 4 b lb t _ w atF12 (fun w => cIsName_any t w) h4 _ (hli.c 4 (by decide)) (hli.f 4 (by decide)) hd).mono fun e w' hr => ReadG.of (k := 12) hli hlb (by decide) es hr
  · have ek : rdOk 12 t = true := by show (t.toList == [45] || decide (isName t)) = true; rw [hd, Bool.true_or]
    have es : rdSkip 12 t = true := by show (true && t.toList == [45]) = true; rw [hd]; rfl
    have eg : rdG g 12 t = g := funext fun i => by unfold rdG; rw [if_pos es]
    refine ⟨⟨_, _, h3, enters Tryz.func196 (by kernel_rfl) (by kernel_rfl), ?_⟩⟩
    rw [ek, eg]
    exact (optDash b lb t w hd).mono fun e w' ⟨h1, h2⟩ => ⟨h1, hli.below hlb h2, KeepsOthers.of_grownBy (grown_below h2) (fun j o ej hj => by cases ej), fun N hN => h2.mono (by have := hli.size; omega)⟩
theorem read13 (h : FieldW w N (fkAt 13) s r) (_ : lb < N) (hli : LI V lb g w) (hlb : lb < V.heap.size) (_ : t.size ≤ maxLen) : ReadFn V lb w r 13 t g := by
  obtain ⟨b, h1, h2, h3, h4⟩ := h
  cases hd : (t.toList == [45])
  · have ek : rdOk 13 t = decide (isName t) := by show (t.toList == [45] || decide (isName t)) = _; rw [hd, Bool.false_or]
    have es : rdSkip 13 t = false := by show (true && t.toList == [45]) = false; rw [hd]; rfl
    refine ⟨⟨_, _, h3, enters Tryz.func196 (by kernel_rfl) (by kernel_rfl), ?_⟩⟩
    rw [ek]
    exact (optRead _ 6 b lb t _ w atF13 (fun w => cIsName_any t w) h4 _ (hli.c 6 (by decide)) (hli.f 6 (by decide)) hd).mono fun e w' hr => ReadG.of (k := 13) hli hlb (by decide) es hr
  · have ek : rdOk 13 t = true := by show (t.toList == [45] || decide (isName t)) = true; rw [hd, Bool.true_or]
    have es : rdSkip 13 t = true := by show (true && t.toList == [45]) = true; rw [hd]; rfl
    have eg : rdG g 13 t = g := funext fun i => by unfold rdG; rw [if_pos es]
    refine ⟨⟨_, _, h3, enters Tryz.func196 (by kernel_rfl) (by kernel_rfl), ?_⟩⟩
    rw [ek, eg]
    exact (optDash b lb t w hd).mono fun e w' ⟨h1, h2⟩ => ⟨h1, hli.below hlb h2, KeepsOthers.of_grownBy (grown_below h2) (fun j o ej hj => by cases ej), fun N hN => h2.mono (by have := hli.size; omega)⟩
theorem readAt (k : Nat) (hk : k < 14) (h : FieldW w N (fkAt k) s r) (hl : lb < N) (hli : LI V lb g w) (hlb : lb < V.heap.size) (ht : t.size ≤ maxLen) : ReadFn V lb w r k t g := by
  match k, hk with
  | 0, _ => exact read0 h hl hli hlb ht
  | 1, _ => exact read1 h hl hli hlb ht
  | 2, _ => exact read2 h hl hli hlb ht
  | 3, _ => exact read3 h hl hli hlb ht
  | 4, _ => exact read4 h hl hli hlb ht
  | 5, _ => exact read5 h hl hli hlb ht
  | 6, _ => exact read6 h hl hli hlb ht
  | 7, _ => exact read7 h hl hli hlb ht
  | 8, _ => exact read8 h hl hli hlb ht
  | 9, _ => exact read9 h hl hli hlb ht
  | 10, _ => exact read10 h hl hli hlb ht
  | 11, _ => exact read11 h hl hli hlb ht
  | 12, _ => exact read12 h hl hli hlb ht
  | 13, _ => exact read13 h hl hli hlb ht
end
end Go.Proofs.YtphoclgibnhjfaaGreat
namespace Go.Proofs.YtphoclgibnhjfaaGreat
open Go Go.RowKit Go.ChangeMaps Go.MapKept
end Go.Proofs.YtphoclgibnhjfaaGreat
namespace Go.Proofs.YtphoclgibnhjfaaGreat
open Go Go.RowKit
theorem pEq_int (d : Nat) (a b : Int) (w : World) : (Op.equalIn (d + 1) 3 (.int .i64 a) (.int .i64 b)).run Tryz.prog w = .ok (a == b) w := run_equalIn_int w d 3 .i64 .i64 a b Tryz.underlying3
theorem pEq_arr2 (a b a' b' : Int) (w : World) :
    (Op.equalIn 10000 110 (.agg #[.int .i64 a, .int .i64 b]) (.agg #[.int .i64 a', .int .i64 b'])).run Tryz.prog w = .ok (a == a' && b == b') w := by
  have hs : (sizeOf 3).run Tryz.prog w = .ok 1 w := Tryz.sizeOf3 w
  rw [show (10000 : Nat) = 9999 + 1 from rfl]
  unfold Op.equalIn
  simp only [Sem.run_bind, run_underlying Tryz.underlying110, Result.andThen_ok, hs]
  cases h1 : (a == a') <;> cases h2 : (b == b') <;> simp [Std.Legacy.Range.forIn_eq_forIn_range', List.range', part, pEq_int, h1, h2]
attribute [local go_sem] pEq_arr2
theorem prFlat_at (l : List (Int × Int)) : ∀ (i : Nat), i < l.length → (prFlat l)[i * 2]? = some (.int .i64 (l.getD i (0, 0)).1) ∧ (prFlat l)[i * 2 + 1]? = some (.int .i64 (l.getD i (0, 0)).2) := by
  induction l with
  | nil => intro i h; simp at h
  | cons x r ih =>
    intro i h
    cases i with
    | zero => simp [prFlat]
    | succ j =>
      have e : prFlat (x :: r) = [.int .i64 x.1, .int .i64 x.2] ++ prFlat r := by simp [prFlat]
      obtain ⟨a, b⟩ := ih j (by simpa using h)
      rw [e, show (j + 1) * 2 = 2 + j * 2 from by omega]
      refine ⟨?_, ?_⟩
      · rw [List.getElem?_append_right (by simp)]; simpa using a
      · rw [List.getElem?_append_right (by simp; omega)]; simpa [show 2 + j * 2 + 1 - 2 = j * 2 + 1 from by omega] using b
theorem pr_zero {w : World} {base : Nat} {e : TypeId} {size : Nat} {v : Value} {xs : List Value} (h : w.ownsRow base e size v 0 xs) : ∃ A c, v = .slice A 0 c := by
  rcases h.2 with ⟨rfl, _⟩ | ⟨g, cap, cur, rfl, _⟩
  · exact ⟨none, 0, rfl⟩
  · exact ⟨_, _, rfl⟩
/-- A call that has returned true or false; true only where h holds. -/
structure BoolR (e : Ending) (h : Prop) : Prop where
  ex : ∃ bb : Bool, e = .returned (.bool bb) ∧ (bb = true → h)
theorem BoolR.mk' {e : Ending} {h : Prop} (bb : Bool) (h1 : e = .returned (.bool bb)) (h2 : bb = true → h) : BoolR e h := ⟨bb, h1, h2⟩
set_option maxRecDepth 100000 in
set_option maxHeartbeats 2000000 in
theorem Brief_any (q : ReqV) (w : World) : Calls Tryz.prog 66 #[.agg q.cells] w fun e w' => BoolR e True ∧ Below w.heap.size w w' := by
  obtain ⟨W, HW, hb0, R⟩ := req_new w q 84
  obtain ⟨name, carrier, kind, terminal, partner, link, a, b, d, m, s, z, n⟩ := q
  obtain ⟨r0, r1, r2, r3, r4, r5, -, -, -, -, -, -, -⟩ := R
  simp only [ReqV.cells] at *
  clear HW hb0 r0 r1 r2 r3 r4 r5
  go_enter Tryz.func66, Tryz.ntmps66
  go_wp2_with fail
  all_goals go_ret
  all_goals exact ⟨.mk' _ rfl fun _ => trivial, below_alloc _ _⟩
set_option maxRecDepth 100000 in
theorem Short_zero (A : Option Addr) (c : Nat) (w : World) : Calls Tryz.prog 23 #[.slice A 0 c, .int .i64 6] w fun e w' => BoolR e True ∧ Below w.heap.size w w' := by
  go_enter Tryz.func23, Tryz.ntmps23
  go_wp2_with fail
  go_loopw [5] (fun i wr => i = .int .i64 0 ∧ wr = w) (fun _ _ => 0)
  case atStart => exact ⟨rfl, rfl⟩
  case round =>
    obtain ⟨rfl, rfl⟩ := hrel
    go_wp2_with fail
    go_ret
    exact ⟨.mk' _ rfl fun _ => trivial, Below.refl _ _⟩
set_option maxRecDepth 100000 in
set_option maxHeartbeats 2000000 in
theorem Short_any (l : List ReqV) (b off cap : Nat) (w : World) (hl : RqsAt w b off l) : Calls Tryz.prog 23 #[.slice (some ⟨b, off, none⟩) l.length cap, .int .i64 6] w
    fun e w' => BoolR e (l.length ≤ 65) ∧ Below w.heap.size w w' := by
  have HL := Lib.hid hl
  clear hl
  by_cases h6 : 65 < l.length
  · have h1 : decide ((6 : Int) < (l.length : Int)) = true := by simp; omega
    have h2 : ((l.length : Int) == 65) = false := by simp; omega
    go_enter Tryz.func23, Tryz.ntmps23
    go_wp2_with fail
    all_goals go_ret
    all_goals exact ⟨.mk' false rfl (fun h => by cases h), Below.refl _ _⟩
  have h65 : l.length ≤ 65 := by omega
  by_cases h3 : (6 : Int) < (l.length : Int) ∧ (l.length : Int) ≠ 65
  · have h2 : ((l.length : Int) == 65) = false := by simpa using h3.2
    have h1 := h3.1
    go_enter Tryz.func23, Tryz.ntmps23
    go_wp2_with fail
    all_goals go_ret
    all_goals exact ⟨.mk' _ rfl fun _ => h65, Below.refl _ _⟩
  have hcase : (decide ((6 : Int) < (l.length : Int)) && !((l.length : Int) == 65)) = false := by
    by_cases h1 : (6 : Int) < (l.length : Int)
    · have h2 : (l.length : Int) = 65 := by
        by_cases h : (l.length : Int) = 65
        · exact h
        · exact absurd ⟨h1, h⟩ h3
      rw [h2]; rfl
    · rw [decide_eq_false h1]; rfl
  clear h3 h6
  cases h1 : decide ((6 : Int) < (l.length : Int))
  · have h1' : (l.length : Int) ≤ 6 := by have := of_decide_eq_false h1; omega
    clear hcase h1
    go_enter Tryz.func23, Tryz.ntmps23
    go_wp2_with fail
    go_loopw [5] (fun i wr => ∃ k : Nat, k ≤ l.length ∧ i = .int .i64 k ∧ Hid (Below w.heap.size w wr)) (fun i _ => l.length - (intOf i).toNat)
    case atStart => exact ⟨0, Nat.zero_le _, rfl, Lib.hid (Below.refl _ _)⟩
    case round =>
      obtain ⟨k, hk, rfl, HB⟩ := hrel
      by_cases hlt : k < l.length
      · obtain ⟨x0, x1, x2, x3, x4, x5, x6, x7, x8, x9, x10, x11, x12⟩ := (HL.out.below HB.out).row hlt rfl
        have hcall := Brief_any (l.getD k default)
        generalize l.getD k default = q at *
        obtain ⟨qa, qb, qc, qd, qe, qf, qg, qh, qi, qj, qk, ql, qm⟩ := q
        dsimp only [ReqV.cells] at hcall x0 x1 x2 x3 x4 x5 x6 x7 x8 x9 x10 x11 x12
        go_wp2_with fail
        refine (hcall _).mono ?_
        rintro e1 w1 ⟨⟨bb, rfl, -⟩, hb1⟩
        have HB1 : Hid (Below w.heap.size w w1) := Lib.hid (b_then HB.out hb1)
        clear x0 x1 x2 x3 x4 x5 x6 x7 x8 x9 x10 x11 x12 hcall hb1
        cases bb
        · go_wp2_with fail
          go_ret
          exact ⟨.mk' _ rfl fun _ => h65, HB1.out⟩
        · go_wp2_with fail
          refine ⟨⟨k + 1, by omega, by go_num, HB1⟩, by simp [intOf]; omega⟩
      · go_wp2_with fail
        go_ret
        exact ⟨.mk' _ rfl fun _ => h65, HB.out⟩
  · have h2 : (l.length : Int) = 65 := by
      rw [h1] at hcase; simpa using hcase
    have h1' : (6 : Int) < (l.length : Int) := by omega
    clear hcase h1
    go_enter Tryz.func23, Tryz.ntmps23
    go_wp2_with fail
    go_loopw [5] (fun i wr => ∃ k : Nat, k ≤ l.length ∧ i = .int .i64 k ∧ Hid (Below w.heap.size w wr)) (fun i _ => l.length - (intOf i).toNat)
    case atStart => exact ⟨0, Nat.zero_le _, rfl, Lib.hid (Below.refl _ _)⟩
    case round =>
      obtain ⟨k, hk, rfl, HB⟩ := hrel
      by_cases hlt : k < l.length
      · obtain ⟨x0, x1, x2, x3, x4, x5, x6, x7, x8, x9, x10, x11, x12⟩ := (HL.out.below HB.out).row hlt rfl
        have hcall := Brief_any (l.getD k default)
        generalize l.getD k default = q at *
        obtain ⟨qa, qb, qc, qd, qe, qf, qg, qh, qi, qj, qk, ql, qm⟩ := q
        dsimp only [ReqV.cells] at hcall x0 x1 x2 x3 x4 x5 x6 x7 x8 x9 x10 x11 x12
        go_wp2_with fail
        refine (hcall _).mono ?_
        rintro e1 w1 ⟨⟨bb, rfl, -⟩, hb1⟩
        have HB1 : Hid (Below w.heap.size w w1) := Lib.hid (b_then HB.out hb1)
        clear x0 x1 x2 x3 x4 x5 x6 x7 x8 x9 x10 x11 x12 hcall hb1
        cases bb
        · go_wp2_with fail
          go_ret
          exact ⟨.mk' _ rfl fun _ => h65, HB1.out⟩
        · go_wp2_with fail
          refine ⟨⟨k + 1, by omega, by go_num, HB1⟩, by simp [intOf]; omega⟩
      · go_wp2_with fail
        go_ret
        exact ⟨.mk' _ rfl fun _ => h65, HB.out⟩
end Go.Proofs.YtphoclgibnhjfaaGreat
