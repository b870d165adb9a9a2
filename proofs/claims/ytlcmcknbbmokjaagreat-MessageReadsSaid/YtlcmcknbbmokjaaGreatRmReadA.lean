/- Each field of a line reads its word. -/
import Derived.Test.YtlcmcknbbmokjaaGreatRmReadK
import Derived.Test.YtlcmcknbbmokjaaGreatRmRMask
namespace Go.Proofs.YtlcmcknbbmokjaaGreat
open Go Go.RowKit
/-- The function that reads the field k. -/
structure ReadFn (V : World) (lb : Nat) (w : World) (r : Value) (k : Nat) (t : ByteArray) (g : Nat → Value) : Prop where
  ex : ∃ id caps, r = .func (.func id) #[] caps ∧ Enters id ∧ Calls Tryz.prog id (#[.pointer (some ⟨lb, 0, none⟩), .string t] ++ caps) w fun e w' => ReadG V lb w e w' (rdG g k t) (rdOk k t)
section
variable {V w : World} {lb N : Nat} {s r : Value} {t : ByteArray} {g : Nat → Value}
theorem pm_split (t : ByteArray) : pmOut t = .tuple #[.int .i64 (if pmOk t then pmVal t else 0), .int .i64 (if pmOk t then 0 else 25)] := by
  unfold pmOut
  by_cases h : pmOk t <;> simp [h]
theorem read0 (h : FieldW w N (fkAt 0) s r) (hl : lb < N) (hli : LI V lb g w) (hlb : lb < V.heap.size) (ht : t.size ≤ maxLen) : ReadFn V lb w r 0 t g := by
  obtain ⟨b, c, h1, h2, h3, h4, h5, h6⟩ := h
  exact ⟨⟨_, _, h4, enters Tryz.func184 (by kernel_rfl) (by kernel_rfl), (textRead _ _ 0 b c lb t _ w atF0 (enters Tryz.func121 (by kernel_rfl) (by kernel_rfl)) (fun w => isAction_any t ht w) h5 h6 (by omega) _ (hli.c 0 (by decide)) (hli.f 0 (by decide))).mono fun e w' hr => ReadG.of (k := 0) hli hlb (by decide) rfl hr⟩⟩
theorem read1 (h : FieldW w N (fkAt 1) s r) (hl : lb < N) (hli : LI V lb g w) (hlb : lb < V.heap.size) (_ : t.size ≤ maxLen) : ReadFn V lb w r 1 t g := by
  obtain ⟨b, c, h1, h2, h3, h4, h5, h6⟩ := h
  exact ⟨⟨_, _, h4, enters Tryz.func184 (by kernel_rfl) (by kernel_rfl), (textRead _ _ 2 b c lb t _ w atF1 (enters Tryz.func123 (by kernel_rfl) (by kernel_rfl)) (fun w => cIsName_any t w) h5 h6 (by omega) _ (hli.c 2 (by decide)) (hli.f 2 (by decide))).mono fun e w' hr => ReadG.of (k := 1) hli hlb (by decide) rfl hr⟩⟩
theorem read2 (h : FieldW w N (fkAt 2) s r) (hl : lb < N) (hli : LI V lb g w) (hlb : lb < V.heap.size) (_ : t.size ≤ maxLen) : ReadFn V lb w r 2 t g := by
  obtain ⟨b, c, h1, h2, h3, h4, h5, h6⟩ := h
  exact ⟨⟨_, _, h4, enters Tryz.func184 (by kernel_rfl) (by kernel_rfl), (textRead _ _ 1 b c lb t _ w atF2 (enters Tryz.func123 (by kernel_rfl) (by kernel_rfl)) (fun w => cIsName_any t w) h5 h6 (by omega) _ (hli.c 1 (by decide)) (hli.f 1 (by decide))).mono fun e w' hr => ReadG.of (k := 2) hli hlb (by decide) rfl hr⟩⟩
theorem read3 (h : FieldW w N (fkAt 3) s r) (hl : lb < N) (hli : LI V lb g w) (hlb : lb < V.heap.size) (_ : t.size ≤ maxLen) : ReadFn V lb w r 3 t g := by
  obtain ⟨b, c, h1, h2, h3, h4, h5, h6⟩ := h
  exact ⟨⟨_, _, h4, enters Tryz.func184 (by kernel_rfl) (by kernel_rfl), (textRead _ _ 3 b c lb t _ w atF3 (enters Tryz.func126 (by kernel_rfl) (by kernel_rfl)) (fun w => (CIsKind_any t w).mono fun e w' ⟨h1, h2⟩ => ⟨h1, by rw [h2]; exact Below.refl _ _⟩) h5 h6 (by omega) _ (hli.c 3 (by decide)) (hli.f 3 (by decide))).mono fun e w' hr => ReadG.of (k := 3) hli hlb (by decide) rfl hr⟩⟩
theorem read4 (h : FieldW w N (fkAt 4) s r) (hl : lb < N) (hli : LI V lb g w) (hlb : lb < V.heap.size) (_ : t.size ≤ maxLen) : ReadFn V lb w r 4 t g := by
  obtain ⟨b, c, h1, h2, h3, h4, h5, h6⟩ := h
  exact ⟨⟨_, _, h4, enters Tryz.func184 (by kernel_rfl) (by kernel_rfl), (textRead _ _ 5 b c lb t _ w atF4 (enters Tryz.func123 (by kernel_rfl) (by kernel_rfl)) (fun w => cIsName_any t w) h5 h6 (by omega) _ (hli.c 5 (by decide)) (hli.f 5 (by decide))).mono fun e w' hr => ReadG.of (k := 4) hli hlb (by decide) rfl hr⟩⟩
theorem read5 (h : FieldW w N (fkAt 5) s r) (_ : lb < N) (hli : LI V lb g w) (hlb : lb < V.heap.size) (_ : t.size ≤ maxLen) : ReadFn V lb w r 5 t g := by
  obtain ⟨b, c, h1, h2, h3, h4, h5, h6⟩ := h
  exact ⟨⟨_, _, h4, enters Tryz.func187 (by kernel_rfl) (by kernel_rfl), (numRead _ 7 b c lb 5 t w atF5 (by decide) (by decide) h5 h6 _ (hli.c 7 (by decide)) (hli.f 7 (by decide))).mono fun e w' hr => ReadG.of (k := 5) hli hlb (by decide) rfl hr⟩⟩
theorem read6 (h : FieldW w N (fkAt 6) s r) (_ : lb < N) (hli : LI V lb g w) (hlb : lb < V.heap.size) (_ : t.size ≤ maxLen) : ReadFn V lb w r 6 t g := by
  obtain ⟨b, c, h1, h2, h3, h4, h5, h6⟩ := h
  exact ⟨⟨_, _, h4, enters Tryz.func187 (by kernel_rfl) (by kernel_rfl), (numRead _ 8 b c lb 5 t w atF6 (by decide) (by decide) h5 h6 _ (hli.c 8 (by decide)) (hli.f 8 (by decide))).mono fun e w' hr => ReadG.of (k := 6) hli hlb (by decide) rfl hr⟩⟩
theorem read7 (h : FieldW w N (fkAt 7) s r) (_ : lb < N) (hli : LI V lb g w) (hlb : lb < V.heap.size) (_ : t.size ≤ maxLen) : ReadFn V lb w r 7 t g := by
  obtain ⟨b, c, d, h1, h2, h3, h4, h5, h6, h7, h8⟩ := h
  exact ⟨⟨_, _, h5, enters Tryz.func189 (by kernel_rfl) (by kernel_rfl), (codeRead _ _ 9 b d lb t (pmV t : Nat) (pmErr t) w atF7 (enters Tryz.func134 (by kernel_rfl) (by kernel_rfl)) (fun w => ParseMask_any t w) h6 h8 _ (hli.c 9 (by decide)) (hli.f 9 (by decide))).mono fun e w' hr => ReadG.of (k := 7) hli hlb (by decide) rfl hr⟩⟩
theorem read8 (h : FieldW w N (fkAt 8) s r) (_ : lb < N) (hli : LI V lb g w) (hlb : lb < V.heap.size) (_ : t.size ≤ maxLen) : ReadFn V lb w r 8 t g := by
  obtain ⟨b, c, d, h1, h2, h3, h4, h5, h6, h7, h8⟩ := h
  have e : ((if pmOk t then (0 : Int) else 25) == 0) = decide (pmOk t) := by by_cases hp : pmOk t <;> simp [hp]
  refine ⟨⟨_, _, h5, enters Tryz.func189 (by kernel_rfl) (by kernel_rfl), (codeRead _ _ 10 b d lb t (if pmOk t then pmVal t else 0) (if pmOk t then 0 else 25) w atF8 (enters Tryz.func54 (by kernel_rfl) (by kernel_rfl)) (fun w => by have := ParseMinute_any t w; rwa [pm_split] at this) h6 h8 _ (hli.c 10 (by decide)) (hli.f 10 (by decide))).mono fun e' w' hr => ?_⟩⟩
  rw [e] at hr
  exact ReadG.of (k := 8) hli hlb (by decide) rfl hr
theorem read9 (h : FieldW w N (fkAt 9) s r) (_ : lb < N) (hli : LI V lb g w) (hlb : lb < V.heap.size) (_ : t.size ≤ maxLen) : ReadFn V lb w r 9 t g := by
  obtain ⟨b, c, h1, h2, h3, h4, h5, h6⟩ := h
  exact ⟨⟨_, _, h4, enters Tryz.func187 (by kernel_rfl) (by kernel_rfl), (numRead _ 11 b c lb 3 t w atF9 (by decide) (by decide) h5 h6 _ (hli.c 11 (by decide)) (hli.f 11 (by decide))).mono fun e w' hr => ReadG.of (k := 9) hli hlb (by decide) rfl hr⟩⟩
theorem read10 (h : FieldW w N (fkAt 10) s r) (_ : lb < N) (hli : LI V lb g w) (hlb : lb < V.heap.size) (_ : t.size ≤ maxLen) : ReadFn V lb w r 10 t g := by
  obtain ⟨b, c, h1, h2, h3, h4, h5, h6⟩ := h
  exact ⟨⟨_, _, h4, enters Tryz.func187 (by kernel_rfl) (by kernel_rfl), (numRead _ 12 b c lb 1 t w atF10 (by decide) (by decide) h5 h6 _ (hli.c 12 (by decide)) (hli.f 12 (by decide))).mono fun e w' hr => ReadG.of (k := 10) hli hlb (by decide) rfl hr⟩⟩
theorem read11 (h : FieldW w N (fkAt 11) s r) (_ : lb < N) (hli : LI V lb g w) (hlb : lb < V.heap.size) (_ : t.size ≤ maxLen) : ReadFn V lb w r 11 t g := by
  obtain ⟨b, c, h1, h2, h3, h4, h5, h6⟩ := h
  exact ⟨⟨_, _, h4, enters Tryz.func187 (by kernel_rfl) (by kernel_rfl), (numRead _ 13 b c lb 2 t w atF11 (by decide) (by decide) h5 h6 _ (hli.c 13 (by decide)) (hli.f 13 (by decide))).mono fun e w' hr => ReadG.of (k := 11) hli hlb (by decide) rfl hr⟩⟩
theorem read12 (h : FieldW w N (fkAt 12) s r) (_ : lb < N) (hli : LI V lb g w) (hlb : lb < V.heap.size) (_ : t.size ≤ maxLen) : ReadFn V lb w r 12 t g := by
  obtain ⟨b, h1, h2, h3, h4⟩ := h
  cases hd : (t.toList == [45])
  · have ek : rdOk 12 t = decide (isName t) := by show (t.toList == [45] || decide (isName t)) = _; rw [hd, Bool.false_or]
    have es : rdSkip 12 t = false := by show (true && t.toList == [45]) = false; rw [hd]; rfl
    refine ⟨⟨_, _, h3, enters Tryz.func192 (by kernel_rfl) (by kernel_rfl), ?_⟩⟩
    rw [ek]
    exact (optRead _ 4 b lb t _ w atF12 (fun w => cIsName_any t w) h4 _ (hli.c 4 (by decide)) (hli.f 4 (by decide)) hd).mono fun e w' hr => ReadG.of (k := 12) hli hlb (by decide) es hr
  · have ek : rdOk 12 t = true := by show (t.toList == [45] || decide (isName t)) = true; rw [hd, Bool.true_or]
    have es : rdSkip 12 t = true := by show (true && t.toList == [45]) = true; rw [hd]; rfl
    have eg : rdG g 12 t = g := funext fun i => by unfold rdG; rw [if_pos es]
    refine ⟨⟨_, _, h3, enters Tryz.func192 (by kernel_rfl) (by kernel_rfl), ?_⟩⟩
    rw [ek, eg]
    exact (optDash b lb t w hd).mono fun e w' ⟨h1, h2⟩ => ⟨h1, hli.below hlb h2, KeepsOthers.of_grownBy (grown_below h2) (fun j o ej hj => by cases ej), fun N hN => h2.mono (by have := hli.size; omega)⟩
theorem read13 (h : FieldW w N (fkAt 13) s r) (_ : lb < N) (hli : LI V lb g w) (hlb : lb < V.heap.size) (_ : t.size ≤ maxLen) : ReadFn V lb w r 13 t g := by
  obtain ⟨b, h1, h2, h3, h4⟩ := h
  cases hd : (t.toList == [45])
  · have ek : rdOk 13 t = decide (isName t) := by show (t.toList == [45] || decide (isName t)) = _; rw [hd, Bool.false_or]
    have es : rdSkip 13 t = false := by show (true && t.toList == [45]) = false; rw [hd]; rfl
    refine ⟨⟨_, _, h3, enters Tryz.func192 (by kernel_rfl) (by kernel_rfl), ?_⟩⟩
    rw [ek]
    exact (optRead _ 6 b lb t _ w atF13 (fun w => cIsName_any t w) h4 _ (hli.c 6 (by decide)) (hli.f 6 (by decide)) hd).mono fun e w' hr => ReadG.of (k := 13) hli hlb (by decide) es hr
  · have ek : rdOk 13 t = true := by show (t.toList == [45] || decide (isName t)) = true; rw [hd, Bool.true_or]
    have es : rdSkip 13 t = true := by show (true && t.toList == [45]) = true; rw [hd]; rfl
    have eg : rdG g 13 t = g := funext fun i => by unfold rdG; rw [if_pos es]
    refine ⟨⟨_, _, h3, enters Tryz.func192 (by kernel_rfl) (by kernel_rfl), ?_⟩⟩
    rw [ek, eg]
    exact (optDash b lb t w hd).mono fun e w' ⟨h1, h2⟩ => ⟨h1, hli.below hlb h2, KeepsOthers.of_grownBy (grown_below h2) (fun j o ej hj => by cases ej), fun N hN => h2.mono (by have := hli.size; omega)⟩
theorem readAt (k : Nat) (hk : k < 14) (h : FieldW w N (fkAt k) s r) (hl : lb < N) (hli : LI V lb g w) (hlb : lb < V.heap.size) (ht : t.size ≤ maxLen) : ReadFn V lb w r k t g := by
  match k, hk with
  | 0, _ => exact read0 h hl hli hlb ht
  | 1, _ => exact read1 h hl hli hlb ht
  | 2, _ => exact read2 h hl hli hlb ht
  | 3, _ => exact read3 h hl hli hlb ht
  | 4, _ => exact read4 h hl hli hlb ht
  | 5, _ => exact read5 h hl hli hlb ht
  | 6, _ => exact read6 h hl hli hlb ht
  | 7, _ => exact read7 h hl hli hlb ht
  | 8, _ => exact read8 h hl hli hlb ht
  | 9, _ => exact read9 h hl hli hlb ht
  | 10, _ => exact read10 h hl hli hlb ht
  | 11, _ => exact read11 h hl hli hlb ht
  | 12, _ => exact read12 h hl hli hlb ht
  | 13, _ => exact read13 h hl hli hlb ht
end
end Go.Proofs.YtlcmcknbbmokjaaGreat
