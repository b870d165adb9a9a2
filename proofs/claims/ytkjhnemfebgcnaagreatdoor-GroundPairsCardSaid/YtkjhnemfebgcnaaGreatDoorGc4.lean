/- An evaluator of closed calls: part A. What it comes to, the program comes to, in every world that holds the listed variables. -/
import Derived.RangeFuncLeaves
import Derived.OrdersIn
import Derived.Below
import Derived.Laws.Rows
import Derived.Laws.CopyRow
import Derived.Laws.Cells
import Derived.Laws.Tables
namespace Go.Proofs.YtkjhnemfebgcnaaGreatDoor.Ev
open Go Go.RowKit
/-- A tree of objects by their numbers. -/
inductive Tr where
  | nil
  | one (o : Obj)
  | nd (l r : Tr)
def Tr.left : Tr → Tr
  | .nd l _ => l
  | _ => .nil
def Tr.right : Tr → Tr
  | .nd _ r => r
  | _ => .nil
def Tr.get : Nat → Tr → Nat → Option Obj
  | 0, .one o, _ => some o
  | d + 1, .nd l r, i => bif i % 2 == 0 then Tr.get d l (i / 2) else Tr.get d r (i / 2)
  | _, _, _ => none
def Tr.set : Nat → Tr → Nat → Option Obj → Tr
  | 0, _, _, some o => .one o
  | 0, _, _, none => .nil
  | d + 1, t, i, v => bif i % 2 == 0 then .nd (Tr.set d t.left (i / 2) v) t.right else .nd t.left (Tr.set d t.right (i / 2) v)
theorem Tr.get_nil (d i : Nat) : Tr.get d .nil i = none := by cases d <;> rfl
theorem Tr.get_succ (d : Nat) (t : Tr) (i : Nat) : Tr.get (d + 1) t i = bif i % 2 == 0 then Tr.get d t.left (i / 2) else Tr.get d t.right (i / 2) := by
  cases t with
  | nd l r => rfl
  | nil => simp [Tr.get, Tr.left, Tr.right, Tr.get_nil]
  | one o => simp [Tr.get, Tr.left, Tr.right, Tr.get_nil]
theorem Tr.get_set (d : Nat) : ∀ (t : Tr) (i j : Nat) (v : Option Obj), i < 2 ^ d → j < 2 ^ d → Tr.get d (Tr.set d t i v) j = if j = i then v else Tr.get d t j := by
  induction d with
  | zero =>
    intro t i j v hi hj
    obtain rfl : i = 0 := by simpa using hi
    obtain rfl : j = 0 := by simpa using hj
    cases v <;> simp [Tr.set, Tr.get]
  | succ d ih =>
    intro t i j v hi hj
    have hi2 : i / 2 < 2 ^ d := by rw [Nat.pow_succ] at hi; omega
    have hj2 : j / 2 < 2 ^ d := by rw [Nat.pow_succ] at hj; omega
    rw [Tr.get_succ, Tr.get_succ d t]
    by_cases h1 : i % 2 = 0
    · by_cases h2 : j % 2 = 0
      · simp only [Tr.set, h1, h2, beq_self_eq_true, cond_true, Tr.left]
        rw [ih _ _ _ _ hi2 hj2]
        by_cases e : j = i
        · subst e; simp
        · rw [if_neg e, if_neg (by omega)]
      · have h2' : (j % 2 == 0) = false := by simpa using h2
        simp only [Tr.set, h1, h2', beq_self_eq_true, cond_true, cond_false, Tr.right]
        rw [if_neg (by omega)]
    · have h1' : (i % 2 == 0) = false := by simpa using h1
      by_cases h2 : j % 2 = 0
      · simp only [Tr.set, h1', h2, beq_self_eq_true, cond_true, cond_false, Tr.left]
        rw [if_neg (by omega)]
      · have h2' : (j % 2 == 0) = false := by simpa using h2
        simp only [Tr.set, h1', h2', cond_false, Tr.right]
        rw [ih _ _ _ _ hi2 hj2]
        by_cases e : j = i
        · subst e; simp
        · rw [if_neg e, if_neg (by omega)]

/-- The known blocks: those that are alive; the next number; from which number on they may be written. -/
structure H where
  t : Tr
  next : Nat
  bar : Nat
def H.get (h : H) (i : Nat) : Option Obj := if i < 65536 then h.t.get 16 i else none
def H.put (h : H) (i : Nat) (v : Option Obj) : H := { h with t := h.t.set 16 i v }
def H.push (h : H) (o : Obj) : H := { t := h.t.set 16 h.next (some o), next := h.next + 1, bar := h.bar }
theorem H.get_put (h : H) (i : Nat) (v : Option Obj) (j : Nat) (hi : i < 65536) : (h.put i v).get j = if j = i then v else h.get j := by
  unfold H.get H.put
  by_cases hj : j < 65536
  · rw [if_pos hj, if_pos hj]; exact Tr.get_set 16 _ _ _ _ hi hj
  · rw [if_neg hj, if_neg hj, if_neg (by omega)]
theorem H.get_push (h : H) (o : Obj) (j : Nat) (hi : h.next < 65536) : (h.push o).get j = if j = h.next then some o else h.get j :=
  H.get_put h h.next (some o) j hi

/-- Where a known block lies: its number in the world; for a row that an append has made, its capacity there. -/
abbrev Rn := Nat → Option (Nat × Option Nat)
/-- Values that are alike up to the numbers of blocks, and the capacities of slices that an append has made. -/
inductive VR (ρ : Rn) : Value → Value → Prop
  | bool (b) : VR ρ (.bool b) (.bool b)
  | int (k n) : VR ρ (.int k n) (.int k n)
  | float (k n) : VR ρ (.float k n) (.float k n)
  | complex (k n m) : VR ρ (.complex k n m) (.complex k n m)
  | string (s) : VR ρ (.string s) (.string s)
  | ptr0 : VR ρ (.pointer none) (.pointer none)
  | ptr {i j c} (o) : ρ i = some (j, c) → VR ρ (.pointer (some ⟨i, o, none⟩)) (.pointer (some ⟨j, o, none⟩))
  | sl0 (l c) : VR ρ (.slice none l c) (.slice none l c)
  | sl {i j} (o l c) : ρ i = some (j, none) → VR ρ (.slice (some ⟨i, o, none⟩) l c) (.slice (some ⟨j, o, none⟩) l c)
  | slL {i j k} (o l c c') : ρ i = some (j, some k) → l ≤ c → c ≤ c' → (o = 0 → c' = k) → VR ρ (.slice (some ⟨i, o, none⟩) l c) (.slice (some ⟨j, o, none⟩) l c')
  | slE {i j k} (o o' c') : ρ i = some (j, some k) → VR ρ (.slice (some ⟨i, o, none⟩) 0 0) (.slice (some ⟨j, o', none⟩) 0 c')
  | map0 : VR ρ (.map none) (.map none)
  | map {i j c} : ρ i = some (j, c) → VR ρ (.map (some i)) (.map (some j))
  | func (fn : Fn) {a a' b b' : Array Value} : (∀ l, fn ≠ .yield l) → a.size = a'.size → (∀ t, t < a.size → VR ρ (a.getD t undef) (a'.getD t undef)) →
      b.size = b'.size → (∀ t, t < b.size → VR ρ (b.getD t undef) (b'.getD t undef)) → VR ρ (.func fn a b) (.func fn a' b')
  | yield {l l' c} : ρ l = some (l', c) → VR ρ (.func (.yield l) #[] #[]) (.func (.yield l') #[] #[])
  | nilFunc : VR ρ .nilFunc .nilFunc
  | iface (t) {v v'} : VR ρ v v' → VR ρ (.iface t v) (.iface t v')
  | nilIface : VR ρ .nilIface .nilIface
  | agg {a a' : Array Value} : a.size = a'.size → (∀ t, t < a.size → VR ρ (a.getD t undef) (a'.getD t undef)) → VR ρ (.agg a) (.agg a')
  | tuple {a a' : Array Value} : a.size = a'.size → (∀ t, t < a.size → VR ρ (a.getD t undef) (a'.getD t undef)) → VR ρ (.tuple a) (.tuple a')
/-- Rows of values that are alike. -/
def AR (ρ : Rn) (a a' : Array Value) : Prop := a.size = a'.size ∧ ∀ t, t < a.size → VR ρ (a.getD t undef) (a'.getD t undef)
def Le (ρ ρ' : Rn) : Prop := ∀ i y, ρ i = some y → ρ' i = some y
theorem Le.refl (ρ : Rn) : Le ρ ρ := fun _ _ h => h
theorem Le.trans {a b c : Rn} (h : Le a b) (k : Le b c) : Le a c := fun i y e => k i y (h i y e)
theorem VR.mono {ρ ρ' : Rn} (hl : Le ρ ρ') {v v' : Value} (h : VR ρ v v') : VR ρ' v v' := by
  induction h with
  | bool b => exact .bool b
  | int k n => exact .int k n
  | float k n => exact .float k n
  | complex k n m => exact .complex k n m
  | string s => exact .string s
  | ptr0 => exact .ptr0
  | ptr o h => exact .ptr o (hl _ _ h)
  | sl0 l c => exact .sl0 l c
  | sl o l c h => exact .sl o l c (hl _ _ h)
  | slL o l c c' h h1 h2 h3 => exact .slL o l c c' (hl _ _ h) h1 h2 h3
  | slE o o' c' h => exact .slE o o' c' (hl _ _ h)
  | map0 => exact .map0
  | map h => exact .map (hl _ _ h)
  | func fn h0 h1 _ h3 _ ih1 ih2 => exact .func fn h0 h1 ih1 h3 ih2
  | yield h => exact .yield (hl _ _ h)
  | nilFunc => exact .nilFunc
  | iface t _ ih => exact .iface t ih
  | nilIface => exact .nilIface
  | agg h1 _ ih => exact .agg h1 ih
  | tuple h1 _ ih => exact .tuple h1 ih
theorem AR.mono {ρ ρ' : Rn} (hl : Le ρ ρ') {a a' : Array Value} (h : AR ρ a a') : AR ρ' a a' := ⟨h.1, fun t ht => (h.2 t ht).mono hl⟩
/-- Values without addresses. -/
def flat0 : Value → Bool
  | .bool _ | .int _ _ | .float _ _ | .complex _ _ _ | .string _ | .pointer none | .slice none _ _ | .map none | .nilFunc | .nilIface => true
  | .func (.yield _) _ _ => false
  | .func _ a b => a.size == 0 && b.size == 0
  | _ => false
def flat1 : Value → Bool
  | .agg cs => cs.toList.all flat0
  | v => flat0 v
def flat : Value → Bool
  | .tuple vs => vs.toList.all flat1
  | v => flat1 v
theorem arr_ext {a a' : Array Value} (h1 : a.size = a'.size) (h2 : ∀ t, t < a.size → a'.getD t undef = a.getD t undef) : a' = a := by
  apply Array.ext h1.symm
  intro i hi hi'
  have := h2 i hi'
  simpa [Array.getD, hi, hi'] using this
theorem all_getD {p : Value → Bool} {a : Array Value} (h : a.toList.all p = true) (t : Nat) (ht : t < a.size) : p (a.getD t undef) = true := by
  rw [List.all_eq_true] at h
  refine h _ ?_
  simp only [Array.getD, ht, dif_pos, Array.getInternal_eq_getElem]
  simp
theorem flat0_eq {ρ : Rn} {v v' : Value} (hf : flat0 v = true) (h : VR ρ v v') : v' = v := by
  cases h with
  | @func fn a a' b b' h0 h1 _ h3 _ =>
    have e : a.size = 0 ∧ b.size = 0 := by
      cases fn <;> simp [flat0] at hf ⊢ <;> exact hf
    obtain ⟨e1, e2⟩ := e
    rw [Array.eq_empty_of_size_eq_zero e1, Array.eq_empty_of_size_eq_zero e2, Array.eq_empty_of_size_eq_zero (xs := a') (by omega), Array.eq_empty_of_size_eq_zero (xs := b') (by omega)]
  | _ => first | rfl | (simp [flat0] at hf)
theorem flat1_eq {ρ : Rn} {v v' : Value} (hf : flat1 v = true) (h : VR ρ v v') : v' = v := by
  cases v with
  | agg cs => cases h with
    | agg h1 h2 => rw [arr_ext h1 (fun t ht => flat0_eq (all_getD hf t ht) (h2 t ht))]
  | _ => exact flat0_eq hf h
theorem flat_eq {ρ : Rn} {v v' : Value} (hf : flat v = true) (h : VR ρ v v') : v' = v := by
  cases v with
  | tuple cs => cases h with
    | tuple h1 h2 => rw [arr_ext h1 (fun t ht => flat1_eq (all_getD hf t ht) (h2 t ht))]
  | _ => exact flat1_eq hf h
theorem flat0_VR (ρ : Rn) {v : Value} (hf : flat0 v = true) : VR ρ v v := by
  cases v with
  | bool b => exact .bool b
  | int k n => exact .int k n
  | float k n => exact .float k n
  | complex k n m => exact .complex k n m
  | string s => exact .string s
  | pointer a => cases a with
    | none => exact .ptr0
    | some a => simp [flat0] at hf
  | slice a l c => cases a with
    | none => exact .sl0 l c
    | some a => simp [flat0] at hf
  | map r => cases r with
    | none => exact .map0
    | some a => simp [flat0] at hf
  | func fn a b =>
    have e : (∀ l, fn ≠ .yield l) ∧ a.size = 0 ∧ b.size = 0 := by
      cases fn <;> simp [flat0] at hf ⊢ <;> exact hf
    exact .func fn e.1 rfl (fun t ht => by omega) rfl (fun t ht => by omega)
  | nilFunc => exact .nilFunc
  | nilIface => exact .nilIface
  | _ => simp [flat0] at hf
theorem flat1_VR (ρ : Rn) {v : Value} (hf : flat1 v = true) : VR ρ v v := by
  cases v with
  | agg cs => exact .agg rfl (fun t ht => flat0_VR ρ (all_getD hf t ht))
  | _ => exact flat0_VR ρ hf
theorem flat_VR (ρ : Rn) {v : Value} (hf : flat v = true) : VR ρ v v := by
  cases v with
  | tuple cs => exact .tuple rfl (fun t ht => flat1_VR ρ (all_getD hf t ht))
  | _ => exact flat1_VR ρ hf
end Go.Proofs.YtkjhnemfebgcnaaGreatDoor.Ev

namespace Go.Proofs.YtkjhnemfebgcnaaGreatDoor.Ev
open Go Go.RowKit
/-- Cell k of an object. -/
def rd (x : Option Obj) (k : Nat) : Option Value := match x with
  | some (.cells c _ _) => c[k]?
  | _ => none
theorem cell_rd (w : World) (j k : Nat) : w.cell? ⟨j, k, none⟩ = rd w.heap[j]? k := by
  unfold World.cell? rd
  simp
  rcases w.heap[j]? with _ | o
  · rfl
  · cases o <;> rfl
/-- Entries of maps: the keys without addresses are the same. -/
inductive ER (ρ : Rn) : List MapEntry → List MapEntry → Prop
  | nil : ER ρ [] []
  | cons {k v v' b l l'} : flat0 k = true → VR ρ v v' → ER ρ l l' → ER ρ (⟨k, v, b⟩ :: l) (⟨k, v', b⟩ :: l')
/-- A known object and what lies in the world. The third part of known cells is ours: 0 plain, 1 made by an append (with the cells of an element), 2 only read. -/
def OR (ρ : Rn) (c : Option Nat) : Obj → Option Obj → Prop
  | .cells cs _ fl, x => (∀ k, k < cs.size → ∃ v, rd x k = some v ∧ VR ρ (cs.getD k undef) v) ∧
      ((fl.1 = 2 ∧ ∃ cs' t' fr, x = some (.cells cs' t' fr) ∧ cs'.size = cs.size) ∨ fl.1 ≠ 2 ∧ ∃ cs' t', x = some (.cells cs' t' (0, 0)) ∧ cs.size ≤ cs'.size ∧ (fl.1 = 1 → c.isSome = true) ∧ (fl.1 ≠ 1 → c = none) ∧ ∀ kp, c = some kp → cs'.size = kp * fl.2)
  | .map es clock, x => ∃ es', x = some (.map es' clock) ∧ ER ρ es.toList es'.toList
  | .loop l, x => ∃ l', x = some (.loop l') ∧ l'.state = l.state ∧ l'.pending = l.pending ∧ l'.params = l.params ∧ l'.assign = l.assign ∧ l'.body = l.body ∧ AR ρ l.tmps l'.tmps ∧ ∃ c, ρ l.defers = some (l'.defers, c)
  | .deferred (some []), x => x = some (.deferred (some []))
  | .deferred none, x => x = some (.deferred none)
  | .stringIter s p, x => x = some (.stringIter s p)
  | _, _ => False
theorem ER.mono {ρ ρ' : Rn} (hl : Le ρ ρ') {l l' : List MapEntry} (h : ER ρ l l') : ER ρ' l l' := by
  induction h with
  | nil => exact .nil
  | cons h1 h2 _ ih => exact .cons h1 (h2.mono hl) ih
theorem OR.mono {ρ ρ' : Rn} (hl : Le ρ ρ') {c : Option Nat} {o : Obj} {x : Option Obj} (h : OR ρ c o x) : OR ρ' c o x := by
  unfold OR at *
  split at h
  · exact ⟨fun k hk => let ⟨v, h1, h2⟩ := h.1 k hk; ⟨v, h1, h2.mono hl⟩, h.2⟩
  · obtain ⟨es', h1, h2⟩ := h; exact ⟨es', h1, h2.mono hl⟩
  · obtain ⟨l', h1, h2, h3, h4, h5, h6, h7, c, h8⟩ := h; exact ⟨l', h1, h2, h3, h4, h5, h6, h7.mono hl, c, hl _ _ h8⟩
  · exact h
  · exact h
  · exact h
  · exact h.elim
structure RW (ρ : Rn) (g : Nat → Option Obj) (w : World) : Prop where
  obj : ∀ i o, g i = some o → ∃ j c, ρ i = some (j, c) ∧ OR ρ c o w.heap[j]?
  inj : ∀ i i' o o' j c c', g i = some o → g i' = some o' → ρ i = some (j, c) → ρ i' = some (j, c') → i = i'
  lt : ∀ i o j c, g i = some o → ρ i = some (j, c) → j < w.heap.size
theorem OR.isSome {ρ : Rn} {c : Option Nat} {o : Obj} {x : Option Obj} (h : OR ρ c o x) (hp : ∀ cs t fl, o = .cells cs t fl → fl.1 ≠ 2) : ∃ y, x = some y := by
  unfold OR at h
  split at h
  · rcases h.2 with h2 | ⟨_, cs', t', h2, _⟩
    · exact absurd h2.1 (hp _ _ _ rfl)
    · exact ⟨_, h2⟩
  · obtain ⟨es', h1, _⟩ := h; exact ⟨_, h1⟩
  · obtain ⟨l', h1, _⟩ := h; exact ⟨_, h1⟩
  · exact ⟨_, h⟩
  · exact ⟨_, h⟩
  · exact ⟨_, h⟩
  · exact h.elim
/-- The numbers of blocks that are alive lie below the next one. -/
structure H.Ok (h : H) : Prop where
  bar : h.bar ≤ h.next
  lt : ∀ i o, h.get i = some o → i < h.next
/-- What a piece of a run does. -/
structure Post (ρ : Rn) (h : H) (w : World) (ρ' : Rn) (h' : H) (w' : World) : Prop where
  nx : h.next ≤ h'.next
  bar : h'.bar = h.bar
  le : Le ρ ρ'
  out : ∀ i, (i < h.next ∨ h'.next ≤ i) → ρ' i = ρ i
  rel : RW ρ' h'.get w'
  os : w'.os = w.os
  tape : w'.tape = w.tape
  output : w'.output = w.output
  size : w.heap.size ≤ w'.heap.size
  keep : ∀ j, j < w.heap.size → (∀ i o c, h.bar ≤ i → h.get i = some o → ρ i ≠ some (j, c)) → w'.heap[j]? = w.heap[j]?
  new : ∀ i o j c, h.bar ≤ i → h'.get i = some o → ρ' i = some (j, c) → j < w.heap.size → ∃ i0 o0 c0, h.bar ≤ i0 ∧ h.get i0 = some o0 ∧ ρ i0 = some (j, c0)
  old : ∀ i, i < h.bar → h'.get i = h.get i
  ok : h'.Ok
theorem RW.of_heap {ρ : Rn} {g : Nat → Option Obj} {w w' : World} (h : RW ρ g w) (e : w'.heap = w.heap) : RW ρ g w' := ⟨by rw [e]; exact h.obj, h.inj, by rw [e]; exact h.lt⟩
theorem RW.less {ρ : Rn} {g g' : Nat → Option Obj} {w : World} (h : RW ρ g w) (e : ∀ i o, g' i = some o → g i = some o) : RW ρ g' w :=
  ⟨fun i o hi => h.obj i o (e i o hi), fun i i' o o' j c c' h1 h2 => h.inj i i' o o' j c c' (e _ _ h1) (e _ _ h2), fun i o j c h1 => h.lt i o j c (e _ _ h1)⟩
theorem Post.same {ρ : Rn} {h : H} {w w' : World} (hok : h.Ok) (hr : RW ρ h.get w) (e : w'.heap = w.heap) (h1 : w'.os = w.os) (h2 : w'.tape = w.tape) (h3 : w'.output = w.output) : Post ρ h w ρ h w' :=
  ⟨Nat.le_refl _, rfl, Le.refl ρ, fun _ _ => rfl, hr.of_heap e, h1, h2, h3, by rw [e]; exact Nat.le_refl _, fun j _ _ => by rw [e], fun i o j c hb hi hj _ => ⟨i, o, c, hb, hi, hj⟩, fun _ _ => rfl, hok⟩
theorem Post.refl {ρ : Rn} {h : H} {w : World} (hok : h.Ok) (hr : RW ρ h.get w) : Post ρ h w ρ h w := Post.same hok hr rfl rfl rfl rfl
theorem Post.trans {ρ ρ1 ρ2 : Rn} {h h1 h2 : H} {w w1 w2 : World} (p : Post ρ h w ρ1 h1 w1) (q : Post ρ1 h1 w1 ρ2 h2 w2) : Post ρ h w ρ2 h2 w2 := by
  have b1 := p.bar
  have b2 := q.bar
  have n1 := p.nx
  have n2 := q.nx
  refine ⟨by omega, b2.trans b1, p.le.trans q.le, fun i hi => ?_, q.rel, q.os.trans p.os, q.tape.trans p.tape, q.output.trans p.output, Nat.le_trans p.size q.size, fun j hj hk => ?_, fun i o j c hb hi hj hlt => ?_, fun i hi => ?_, q.ok⟩
  · rw [q.out i (by omega), p.out i (by omega)]
  · rw [q.keep j (Nat.lt_of_lt_of_le hj p.size) (fun i o c hb hi e => ?_), p.keep j hj hk]
    obtain ⟨i0, o0, c0, h0, h0', h0''⟩ := p.new i o j c (b1 ▸ hb) hi e hj
    exact hk i0 o0 c0 h0 h0' h0''
  · obtain ⟨i1, o1, c1, g1, g2, g3⟩ := q.new i o j c (by rw [b1]; exact hb) hi hj (Nat.lt_of_lt_of_le hlt p.size)
    exact p.new i1 o1 j c1 (b1 ▸ g1) g2 g3 hlt
  · rw [q.old i (by rw [b1]; exact hi), p.old i hi]
def upd (ρ : Rn) (i : Nat) (y : Nat × Option Nat) : Rn := fun k => if k = i then some y else ρ k
theorem upd_le {ρ : Rn} {i : Nat} (y : Nat × Option Nat) (h : ρ i = none) : Le ρ (upd ρ i y) := fun k z e => by
  unfold upd; split
  · subst k; rw [h] at e; cases e
  · exact e
/-- A new block. -/
theorem Post.alloc {ρ : Rn} {h : H} {w w' : World} {o o' : Obj} {c : Option Nat} (hok : h.Ok) (hr : RW ρ h.get w) (hn : h.next < 65536) (hf : ρ h.next = none)
    (e : w'.heap = w.heap.push o') (h1 : w'.os = w.os) (h2 : w'.tape = w.tape) (h3 : w'.output = w.output) (ho : OR (upd ρ h.next (w.heap.size, c)) c o (some o')) :
    Post ρ h w (upd ρ h.next (w.heap.size, c)) (h.push o) w' := by
  have hl := upd_le (ρ := ρ) (w.heap.size, c) hf
  have hgn : h.get h.next = none := by
    cases hg : h.get h.next with
    | none => rfl
    | some o0 => obtain ⟨j, c, h0, _⟩ := hr.obj _ _ hg; rw [hf] at h0; cases h0
  have hp : ∀ j, j < w.heap.size → w'.heap[j]? = w.heap[j]? := fun j hj => by rw [e, Array.getElem?_push, if_neg (by omega)]
  have hlast : w'.heap[w.heap.size]? = some o' := by rw [e]; simp
  have hex : ∀ i o0, h.get i = some o0 → ∃ j c, ρ i = some (j, c) ∧ OR ρ c o0 w'.heap[j]? := fun i o0 hi => by
    obtain ⟨j, c, g1, g2⟩ := hr.obj i o0 hi
    exact ⟨j, c, g1, by rw [hp j (hr.lt i o0 j c hi g1)]; exact g2⟩
  refine ⟨by simp [H.push], rfl, hl, fun i hi => ?_, ⟨fun i o1 hi => ?_, fun i i' o1 o1' j c c' hi hi' hj hj' => ?_, fun i o1 j c1 hi hj => ?_⟩, h1, h2, h3, by rw [e]; simp, fun j hj _ => hp j hj, fun i o1 j c1 hbi hi hj hlt => ?_, fun i hi => ?_, ⟨Nat.le_succ_of_le hok.bar, fun i o1 hi => ?_⟩⟩
  · simp [H.push] at hi; unfold upd; rw [if_neg (by omega)]
  · rw [H.get_push _ _ _ hn] at hi
    by_cases hin : i = h.next
    · subst hin
      rw [if_pos rfl] at hi; cases hi
      exact ⟨w.heap.size, c, by simp [upd], by rw [hlast]; exact ho⟩
    · rw [if_neg hin] at hi
      obtain ⟨j, c1, g1, g2⟩ := hex i o1 hi
      exact ⟨j, c1, hl _ _ g1, g2.mono hl⟩
  · rw [H.get_push _ _ _ hn] at hi hi'
    by_cases hin : i = h.next
    · by_cases hin' : i' = h.next
      · omega
      · subst hin
        rw [if_neg hin'] at hi'
        simp [upd] at hj
        simp only [upd, if_neg hin'] at hj'
        have := hr.lt _ _ _ _ hi' hj'
        omega
    · rw [if_neg hin] at hi
      simp only [upd, if_neg hin] at hj
      by_cases hin' : i' = h.next
      · subst hin'
        simp [upd] at hj'
        have := hr.lt _ _ _ _ hi hj
        omega
      · rw [if_neg hin'] at hi'
        simp only [upd, if_neg hin'] at hj'
        exact hr.inj _ _ _ _ _ _ _ hi hi' hj hj'
  · rw [H.get_push _ _ _ hn] at hi
    have es : w'.heap.size = w.heap.size + 1 := by rw [e]; simp
    by_cases hin : i = h.next
    · subst hin; simp [upd] at hj; omega
    · rw [if_neg hin] at hi
      simp only [upd, if_neg hin] at hj
      have := hr.lt _ _ _ _ hi hj
      omega
  · rw [H.get_push _ _ _ hn] at hi
    by_cases hin : i = h.next
    · subst hin; simp [upd] at hj; omega
    · rw [if_neg hin] at hi
      simp only [upd, if_neg hin] at hj
      exact ⟨i, o1, c1, hbi, hi, hj⟩
  · rw [H.get_push _ _ _ hn, if_neg (by have := hok.bar; omega)]
  · rw [H.get_push _ _ _ hn] at hi
    show i < h.next + 1
    by_cases hin : i = h.next
    · omega
    · rw [if_neg hin] at hi; have := hok.lt _ _ hi; omega
/-- A known block that may be written turns. -/
theorem Post.write {ρ : Rn} {h : H} {w w' : World} {i j : Nat} {c : Option Nat} {o0 o1 : Obj} (hok : h.Ok) (hr : RW ρ h.get w) (hi : h.get i = some o0) (hb : h.bar ≤ i) (hj : ρ i = some (j, c))
    (hs : w'.heap.size = w.heap.size) (hk : ∀ k, k ≠ j → w'.heap[k]? = w.heap[k]?) (h1 : w'.os = w.os) (h2 : w'.tape = w.tape) (h3 : w'.output = w.output) (ho : OR ρ c o1 w'.heap[j]?) :
    Post ρ h w ρ (h.put i (some o1)) w' := by
  have hlt : i < 65536 := by
    unfold H.get at hi
    split at hi
    · assumption
    · cases hi
  have hex : ∀ k o, (h.put i (some o1)).get k = some o → ∃ o', h.get k = some o' := fun k o hk => by
    rw [H.get_put _ _ _ _ hlt] at hk
    by_cases e : k = i
    · subst e; exact ⟨_, hi⟩
    · rw [if_neg e] at hk; exact ⟨_, hk⟩
  refine ⟨Nat.le_refl _, rfl, Le.refl _, fun _ _ => rfl, ⟨fun k o hk' => ?_, fun a a' o o' j c c' ha ha' hja hja' => ?_, fun k o j c hk' hkj => ?_⟩, h1, h2, h3, by omega, fun k hk' hne => ?_, fun k o j c hbk hk' hkj hlt' => ?_, fun k hk' => ?_, ⟨hok.bar, fun k o hk' => ?_⟩⟩
  · rw [H.get_put _ _ _ _ hlt] at hk'
    by_cases e : k = i
    · subst e; rw [if_pos rfl] at hk'; cases hk'
      exact ⟨j, c, hj, ho⟩
    · rw [if_neg e] at hk'
      obtain ⟨j', c', g1, g2⟩ := hr.obj _ _ hk'
      refine ⟨j', c', g1, ?_⟩
      rw [hk j' (fun e' => e (hr.inj _ _ _ _ _ _ _ hk' hi (e' ▸ g1) hj))]
      exact g2
  · obtain ⟨_, b1⟩ := hex _ _ ha
    obtain ⟨_, b2⟩ := hex _ _ ha'
    exact hr.inj _ _ _ _ _ _ _ b1 b2 hja hja'
  · obtain ⟨_, b1⟩ := hex _ _ hk'
    rw [hs]; exact hr.lt _ _ _ _ b1 hkj
  · exact hk k (fun e => hne i o0 c hb hi (e ▸ hj))
  · obtain ⟨o', b1⟩ := hex _ _ hk'
    exact ⟨k, o', c, hbk, b1, hkj⟩
  · rw [H.get_put _ _ _ _ hlt, if_neg (by have : h.bar = (h.put i (some o1)).bar := rfl; omega)]
  · obtain ⟨o', b1⟩ := hex _ _ hk'
    exact hok.lt _ _ b1
end Go.Proofs.YtkjhnemfebgcnaaGreatDoor.Ev

namespace Go.Proofs.YtkjhnemfebgcnaaGreatDoor.Ev
open Go Go.RowKit
inductive LR (ρ : Rn) : List Value → List Value → Prop
  | nil : LR ρ [] []
  | cons {x y l m} : VR ρ x y → LR ρ l m → LR ρ (x :: l) (y :: m)
variable {ρ : Rn}
theorem LR.len {l m : List Value} (h : LR ρ l m) : l.length = m.length := by induction h <;> simp_all
theorem LR.mono {ρ' : Rn} (hl : Le ρ ρ') {l m : List Value} (h : LR ρ l m) : LR ρ' l m := by
  induction h with
  | nil => exact .nil
  | cons h1 _ ih => exact .cons (h1.mono hl) ih
theorem LR.get {l m : List Value} (h : LR ρ l m) (k : Nat) (v : Value) (hk : l[k]? = some v) : ∃ v', m[k]? = some v' ∧ VR ρ v v' := by
  induction h generalizing k with
  | nil => simp at hk
  | cons h1 _ ih => cases k with
    | zero => simp at hk; subst hk; exact ⟨_, rfl, h1⟩
    | succ k => simpa using ih k (by simpa using hk)
theorem LR.of {l m : List Value} (hl : l.length = m.length) (h : ∀ k, k < l.length → VR ρ (l.getD k undef) (m.getD k undef)) : LR ρ l m := by
  induction l generalizing m with
  | nil => cases m with
    | nil => exact .nil
    | cons y m => simp at hl
  | cons x l ih => cases m with
    | nil => simp at hl
    | cons y m =>
      refine .cons (by simpa using h 0 (by simp)) (ih (by simpa using hl) fun k hk => ?_)
      simpa using h (k + 1) (by simpa using hk)
theorem LR.getD {l m : List Value} (h : LR ρ l m) (k : Nat) (hk : k < l.length) : VR ρ (l.getD k undef) (m.getD k undef) := by
  obtain ⟨v', h1, h2⟩ := h.get k l[k] (by simp [hk])
  simp only [List.getD_eq_getElem?_getD, h1, List.getElem?_eq_getElem hk, Option.getD_some]
  exact h2
theorem arr_getD (a : Array Value) (k : Nat) : a.getD k undef = a.toList.getD k undef := by
  by_cases h : k < a.size
  · simp [Array.getD, h, List.getD]
  · simp [Array.getD, h, List.getD]
theorem AR.lr {a a' : Array Value} (h : AR ρ a a') : LR ρ a.toList a'.toList :=
  LR.of (by simpa using h.1) (fun k hk => by rw [← arr_getD, ← arr_getD]; exact h.2 k (by simpa using hk))
theorem LR.ar {a a' : Array Value} (h : LR ρ a.toList a'.toList) : AR ρ a a' :=
  ⟨by simpa using h.len, fun k hk => by rw [arr_getD, arr_getD]; exact h.getD k (by simpa using hk)⟩
theorem LR.append {l m l' m' : List Value} (h : LR ρ l m) (k : LR ρ l' m') : LR ρ (l ++ l') (m ++ m') := by
  induction h with
  | nil => exact k
  | cons h1 _ ih => exact .cons h1 ih
theorem LR.take {l m : List Value} (h : LR ρ l m) (n : Nat) : LR ρ (l.take n) (m.take n) := by
  induction h generalizing n with
  | nil => simp; exact .nil
  | cons h1 _ ih => cases n with
    | zero => simp; exact .nil
    | succ n => exact .cons h1 (ih n)
theorem LR.drop {l m : List Value} (h : LR ρ l m) (n : Nat) : LR ρ (l.drop n) (m.drop n) := by
  induction h generalizing n with
  | nil => simp; exact .nil
  | cons h1 h2 ih => cases n with
    | zero => exact .cons h1 h2
    | succ n => exact ih n
theorem VR.oneCell {v v' : Value} (h : VR ρ v v') : v'.oneCell' = v.oneCell' := by cases h <;> rfl
theorem VR.cells {v v' : Value} (h : VR ρ v v') : LR ρ v.cells.toList v'.cells.toList := by
  cases h with
  | agg h1 h2 => exact AR.lr ⟨h1, h2⟩
  | bool b => exact .cons (.bool b) .nil
  | int k n => exact .cons (.int k n) .nil
  | float k n => exact .cons (.float k n) .nil
  | complex k n m => exact .cons (.complex k n m) .nil
  | string s => exact .cons (.string s) .nil
  | ptr0 => exact .cons .ptr0 .nil
  | ptr o h => exact .cons (.ptr o h) .nil
  | sl0 l c => exact .cons (.sl0 l c) .nil
  | sl o l c h => exact .cons (.sl o l c h) .nil
  | slL o l c c' h h1 h2 h3 => exact .cons (.slL o l c c' h h1 h2 h3) .nil
  | slE o o' c' h => exact .cons (.slE o o' c' h) .nil
  | map0 => exact .cons .map0 .nil
  | map h => exact .cons (.map h) .nil
  | func fn h0 h1 h2 h3 h4 => exact .cons (.func fn h0 h1 h2 h3 h4) .nil
  | yield h => exact .cons (.yield h) .nil
  | nilFunc => exact .cons .nilFunc .nil
  | iface t h => exact .cons (.iface t h) .nil
  | nilIface => exact .cons .nilIface .nil
  | tuple h1 h2 => exact .cons (.tuple h1 h2) .nil
/-- A writable row of cells: the known ones, and what may lie behind them. -/
theorem OR.row {c : Option Nat} {cs : Array Value} {t : TypeId} {fl : Nat × Nat} {x : Option Obj} (h : OR ρ c (.cells cs t fl) x) (hf : fl.1 ≠ 2) :
    ∃ l rest t', x = some (.cells (l ++ rest).toArray t' (0, 0)) ∧ LR ρ cs.toList l ∧ (fl.1 = 1 → c.isSome = true) ∧ (fl.1 ≠ 1 → c = none) ∧ ∀ kp, c = some kp → (l ++ rest).length = kp * fl.2 := by
  obtain ⟨h1, h2⟩ := h
  obtain ⟨_, cs', t', rfl, hs, h3, h4, h5⟩ := h2.resolve_left fun e => hf e.1
  refine ⟨cs'.toList.take cs.size, cs'.toList.drop cs.size, t', by simp, LR.of (by simp; omega) (fun k hk => ?_), h3, h4, fun kp hkp => by simpa using h5 kp hkp⟩
  simp at hk
  obtain ⟨v, g1, g2⟩ := h1 k hk
  simp only [rd] at g1
  rw [← arr_getD]
  have : (cs'.toList.take cs.size).getD k undef = v := by simp [List.getD, hk, g1]
  rw [this]; exact g2
theorem OR.mk {c : Option Nat} {cs : Array Value} {t t' : TypeId} {fl : Nat × Nat} {l rest : List Value} (h : LR ρ cs.toList l) (h3 : fl.1 = 1 → c.isSome = true) (h4 : fl.1 ≠ 1 → c = none)
    (h5 : ∀ kp, c = some kp → (l ++ rest).length = kp * fl.2) (hf : fl.1 ≠ 2) : OR ρ c (.cells cs t fl) (some (.cells (l ++ rest).toArray t' (0, 0))) := by
  refine ⟨fun k hk => ?_, .inr ⟨hf, _, t', rfl, ?_, h3, h4, fun kp hkp => by simpa using h5 kp hkp⟩⟩
  · obtain ⟨v', g1, g2⟩ := h.get k (cs.getD k undef) (by simp [Array.getD, hk])
    have hk' : k < l.length := by have := h.len; simp at this; omega
    exact ⟨v', by simp [rd, List.getElem?_append_left hk', g1], g2⟩
  · have := h.len; simp at this ⊢; omega
def aAgg (P : Program) (t : TypeId) : Option Bool := match P.underlying t with
  | some (.struct _) | some (.array _ _) => some true
  | some _ => some false
  | none => none
def aSize (P : Program) (t : TypeId) : Option Nat := (P.info? t).map (·.size)
variable {P : Program}
theorem run_isAgg {t : TypeId} {b : Bool} (h : aAgg P t = some b) (w : World) : (isAgg t).run P w = .ok b w := by
  unfold aAgg at h
  cases hu : P.underlying t with
  | none => rw [hu] at h; cases h
  | some d =>
    rw [hu] at h
    unfold isAgg
    rw [Sem.run_bind, run_underlying hu w]
    cases d <;> simp_all
theorem run_size {t : TypeId} {n : Nat} (h : aSize P t = some n) (w : World) : (sizeOf t).run P w = .ok n w := by
  unfold aSize at h
  cases hi : P.info? t with
  | none => rw [hi] at h; cases h
  | some i => rw [hi] at h; cases h; simp [sizeOf, typeInfo, hi]
theorem add_eq (j o k : Nat) : (⟨j, o, none⟩ : Addr).add k = ⟨j, o + k, none⟩ := by unfold Addr.add; split <;> simp_all
/-- What is loaded. -/
def aLoad (P : Program) (h : H) (t : TypeId) : Value → Option Value
  | .pointer (some ⟨i, o, none⟩) => match h.get i with
    | some (.cells cs _ _) => match aAgg P t, aSize P t with
      | some true, some n => if o + n ≤ cs.size then some (.agg (cs.extract o (o + n))) else none
      | some false, _ => cs[o]?
      | _, _ => none
    | _ => none
  | _ => none
theorem cells_read {c : Option Nat} {cs : Array Value} {t : TypeId} {fl : Nat × Nat} {x : Option Obj} (h : OR ρ c (.cells cs t fl) x) (o n : Nat) (hn : o + n ≤ cs.size) :
    ∃ l : List Value, l.length = n ∧ (∀ k, k < n → rd x (o + k) = some (l.getD k undef)) ∧ LR ρ (cs.extract o (o + n)).toList l := by
  refine ⟨(List.range n).map fun k => (rd x (o + k)).getD undef, by simp, fun k hk => ?_, LR.of (by simp; omega) fun k hk => ?_⟩
  · obtain ⟨v, g1, _⟩ := h.1 (o + k) (by omega)
    simp [List.getD, hk, g1]
  · simp at hk
    obtain ⟨v, g1, g2⟩ := h.1 (o + k) (by omega)
    have e1 : (cs.extract o (o + n)).toList.getD k undef = cs.getD (o + k) undef := by
      rw [← arr_getD]; simp [Array.getD, show k < min (o + n) cs.size - o by omega, show o + k < cs.size by omega]
    have e2 : ((List.range n).map fun k => (rd x (o + k)).getD undef).getD k undef = v := by simp [List.getD, show k < n by omega, g1]
    rw [e1, e2]; exact g2
theorem aLoad_ok {h : H} {w : World} {t : TypeId} {v v' r : Value} (hr : RW ρ h.get w) (hv : VR ρ v v') (e : aLoad P h t v = some r) :
    ∃ r', (Instr.loadAt t v').run P w = .ok r' w ∧ VR ρ r r' := by
  unfold aLoad at e
  split at e
  · rename_i i o
    cases hv with
    | @ptr _ j c _ hj =>
      split at e
      · rename_i cs ty fl hg
        obtain ⟨j', c', hj', hO⟩ := hr.obj _ _ hg
        rw [hj] at hj'; cases hj'
        split at e
        · rename_i n ha hs
          split at e
          · rename_i hn
            cases e
            obtain ⟨l, hl1, hl2, hl3⟩ := cells_read hO o n hn
            refine ⟨.agg l.toArray, ?_, .agg (LR.ar (a' := l.toArray) hl3).1 fun k hk => ?_⟩
            · simp only [Instr.loadAt, Instr.sureAddr, loadVar, Sem.run_bind, Sem.run_pure, Result.andThen_ok, run_isAgg ha, if_true, run_size hs]
              rw [run_loadCells w _ n (fun k => l.getD k undef) (fun k hk => by rw [add_eq, cell_rd]; exact hl2 k hk)]
              have : (List.range n).map (fun k => l.getD k undef) = l := by
                apply List.ext_getElem?; intro k
                by_cases hk : k < n
                · simp [hk, List.getD, show k < l.length by omega]
                · simp [hk, show l.length ≤ k by omega]
              rw [this]; rfl
            · exact LR.ar (a' := l.toArray) hl3 |>.2 k hk
          · cases e
        · rename_i ha
          have ho : o < cs.size := by
            rcases Nat.lt_or_ge o cs.size with h' | h'
            · exact h'
            · rw [Array.getElem?_eq_none h'] at e; cases e
          obtain ⟨v1, g1, g2⟩ := hO.1 o ho
          have er : cs.getD o undef = r := by simp [Array.getD, ho]; simpa [ho] using e
          refine ⟨v1, ?_, er ▸ g2⟩
          have hc : w.cell? ⟨j, o, none⟩ = some v1 := by rw [cell_rd]; exact g1
          simp [Instr.loadAt, Instr.sureAddr, loadVar, run_isAgg ha, hc]
        · cases e
      · cases e
  · cases e
end Go.Proofs.YtkjhnemfebgcnaaGreatDoor.Ev

namespace Go.Proofs.YtkjhnemfebgcnaaGreatDoor.Ev
open Go Go.RowKit
variable {ρ : Rn} {P : Program}
def splice (cs : Array Value) (o : Nat) (vs : List Value) : Array Value := (cs.toList.take o ++ vs ++ cs.toList.drop (o + vs.length)).toArray
/-- A row of cells that is stored into a block that may be written. -/
theorem Post.splice {h : H} {w : World} {i j o : Nat} {c : Option Nat} {cs : Array Value} {ty : TypeId} {fl : Nat × Nat} {vs vs' : List Value} (hok : h.Ok) (hr : RW ρ h.get w) (hg : h.get i = some (.cells cs ty fl)) (hb : h.bar ≤ i)
    (hj : ρ i = some (j, c)) (hf : fl.1 ≠ 2) (hn : o + vs.length ≤ cs.size) (h1 : ∀ v ∈ vs, v.oneCell' = true) (hv : LR ρ vs vs') :
    ∃ w', (storeCells ⟨j, o, none⟩ vs').run P w = .ok () w' ∧ Post ρ h w ρ (h.put i (some (.cells (splice cs o vs) ty fl))) w' := by
  obtain ⟨j', c', hj', hO⟩ := hr.obj _ _ hg
  rw [hj] at hj'; cases hj'
  obtain ⟨l, rest, t', hx, hl, h3, h4, h5⟩ := hO.row hf
  have hlen := hl.len
  have hvl := hv.len
  simp at hlen
  have h1' : ∀ v ∈ vs', v.oneCell' = true := by
    clear hvl hn h5
    induction hv with
    | nil => intro v hv; simp at hv
    | cons hxy _ ih =>
      intro v hv
      rcases List.mem_cons.1 hv with rfl | hv
      · rw [hxy.oneCell]; exact h1 _ (by simp)
      · exact ih (fun v hv => h1 v (by simp [hv])) v hv
  have hrun := run_storeCells_at (P := P) j o t' vs' 0 (l ++ rest).toArray w hx (by simp; omega) h1'
  refine ⟨_, hrun, ?_⟩
  have hcur := setRow_heap w j (l ++ rest).toArray ((l ++ rest).toArray.toList.take (o + 0) ++ vs' ++ (l ++ rest).toArray.toList.drop (o + 0 + vs'.length)).toArray t' (0, 0) hx
  refine Post.write hok hr hg hb hj (by simp [World.setRow]) (fun k hk => setRow_other w j k _ hk) rfl rfl rfl ?_
  rw [hcur]
  have e : ((l ++ rest).toArray.toList.take (o + 0) ++ vs' ++ (l ++ rest).toArray.toList.drop (o + 0 + vs'.length)) = (l.take o ++ vs' ++ l.drop (o + vs'.length)) ++ rest := by
    simp only [Nat.add_zero, List.append_assoc]
    rw [List.take_append_of_le_length (by omega), List.drop_append_of_le_length (by omega)]
  rw [e]
  refine OR.mk (l := l.take o ++ vs' ++ l.drop (o + vs'.length)) ?_ h3 h4 (fun kp hkp => ?_) hf
  · simp only [Ev.splice]
    rw [← hvl]
    exact ((hl.take o).append hv).append (hl.drop _)
  · rw [← h5 kp hkp]; simp; omega
def aStore (P : Program) (h : H) (t : TypeId) : Value → Value → Option H
  | .pointer (some ⟨i, o, none⟩), v => match h.get i with
    | some (.cells cs ty fl) =>
      if h.bar ≤ i ∧ fl.1 ≠ 2 ∧ aSize P t = some v.cells.size ∧ o + v.cells.toList.length ≤ cs.size ∧ v.cells.toList.all (·.oneCell') = true then some (h.put i (some (.cells (splice cs o v.cells.toList) ty fl))) else none
    | _ => none
  | _, _ => none
theorem aStore_ok {h h' : H} {w : World} {t : TypeId} {a a' v v' : Value} (hok : h.Ok) (hr : RW ρ h.get w) (ha : VR ρ a a') (hv : VR ρ v v') (e : aStore P h t a v = some h') :
    ∃ w', (Instr.storeAt t a' v').run P w = .ok () w' ∧ Post ρ h w ρ h' w' := by
  unfold aStore at e
  split at e
  · rename_i i o v0
    cases ha with
    | @ptr _ j c _ hj =>
      split at e
      · rename_i cs ty fl hg
        split at e
        · rename_i hc
          obtain ⟨hb, hf, hs, hn, h1⟩ := hc
          cases e
          obtain ⟨w', g1, g2⟩ := Post.splice (P := P) hok hr hg hb hj hf hn (List.all_eq_true.1 h1) hv.cells
          refine ⟨w', ?_, g2⟩
          have hs' : v'.cells.size = v.cells.size := by have := hv.cells.len; simpa using this.symm
          simp [Instr.storeAt, Instr.sureAddr, storeVar, run_size hs, hs', g1]
        · cases e
      · cases e
  · cases e
/-- A new row of cells. -/
def aNew (h : H) (cs : Array Value) (t : TypeId) : Option (Nat × H) := if h.next < 65536 then some (h.next, h.push (.cells cs t (0, 0))) else none
theorem aNew_ok {h h' : H} {w : World} {cs cs' : Array Value} {t t' : TypeId} {i : Nat} (hok : h.Ok) (hr : RW ρ h.get w) (hf : ∀ i, h.next ≤ i → i < h'.next → ρ i = none) (e : aNew h cs t = some (i, h')) (hv : LR ρ cs.toList cs'.toList) :
    ∃ ρ', ρ' i = some (w.heap.size, none) ∧ Post ρ h w ρ' h' { w with heap := w.heap.push (.cells cs' t' (0, 0)) } := by
  unfold aNew at e
  split at e
  · rename_i hn
    cases e
    have hfr : ρ h.next = none := hf _ (Nat.le_refl _) (Nat.lt_succ_self _)
    refine ⟨upd ρ h.next (w.heap.size, none), by simp [upd], Post.alloc hok hr hn hfr rfl rfl rfl rfl ?_⟩
    have := OR.mk (ρ := upd ρ h.next (w.heap.size, none)) (c := none) (cs := cs) (t := t) (t' := t') (fl := (0, 0)) (l := cs'.toList) (rest := []) (hv.mono (upd_le _ hfr)) (fun x => by cases x) (fun _ => rfl) (fun kp x => by cases x) (by decide)
    simpa using this
  · cases e
end Go.Proofs.YtkjhnemfebgcnaaGreatDoor.Ev

namespace Go.Proofs.YtkjhnemfebgcnaaGreatDoor.Ev
open Go Go.RowKit
variable {ρ : Rn} {P : Program}
theorem LR.set {l m : List Value} (h : LR ρ l m) (k : Nat) {v v' : Value} (hv : VR ρ v v') : LR ρ (l.set k v) (m.set k v') := by
  induction h generalizing k with
  | nil => exact .nil
  | cons h1 h2 ih => cases k with
    | zero => exact .cons hv h2
    | succ k => exact .cons h1 (ih k)
theorem LR.fold {l m : List Value} (h : LR ρ l m) (off : Nat) : ∀ (k : Nat) (cs cs' : Array Value), LR ρ cs.toList cs'.toList →
    LR ρ ((l.zipIdx k).foldl (fun (cs : Array Value) (x : Value × Nat) => cs.setIfInBounds (off + x.2) x.1) cs).toList ((m.zipIdx k).foldl (fun (cs : Array Value) (x : Value × Nat) => cs.setIfInBounds (off + x.2) x.1) cs').toList := by
  induction h with
  | nil => intro k cs cs' hc; exact hc
  | cons h1 _ ih =>
    intro k cs cs' hc
    simp only [List.zipIdx_cons, List.foldl_cons]
    refine ih _ _ _ ?_
    simp only [Array.toList_setIfInBounds]
    exact hc.set _ h1
/-- Parts that are alike. -/
inductive PR (ρ : Rn) : List (Nat × Value) → List (Nat × Value) → Prop
  | nil : PR ρ [] []
  | cons {i v v' l l'} : VR ρ v v' → PR ρ l l' → PR ρ ((i, v) :: l) ((i, v') :: l')
theorem fill_ok {place : Nat → Option (Nat × Nat)} {ps ps' : List (Nat × Value)} (h : PR ρ ps ps') : ∀ {cs cs' r : Array Value}, LR ρ cs.toList cs'.toList → Instr.fill place cs ps = some r →
    ∃ r', Instr.fill place cs' ps' = some r' ∧ LR ρ r.toList r'.toList := by
  induction h with
  | nil => intro cs cs' r hc e; cases e; exact ⟨cs', rfl, hc⟩
  | @cons i v v' l l' hv _ ih =>
    intro cs cs' r hc e
    simp only [Instr.fill] at e ⊢
    cases hp : place i with
    | none => rw [hp] at e; cases e
    | some y =>
      obtain ⟨off, size⟩ := y
      rw [hp] at e
      have e1 : v'.cells.size = v.cells.size := by have := hv.cells.len; simpa using this.symm
      have e2 : cs'.size = cs.size := by have := hc.len; simpa using this.symm
      simp only [e1, e2] at e ⊢
      split at e
      · cases e
      · rename_i hne
        rw [if_neg hne]
        refine ih ?_ e
        have := hv.cells.fold off 0 cs cs' hc
        rw [← Array.foldl_toList, ← Array.foldl_toList, Array.toList_zipIdx, Array.toList_zipIdx]
        exact this
def aBuild (P : Program) (t : TypeId) (parts : List (Nat × Value)) : Option Value :=
  match (P.info? t).bind (·.zero) with
  | some z => if flat1 z = true then (P.built t parts).map .agg else none
  | none => none
theorem zero_LR {z : Value} (h : flat1 z = true) : LR ρ z.cells.toList z.cells.toList := (flat1_VR ρ h).cells
theorem aBuild_ok {w : World} {t : TypeId} {ps : List (Nat × Value)} {ps' : Array (Nat × Value)} {r : Value} (h : PR ρ ps ps'.toList) (e : aBuild P t ps = some r) :
    ∃ r', (Instr.build t ps').run P w = .ok r' w ∧ VR ρ r r' := by
  unfold aBuild at e
  cases hz : (P.info? t).bind (·.zero) with
  | none => rw [hz] at e; cases e
  | some z =>
    rw [hz] at e
    simp only at e
    split at e
    · rename_i hf
      cases hb : P.built t ps with
      | none => rw [hb] at e; cases e
      | some cells =>
        rw [hb] at e; cases e
        have key : ∃ r', P.built t ps'.toList = some r' ∧ LR ρ cells.toList r'.toList := by
          unfold Program.built at hb ⊢
          cases hi : P.info? t with
          | none => rw [hi] at hz; cases hz
          | some it =>
            rw [hi] at hz hb
            simp only [Option.bind_some] at hz
            cases hu : P.underlying t with
            | none => rw [hu] at hb; cases hb
            | some d =>
              rw [hu] at hb
              cases d <;> simp only [hz] at hb ⊢ <;> try (cases hb; done)
              · rename_i n e'
                cases hie : P.info? e' with
                | none => rw [hie] at hb; cases hb
                | some ie => rw [hie] at hb; exact fill_ok h (zero_LR hf) hb
              · rename_i fields
                cases hp : fields.toList.mapM (fun f => (P.info? f.type).map fun i => (f.offset, i.size)) with
                | none => rw [hp] at hb; cases hb
                | some places => rw [hp] at hb; exact fill_ok h (zero_LR hf) hb
        obtain ⟨r', h1, h2⟩ := key
        exact ⟨.agg r', run_build w t ps' r' h1, .agg h2.ar.1 h2.ar.2⟩
    · cases e
def aPart (P : Program) (t : TypeId) (cs : Array Value) (off : Nat) : Option Value := match aAgg P t, aSize P t with
  | some true, some n => some (.agg (cs.extract off (off + n)))
  | some false, _ => cs[off]?
  | _, _ => none
theorem LR.extract {cs cs' : Array Value} (h : LR ρ cs.toList cs'.toList) (a b : Nat) : LR ρ (cs.extract a b).toList (cs'.extract a b).toList := by
  simp only [Array.toList_extract, List.extract_eq_take_drop]
  exact (h.drop _).take _
theorem aPart_ok {w : World} {t : TypeId} {cs cs' : Array Value} {off : Nat} {r : Value} (h : LR ρ cs.toList cs'.toList) (e : aPart P t cs off = some r) :
    ∃ r', (part t cs' off).run P w = .ok r' w ∧ VR ρ r r' := by
  unfold aPart at e
  split at e
  · rename_i n ha hs
    cases e
    have := (h.extract off (off + n)).ar
    exact ⟨.agg (cs'.extract off (off + n)), by simp [part, run_isAgg ha, run_size hs], .agg this.1 this.2⟩
  · rename_i ha
    obtain ⟨v', h1, h2⟩ := h.get off r (by simpa using e)
    refine ⟨v', ?_, h2⟩
    have h1' : cs'[off]? = some v' := by simpa using h1
    simp [part, run_isAgg ha, h1']
  · cases e
def aField (P : Program) (t : TypeId) (i : Nat) : Value → Option Value
  | .agg cs => match P.underlying t with
    | some (.struct fs) => match fs[i]? with
      | some f => aPart P f.type cs f.offset
      | none => none
    | _ => none
  | _ => none
theorem aField_ok {w : World} {t : TypeId} {i : Nat} {v v' r : Value} (h : VR ρ v v') (e : aField P t i v = some r) : ∃ r', (Instr.field t v' i).run P w = .ok r' w ∧ VR ρ r r' := by
  unfold aField at e
  split at e
  · rename_i cs
    cases h with
    | agg h1 h2 =>
      split at e
      · rename_i fs hu
        split at e
        · rename_i f hf
          obtain ⟨r', g1, g2⟩ := aPart_ok (w := w) (P := P) (AR.lr ⟨h1, h2⟩) e
          exact ⟨r', by simp [Instr.field, run_underlying hu, hf, asAgg, g1], g2⟩
        · cases e
      · cases e
  · cases e
def aIndex (P : Program) (t : TypeId) : Value → Value → Option Value
  | .agg cs, .int _ i => match P.underlying t with
    | some (.array len elem) => match aSize P elem with
      | some n => if 0 ≤ i ∧ i < len then aPart P elem cs (i.toNat * n) else none
      | none => none
    | _ => none
  | _, _ => none
theorem aIndex_ok {w : World} {t : TypeId} {v v' x x' r : Value} (h : VR ρ v v') (hx : VR ρ x x') (e : aIndex P t v x = some r) : ∃ r', (Instr.index t v' x').run P w = .ok r' w ∧ VR ρ r r' := by
  unfold aIndex at e
  split at e
  · rename_i cs k i
    cases hx
    cases h with
    | agg h1 h2 =>
      split at e
      · rename_i len elem hu
        split at e
        · rename_i n hs
          split at e
          · rename_i hi
            obtain ⟨r', g1, g2⟩ := aPart_ok (w := w) (P := P) (AR.lr ⟨h1, h2⟩) e
            exact ⟨r', by simp [Instr.index, asIntOf, run_underlying hu, hi, run_size hs, g1], g2⟩
          · cases e
        · cases e
      · cases e
  · cases e
def aExtract (i : Nat) : Value → Option Value
  | .tuple vs => vs[i]?
  | _ => none
theorem aExtract_ok {w : World} {i : Nat} {v v' r : Value} (h : VR ρ v v') (e : aExtract i v = some r) : ∃ r', (Instr.extract v' i).run P w = .ok r' w ∧ VR ρ r r' := by
  unfold aExtract at e
  split at e
  · cases h with
    | tuple h1 h2 =>
      obtain ⟨r', g1, g2⟩ := (AR.lr ⟨h1, h2⟩).get i r (by simpa using e)
      refine ⟨r', ?_, g2⟩
      have g1' := g1
      rw [Array.getElem?_toList] at g1'
      simp [Instr.extract, g1']
  · cases e
def aFieldAt (P : Program) (t : TypeId) (i : Nat) : Value → Option Value
  | .pointer (some ⟨b, o, none⟩) => match P.underlying t with
    | some (.struct fs) => match fs[i]? with
      | some f => match aSize P f.type with
        | some (_ + 1) => some (.pointer (some ⟨b, o + f.offset, none⟩))
        | _ => none
      | none => none
    | _ => none
  | _ => none
theorem aFieldAt_ok {w : World} {t : TypeId} {i : Nat} {v v' r : Value} (h : VR ρ v v') (e : aFieldAt P t i v = some r) : ∃ r', (Instr.fieldAt t v' i).run P w = .ok r' w ∧ VR ρ r r' := by
  unfold aFieldAt at e
  split at e
  · cases h with
    | ptr o hj =>
      split at e
      · rename_i fs hu
        split at e
        · rename_i f hf
          split at e
          · rename_i n hs
            cases e
            exact ⟨_, by simp [Instr.fieldAt, run_underlying hu, hf, Instr.sureAddr, fieldPlace, run_size hs, add_eq], .ptr _ hj⟩
          · cases e
        · cases e
      · cases e
  · cases e
def aIndexAt (P : Program) (t : TypeId) : Value → Value → Option Value
  | .pointer (some ⟨b, o, none⟩), .int _ i => match P.underlying t with
    | some (.array len elem) => match aSize P elem with
      | some n => if 0 ≤ i ∧ i < len then some (.pointer (some ⟨b, o + i.toNat * n, none⟩)) else none
      | none => none
    | _ => none
  | .slice (some ⟨b, o, none⟩) l _, .int _ i => match P.underlying t with
    | some (.slice elem) => match aSize P elem with
      | some n => if 0 ≤ i ∧ i < l then some (.pointer (some ⟨b, o + i.toNat * n, none⟩)) else none
      | none => none
    | _ => none
  | _, _ => none
theorem aIndexAt_ok {w : World} {t : TypeId} {v v' x x' r : Value} (h : VR ρ v v') (hx : VR ρ x x') (e : aIndexAt P t v x = some r) : ∃ r', (Instr.indexAt t v' x').run P w = .ok r' w ∧ VR ρ r r' := by
  unfold aIndexAt at e
  split at e
  · rename_i b o k i
    cases hx
    cases h with
    | ptr _ hj =>
      split at e
      · rename_i len elem hu
        split at e
        · rename_i n hs
          split at e
          · rename_i hi
            cases e
            exact ⟨_, by simp [Instr.indexAt, asIntOf, run_underlying hu, Instr.sureAddr, hi, run_size hs, add_eq], .ptr _ hj⟩
          · cases e
        · cases e
      · cases e
  · rename_i b o l c k i
    cases hx
    split at e
    · rename_i elem hu
      split at e
      · rename_i n hs
        split at e
        · rename_i hi
          cases e
          cases h with
          | sl _ _ _ hj => exact ⟨_, by simp [Instr.indexAt, asIntOf, run_underlying hu, hi, run_size hs, add_eq], .ptr _ hj⟩
          | slL _ _ _ c' hj => exact ⟨_, by simp [Instr.indexAt, asIntOf, run_underlying hu, hi, run_size hs, add_eq], .ptr _ hj⟩
          | slE _ o' c' hj => exfalso; simp at hi; omega
        · cases e
      · cases e
    · cases e
  · cases e
end Go.Proofs.YtkjhnemfebgcnaaGreatDoor.Ev
