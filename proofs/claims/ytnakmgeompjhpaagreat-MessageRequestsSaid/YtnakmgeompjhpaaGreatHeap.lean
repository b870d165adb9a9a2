
/- What a walk keeps: old cells, and the laid variables. -/
import Derived.Test.YtnakmgeompjhpaaGreatCal2
import Derived.Deep.DeepFit
namespace Go.Proofs.YtnakmgeompjhpaaGreat
open Go.RowKit
theorem cell_in {w : World} {a : Addr} {v : Value} (h : w.cell? a = some v) : a.block < w.heap.size := by
  unfold World.cell? at h
  rcases Nat.lt_or_ge a.block w.heap.size with h' | h'
  · exact h'
  · rw [Array.getElem?_eq_none h'] at h; simp at h
theorem b_old {w w' : World} (hb : Below w.heap.size w w') {a : Addr} {v : Value} (h : w.cell? a = some v) : w'.cell? a = some v := by
  rw [hb.cell (cell_in h)]; exact h
theorem below_alloc (w : World) (o : Obj) : Below w.heap.size w (w.alloc o) := (Below.refl _ w).alloc (Nat.le_refl _) o
theorem b_then {w w1 w2 : World} (h : Below w.heap.size w w1) (k : Below w1.heap.size w1 w2) : Below w.heap.size w w2 := h.trans (k.mono h.size)
theorem cell_fresh (w : World) (l : List Value) (T : TypeId) (i : Nat) (v : Value) (h : l[i]? = some v) : (w.alloc (.cells l.toArray T)).cell? ⟨w.heap.size, i, none⟩ = some v := by
  have e : (w.alloc (.cells l.toArray T)).heap[w.heap.size]? = some (.cells l.toArray T (0, 0)) := by show (w.heap.push _)[_]? = _; simp
  simp only [World.cell?, e]
  simp [h]
/-- firstError of a list that has just been made. -/
theorem fe_new (es : List Int) (b n c T : Nat) (w : World) (hb : b = w.heap.size) (hn : n = es.length) (hl : es.length ≤ 100) :
    Calls Tryz.prog 30 #[.slice (some ⟨b, 0, none⟩) n c] (w.alloc (.cells (es.map (Value.int .i64)).toArray T)) fun r w' => r = .returned (.int .i64 (fst es)) ∧ w' = w.alloc (.cells (es.map (Value.int .i64)).toArray T) := by
  subst hn hb
  exact firstError_any es _ c _ (fun i hi => cell_fresh _ _ _ _ _ (by simp [hi])) hl
theorem still_tail {P : Program} {id : Nat} {Q : Exit → Act → World → Prop} {a : Act} {w : World} {l : List Oper} (n : Nat) (hm : P.follows .mixedOrders = true) (hB : Region.lexTailB .any l.toArray n = true)
    (h : wpStill P l.toArray w.drew (fun a' => wpList P l.toArray Q (l.drop n) a' w.drew) (l.take n) a) : (Code.region id l.toArray true).wp P Q a w :=
  wp_region_still_tail n hm hB h
theorem b_frozen {w w' : World} (hb : Below w.heap.size w w') {a : Addr} {v : Value} (h : w.cell? a = some v) (f : w.frozen? a = false) : w'.frozen? a = false := by
  rw [hb.frozen (cell_in h)]; exact f
theorem below_drew (w : World) : Below w.heap.size w w.drew := (Below.refl _ w).drew
/-- A block N of n cells that the call may write; below N all is as in W. -/
structure Res (n N : Nat) (W w' : World) : Prop where
  cell : ∀ i, i < n → ∃ v, w'.cell? ⟨N, i, none⟩ = some v
  frozen : ∀ i, i < n → w'.frozen? ⟨N, i, none⟩ = false
  below : Below N W w'
theorem Res.drew {n N : Nat} {W w' : World} (h : Res n N W w') : Res n N W w'.drew := ⟨h.cell, h.frozen, h.below.drew⟩
theorem Res.more {n N : Nat} {W w' w2 : World} (h : Res n N W w') (hN : N ≤ w'.heap.size) (hb : Below w'.heap.size w' w2) : Res n N W w2 :=
  ⟨fun i hi => by obtain ⟨v, hv⟩ := h.cell i hi; exact ⟨v, b_old hb hv⟩, fun i hi => by obtain ⟨v, hv⟩ := h.cell i hi; exact b_frozen hb hv (h.frozen i hi), h.below.trans (hb.mono hN)⟩
theorem Res.set {n N : Nat} {W w' : World} (h : Res n N W w') (k : Nat) (v : Value) : Res n N W (w'.setCell ⟨N, k, none⟩ v) :=
  ⟨fun i hi => by
    obtain ⟨u, hu⟩ := h.cell i hi
    obtain ⟨x, hx⟩ := cell?_setCell_some (w := w') (p := ⟨N, k, none⟩) (x := v) (q := ⟨N, i, none⟩) (v := u) hu
    exact ⟨x, hx⟩, fun i hi => by rw [World.frozen?_setCell]; exact h.frozen i hi, h.below.setCell (p := ⟨N, k, none⟩) (Nat.le_refl _) v⟩
theorem Res.old {n N : Nat} {W w' : World} (h : Res n N W w') {b o : Nat} {v : Value} (hb : b < N) (hc : W.cell? ⟨b, o, none⟩ = some v) : w'.cell? ⟨b, o, none⟩ = some v := by
  rw [h.below.cell (p := ⟨b, o, none⟩) hb]; exact hc
theorem Res.pos {n N : Nat} {W w' : World} (h : Res n N W w') (hn : 0 < n) : N ≤ w'.heap.size := by
  obtain ⟨v, hv⟩ := h.cell 0 hn
  exact Nat.le_of_lt (cell_in hv)
theorem Res.up {n N : Nat} {W w' w2 : World} (h : Res n N W w') (hb : Below (N + 1) w' w2) : Res n N W w2 :=
  ⟨fun i hi => by obtain ⟨v, hv⟩ := h.cell i hi; exact ⟨v, by rw [hb.cell (p := ⟨N, i, none⟩) (Nat.lt_succ_self N)]; exact hv⟩, fun i hi => by rw [hb.frozen (p := ⟨N, i, none⟩) (Nat.lt_succ_self N)]; exact h.frozen i hi, h.below.trans (hb.mono (Nat.le_succ N))⟩
theorem below_alloc2 (w : World) (o o' : Obj) : Below w.heap.size w ((w.alloc o).alloc o') := (below_alloc w o).alloc (by simp) o'
theorem b_keep {B : Nat} {w w' : World} (hb : Below B w w') {b o : Nat} {v : Value} (h : b < B) (hc : w.cell? ⟨b, o, none⟩ = some v) : w'.cell? ⟨b, o, none⟩ = some v := by
  rw [hb.cell (p := ⟨b, o, none⟩) h]; exact hc
theorem set_other {w : World} {a b : Addr} {u v : Value} (h : w.cell? b = some v) (hne : a ≠ b) : (w.setCell a u).cell? b = some v := by
  rw [World.cell?_setCell_other _ _ _ _ hne]; exact h
theorem set_same {w : World} {a : Addr} {u v : Value} (h : w.cell? a = some v) : (w.setCell a u).cell? a = some u := World.cell?_setCell_same _ _ _ h
theorem set_size (w : World) (a : Addr) (u : Value) : (w.setCell a u).heap.size = w.heap.size := by simp [World.setCell]
end Go.Proofs.YtnakmgeompjhpaaGreat
