/- Rows of changes: what they hold; a zone of the reference that is being made. -/
import Derived.Test.YtoaimgfekbnijaaDoorUniv
namespace Go.Proofs.YtoaimgfekbnijaaDoor
open Go Go.RowKit
def flat2 (l : List (Int × Int)) : List Value := (l.map fun s => [Value.int .i64 s.1, Value.int .i64 s.2]).flatten
theorem infoQChg : (Tryd.prog.info? 116).map (fun i => (i.zero, i.size, i.bytes)) = some (some (.agg #[.int .i64 0, .int .i64 0]), 2, 16) := by kernel_rfl
theorem own_heap {w w' : World} {base : Nat} {e : TypeId} {size : Nat} {v : Value} {n : Nat} {xs : List Value} (h : w.ownsRow base e size v n xs) (he : w'.heap = w.heap) : w'.ownsRow base e size v n xs := by
  unfold World.ownsRow at *
  rw [he]; exact h
theorem news_heap {w w' : World} {a : Addr} {l : List Value} (h : ∀ (j : Nat) (u : Value), l[j]? = some u → w.cell? (a.add j) = some u) (he : w'.heap = w.heap) : ∀ (j : Nat) (u : Value), l[j]? = some u → w'.cell? (a.add j) = some u := fun j u hj => by
  have := h j u hj
  unfold World.cell? at *
  rw [he]; exact this
theorem flat2_at (l : List (Int × Int)) : ∀ (i : Nat), i < l.length → (flat2 l)[i * 2]? = some (.int .i64 (l.getD i (0, 0)).1) ∧ (flat2 l)[i * 2 + 1]? = some (.int .i64 (l.getD i (0, 0)).2) := by
  induction l with
  | nil => intro i h; simp at h
  | cons x r ih =>
    intro i h
    cases i with
    | zero => simp [flat2]
    | succ j =>
      have e : flat2 (x :: r) = [.int .i64 x.1, .int .i64 x.2] ++ flat2 r := by simp [flat2]
      obtain ⟨a, b⟩ := ih j (by simpa using h)
      rw [e, show (j + 1) * 2 = 2 + j * 2 from by omega]
      refine ⟨?_, ?_⟩
      · rw [List.getElem?_append_right (by simp)]; simpa using a
      · rw [List.getElem?_append_right (by simp; omega)]; simpa [show 2 + j * 2 + 1 - 2 = j * 2 + 1 from by omega] using b
theorem chAt_own {w : World} {base g cap n : Nat} {e : TypeId} {l : List (Int × Int)} (h : w.ownsRow base e 2 (.slice (some ⟨g, 0, none⟩) n cap) n (flat2 l)) (hl : l.length = n) : ChAt w g 0 l :=
  ⟨fun i hi => by rw [Nat.zero_add, h.cellAt _ (by omega)]; exact (flat2_at l i hi).1, fun i hi => by rw [Nat.zero_add, h.cellAt _ (by omega)]; exact (flat2_at l i hi).2⟩
structure ZC (w W : World) (o : Int) (v : Value) (c : Nat) (l : List (Int × Int)) (wr : World) : Prop where
  c0 : wr.cell? ⟨w.heap.size + 2, 0, none⟩ = some (.int .i64 o)
  c1 : wr.cell? ⟨w.heap.size + 2, 1, none⟩ = some v
  f1 : wr.frozen? ⟨w.heap.size + 2, 1, none⟩ = false
  own : wr.ownsRow (w.heap.size + 3) 116 2 v c (flat2 l)
  res : Res 2 (w.heap.size + 1) W wr
  hs : w.heap.size + 3 ≤ wr.heap.size
theorem ZC.step {w W wr w4 : World} {o : Int} {v v1 : Value} {c : Nat} {l : List (Int × Int)} {ob ob2 : Obj} {a b : Int} (h : ZC w W o v c l wr) (hg : ((wr.alloc ob).alloc ob2).grownBy w4 v.ownBlock) (ho : w4.ownsRow (w.heap.size + 3) 116 2 v1 (c + 1) (flat2 l ++ [.int .i64 a, .int .i64 b])) :
    ZC w W o v1 (c + 1) (l ++ [(a, b)]) (w4.setCell ⟨w.heap.size + 2, 1, none⟩ v1) ∧ w4.cell? ⟨w.heap.size + 2, 1, none⟩ = some v ∧ w4.frozen? ⟨w.heap.size + 2, 1, none⟩ = false := by
  have hb4 : Below (w.heap.size + 3) wr w4 := (((Below.refl _ _).alloc h.hs ob).alloc (by have := h.hs; simp; omega) ob2).grown hg (by have := h.hs; simp; omega) (own_block h.own)
  have q1 : w4.cell? ⟨w.heap.size + 2, 1, none⟩ = some v := b_keep hb4 (by omega) h.c1
  have q0 : w4.cell? ⟨w.heap.size + 2, 0, none⟩ = some (.int .i64 o) := b_keep hb4 (by omega) h.c0
  have p1 : w4.frozen? ⟨w.heap.size + 2, 1, none⟩ = false := by rw [hb4.frozen (p := ⟨w.heap.size + 2, 1, none⟩) (Nat.lt_succ_self _)]; exact h.f1
  refine ⟨⟨set_other q0 (by simp), set_same q1, by rw [World.frozen?_setCell]; exact p1, ?_, ?_, ?_⟩, q1, p1⟩
  · have e : flat2 (l ++ [(a, b)]) = flat2 l ++ [.int .i64 a, .int .i64 b] := by simp [flat2]
    rw [e]
    exact ownsRow_setCell_below (a := ⟨w.heap.size + 2, 1, none⟩) ho (Nat.lt_succ_self _) _
  · exact h.res.up ((hb4.mono (Nat.le_succ _)).setCell (p := ⟨w.heap.size + 2, 1, none⟩) (Nat.le_refl _) v1)
  · rw [set_size]; exact Nat.le_trans h.hs hb4.size
/-- Three blocks of two cells are made. -/
theorem three_new (w : World) (a0 a1 b0 b1 c0 c1 : Value) (T1 T2 T3 : TypeId) : ∃ W, Hid (((w.alloc (.cells #[a0, a1] T1)).alloc (.cells #[b0, b1] T2)).alloc (.cells #[c0, c1] T3) = W) ∧ Below w.heap.size w W ∧ Res 2 (w.heap.size + 1) W W ∧ W.cell? ⟨w.heap.size, 0, none⟩ = some a0 ∧ W.cell? ⟨w.heap.size, 1, none⟩ = some a1 ∧ W.cell? ⟨w.heap.size + 2, 0, none⟩ = some c0 ∧ W.cell? ⟨w.heap.size + 2, 1, none⟩ = some c1 ∧ W.frozen? ⟨w.heap.size + 2, 1, none⟩ = false ∧ w.heap.size + 3 ≤ W.heap.size := by
  refine ⟨_, Lib.hid rfl, ?_, ?_, ?_, ?_, ?_, ?_, ?_, ?_⟩
  · exact (below_alloc2 w _ _).alloc (by rw [World.size_alloc, World.size_alloc]; omega) _
  · have hb := below_alloc ((w.alloc (.cells #[a0, a1] T1)).alloc (.cells #[b0, b1] T2)) (.cells #[c0, c1] T3)
    have q0 : ((w.alloc (.cells #[a0, a1] T1)).alloc (.cells #[b0, b1] T2)).cell? ⟨w.heap.size + 1, 0, none⟩ = some b0 := by simp
    have q1 : ((w.alloc (.cells #[a0, a1] T1)).alloc (.cells #[b0, b1] T2)).cell? ⟨w.heap.size + 1, 1, none⟩ = some b1 := by simp
    have p0 : ((w.alloc (.cells #[a0, a1] T1)).alloc (.cells #[b0, b1] T2)).frozen? ⟨w.heap.size + 1, 0, none⟩ = false := by simp
    have p1 : ((w.alloc (.cells #[a0, a1] T1)).alloc (.cells #[b0, b1] T2)).frozen? ⟨w.heap.size + 1, 1, none⟩ = false := by simp
    exact ⟨fun i hi => by
      match i, hi with
      | 0, _ => exact ⟨b0, b_old hb q0⟩
      | 1, _ => exact ⟨b1, b_old hb q1⟩, fun i hi => by
      match i, hi with
      | 0, _ => exact b_frozen hb q0 p0
      | 1, _ => exact b_frozen hb q1 p1, Below.refl _ _⟩
  · exact b_old (below_alloc _ _) (show ((w.alloc (.cells #[a0, a1] T1)).alloc (.cells #[b0, b1] T2)).cell? ⟨w.heap.size, 0, none⟩ = some a0 by simp)
  · exact b_old (below_alloc _ _) (show ((w.alloc (.cells #[a0, a1] T1)).alloc (.cells #[b0, b1] T2)).cell? ⟨w.heap.size, 1, none⟩ = some a1 by simp)
  all_goals (have hsz : ((w.alloc (.cells #[a0, a1] T1)).alloc (.cells #[b0, b1] T2)).heap.size = w.heap.size + 2 := by rw [World.size_alloc, World.size_alloc])
  · have := cell_fresh ((w.alloc (.cells #[a0, a1] T1)).alloc (.cells #[b0, b1] T2)) [c0, c1] T3 0 c0 rfl
    rw [hsz] at this; exact this
  · have := cell_fresh ((w.alloc (.cells #[a0, a1] T1)).alloc (.cells #[b0, b1] T2)) [c0, c1] T3 1 c1 rfl
    rw [hsz] at this; exact this
  · have : (((w.alloc (.cells #[a0, a1] T1)).alloc (.cells #[b0, b1] T2)).alloc (.cells #[c0, c1] T3)).frozen? ⟨((w.alloc (.cells #[a0, a1] T1)).alloc (.cells #[b0, b1] T2)).heap.size, 1, none⟩ = false := by
      generalize (w.alloc (.cells #[a0, a1] T1)).alloc (.cells #[b0, b1] T2) = V
      simp
    rw [hsz] at this; exact this
  · rw [World.size_alloc, World.size_alloc, World.size_alloc]; omega
end Go.Proofs.YtoaimgfekbnijaaDoor
