/- Values that are slices of integers; two of them compared. -/
import Derived.Test.YtoaimgfekbnijaaDoorSame
import Derived.Laws.AppendOwn
import Derived.OwnWalk
import Derived.Laws.Rows
namespace Go.Proofs.YtoaimgfekbnijaaDoor
open Go Go.RowKit
theorem own_down {w : World} {base base' : Nat} {e : TypeId} {size : Nat} {v : Value} {n : Nat} {xs : List Value} (h : w.ownsRow base e size v n xs) (hb : base' ≤ base) : w.ownsRow base' e size v n xs := by
  refine ⟨h.1, ?_⟩
  rcases h.2 with h0 | ⟨g, cap, cur, hv, hg, r⟩
  · exact .inl h0
  · exact .inr ⟨g, cap, cur, hv, Nat.le_trans hb hg, r⟩
/-- A value that is a slice of these integers, in a row of its own from the base on; nil just where there is none. -/
structure IntsAt (w : World) (base : Nat) (v : Value) (l : List Int) : Prop where
  own : w.ownsRow base 3 1 v l.length (l.map (Value.int .i64))
  nil : v = .slice none 0 0 ↔ l = []
theorem own_below {w w' : World} {base : Nat} {e : TypeId} {size : Nat} {v : Value} {n : Nat} {xs : List Value} (h : w.ownsRow base e size v n xs) (hb : Below w.heap.size w w') : w'.ownsRow base e size v n xs :=
  h.kept (show w.grownBy w' none from ⟨hb.os, hb.tape, hb.output, hb.size, fun i hi _ => hb.block i hi⟩) (by cases h : v.ownBlock with
    | none => exact .inl rfl
    | some k => exact .inr (by simp))
theorem IntsAt.below {w w' : World} {base : Nat} {v : Value} {l : List Int} (h : IntsAt w base v l) (hb : Below w.heap.size w w') : IntsAt w' base v l := ⟨own_below h.own hb, h.nil⟩
theorem IntsAt.down {w : World} {base base' : Nat} {v : Value} {l : List Int} (h : IntsAt w base v l) (hb : base' ≤ base) : IntsAt w base' v l := ⟨own_down h.own hb, h.nil⟩
theorem own_blk {w : World} {base : Nat} {e : TypeId} {size : Nat} {v : Value} {n : Nat} {xs : List Value} (h : w.ownsRow base e size v n xs) : ∀ k, v.ownBlock = some k → base ≤ k := by
  intro k hk
  rcases h.2 with ⟨hv, _⟩ | ⟨g, cap, cur, hv, hb, _⟩
  · subst hv; simp [Value.ownBlock] at hk
  · subst hv; simp only [Value.ownBlock, Option.some.injEq] at hk; omega
/-- A list that has grown by one. -/
theorem IntsAt.grew {w : World} {base : Nat} {v : Value} {l l' : List Int} {x : Int} (h : w.ownsRow base 3 1 v (l.length + 1) (l.map (Value.int .i64) ++ [.int .i64 x])) (hl : l' = l ++ [x]) : IntsAt w base v l' := by
  subst hl
  refine ⟨by simpa using h, ?_⟩
  obtain ⟨g, cap, rfl⟩ := ownsRow_succ h
  simp
theorem SameInts_nil (w : World) : Calls Tryd.prog 31 #[.slice none 0 0, .slice none 0 0] w fun r w' => r = .returned (.bool true) ∧ ∃ n, w' = w.drewN n := by
  go_enter Tryd.func31, Tryd.ntmps31
  go_wp2
  go_loopw [5] (fun i wr => i = .int .i64 0 ∧ wr = w) (fun _ _ => 0)
  case atStart => exact ⟨rfl, rfl⟩
  case round =>
    obtain ⟨rfl, rfl⟩ := hrel
    go_wp2
    go_ret
    exact ⟨rfl, 0, rfl⟩
theorem SameInts_same (l : List Int) (b1 b2 : Nat) (v1 v2 : Value) (w : World) (h1 : IntsAt w b1 v1 l) (h2 : IntsAt w b2 v2 l) (hl : l.length ≤ 100000) :
    Calls Tryd.prog 31 #[v1, v2] w fun r w' => r = .returned (.bool true) ∧ ∃ n, w' = w.drewN n := by
  cases l with
  | nil => rw [h1.nil.2 rfl, h2.nil.2 rfl]; exact SameInts_nil w
  | cons x r =>
    obtain ⟨g1, c1, rfl⟩ := ownsRow_succ h1.own
    obtain ⟨g2, c2, rfl⟩ := ownsRow_succ h2.own
    have at1 : ∀ (g c : Nat), w.ownsRow b1 3 1 (.slice (some ⟨g, 0, none⟩) (r.length + 1) c) (r.length + 1) ((x :: r).map (Value.int .i64)) → IntAt w g 0 (x :: r) := fun g c h i hi => by
      have := h.cellAt i (by simpa using hi)
      rw [Nat.zero_add, this]
      rw [List.getElem?_map, List.getElem?_eq_getElem hi, List.getD_eq_getElem?_getD, List.getElem?_eq_getElem hi]
      rfl
    have at2 : ∀ (g c : Nat), w.ownsRow b2 3 1 (.slice (some ⟨g, 0, none⟩) (r.length + 1) c) (r.length + 1) ((x :: r).map (Value.int .i64)) → IntAt w g 0 (x :: r) := fun g c h i hi => by
      have := h.cellAt i (by simpa using hi)
      rw [Nat.zero_add, this]
      rw [List.getElem?_map, List.getElem?_eq_getElem hi, List.getD_eq_getElem?_getD, List.getElem?_eq_getElem hi]
      rfl
    have := SameInts_some (x :: r) (x :: r) g1 0 c1 g2 0 c2 w (at1 g1 c1 h1.own) (at2 g2 c2 h2.own) (by omega) (by omega)
    rw [decide_eq_true rfl] at this
    exact this

end Go.Proofs.YtoaimgfekbnijaaDoor
