
/-
  A region that draws its order and whose operations read, or call what makes memory of its own: one walk in the order of the text, in the class of the worlds that keep what the world at its beginning holds.
-/
import Derived.Test.YtnakmgeompjhpaaGreatHeap
import Derived.Test.YtnakmgeompjhpaaGreatTail
import Derived.Deep.Quiet
import Derived.BigQuiet
import Derived.WalkKit
namespace Go.Proofs.YtnakmgeompjhpaaGreat
open Go.RowKit
/-- A world that keeps all that w holds. -/
structure KeptW (w : World) where
  v : World
  below : Below w.heap.size w v
theorem KeptW.cell {w : World} (x : KeptW w) {a : Addr} {u : Value} (h : w.cell? a = some u) : x.v.cell? a = some u := b_old x.below h
theorem KeptW.calls {P : Program} {w : World} {x : KeptW w} {f : FuncId} {args : Array Value} {u : Value} (h : Calls P f args x.v fun e w' => e = .returned u ∧ Below x.v.heap.size x.v w') :
    Calls P f args x.v fun e w' => e = .returned u ∧ ∃ y : KeptW w, w' = y.v :=
  h.mono fun _ w' ⟨he, hb⟩ => ⟨he, ⟨w', b_then x.below hb⟩, rfl⟩
theorem KeptW.calls_same {P : Program} {w : World} {x : KeptW w} {f : FuncId} {args : Array Value} {u : Value} (h : Calls P f args x.v fun e w' => e = .returned u ∧ w' = x.v) :
    Calls P f args x.v fun e w' => e = .returned u ∧ ∃ y : KeptW w, w' = y.v :=
  h.mono fun _ _ ⟨he, hb⟩ => ⟨he, x, hb⟩
theorem region_kept {P : Program} {id : Nat} {Q : Exit → Act → World → Prop} {a : Act} {w : World} {l : List Oper} (hm : P.follows .mixedOrders = true) (hB : Region.lexB .any l.toArray = true)
    (h : wpQuiet P l.toArray (fun w' => ∃ x : KeptW w, w' = x.v) (fun a' => ∀ w', (∃ x : KeptW w, w' = x.v) → Q .normal a' w') l a) : (Code.region id l.toArray true).wp P Q a w :=
  wp_region_quiet (C := fun w' => ∃ x : KeptW w, w' = x.v) hm hB ⟨⟨_, below_drew w⟩, rfl⟩ (by simpa using h)
theorem tail_kept {P : Program} {id : Nat} {Q : Exit → Act → World → Prop} {a : Act} {w : World} {l : List Oper} (n : Nat) (hm : P.follows .mixedOrders = true) (hB : Region.lexTailB .any l.toArray n = true)
    (h : wpQuiet P l.toArray (fun w' => ∃ x : KeptW w, w' = x.v) (fun a' => ∀ w', (∃ x : KeptW w, w' = x.v) → wpList P l.toArray Q (l.drop n) a' w') (l.take n) a) : (Code.region id l.toArray true).wp P Q a w :=
  quiet_tail n hm hB ⟨⟨_, below_drew w⟩, rfl⟩ h
end Go.Proofs.YtnakmgeompjhpaaGreat
