/- Maps from integers to integers that a call owns, as functions. -/
import Derived.Test.YtbpoljebkhccjaaDoorHeap
import Derived.Maps.Own
import Derived.Maps.Views
import Derived.Maps.OwnSet
import Derived.OpenShut
namespace Go.Proofs.YtbpoljebkhccjaaDoor
open Go Go.RowKit Go.ChangeMaps Go.MapKept
open Go.Maps (Keyed)
theorem keyInt : Keyed Tryd.prog 3 := Go.Maps.int_keyed Tryd.underlying3
theorem zero3 (w : World) : (zeroValue 3).run Tryd.prog w = .ok (.int .i64 0) w := by kernel_rfl
theorem wf_small {x : Int} (h1 : -1000000000 ≤ x) (h2 : x ≤ 1000000000) : (Lit.int .i64 x).wf = true := by
  have a : IntKind.min .i64 = -9223372036854775808 := by decide
  have b : IntKind.max .i64 = 9223372036854775807 := by decide
  simp only [Lit.wf, a, b, Bool.and_eq_true, decide_eq_true_eq]
  omega
/-- Block b is a map of at most n entries that has the value F x at each x. -/
def MapF (w : World) (b n : Nat) (F : Int → Int) : Prop :=
  ∃ D : DataW Unit, w.ownsMap Tryd.prog 3 (plainElem Tryd.prog 3) b n D ∧ ∀ x : Int, (Lit.int .i64 x).wf = true → D.atKey (.int .i64 x) (.lit (.int .i64 0)) = .lit (.int .i64 (F x))
theorem MapF.made (w : World) : MapF (w.alloc (.map #[] 0)) w.heap.size 0 (fun _ => 0) :=
  ⟨.map [], World.ownsMap_made w _ _ _, fun _ _ => rfl⟩
theorem MapF.below {w w' : World} {b n : Nat} {F : Int → Int} (h : MapF w b n F) (hb : Below w.heap.size w w') : MapF w' b n F := by
  obtain ⟨D, hown, hat⟩ := h
  exact ⟨D, hown.kept (show w.grownBy w' none from ⟨hb.os, hb.tape, hb.output, hb.size, fun i hi _ => hb.block i hi⟩) (by simp), hat⟩
theorem MapF.look {w : World} {b n : Nat} {F : Int → Int} (h : MapF w b n F) {x : Int} (hx : (Lit.int .i64 x).wf = true) :
    (Instr.lookup 101 (.map (some b)) (.int .i64 x) false).run Tryd.prog w = .ok (.int .i64 (F x)) w := by
  obtain ⟨D, hown, hat⟩ := h
  obtain ⟨c, hrun, h2, -⟩ := hown.lookup_int keyInt Tryd.underlying101 Tryd.underlying3 (zero3 _) (key := .int .i64 x) (Go.Maps.keyOf_int_mk Tryd.underlying3 hx)
  rw [hat x hx] at h2
  have e : F x = c := by
    simp only [DataW.lit.injEq, Lit.int.injEq, true_and] at h2
    exact h2
  rw [e]
  exact hrun
theorem MapF.put {w' : World} {b n : Nat} {F : Int → Int} {D : DataW Unit} {x v : Int} (hat : ∀ x : Int, (Lit.int .i64 x).wf = true → D.atKey (.int .i64 x) (.lit (.int .i64 0)) = .lit (.int .i64 (F x))) (hm : Go.Maps.IsMap D)
    (h : w'.ownsMap Tryd.prog 3 (plainElem Tryd.prog 3) b n (D.put (.int .i64 x) (.lit (.int .i64 v)))) : MapF w' b n (fun z => if z = x then v else F z) := by
  refine ⟨_, h, fun z hz => ?_⟩
  by_cases e : z = x
  · subst e
    show _ = DataW.lit (.int .i64 (if z = z then v else F z))
    rw [if_pos rfl]
    exact Go.Maps.atKey_put_same hm (by simp [WideAt.IsKeyLit]) _ _
  · show _ = DataW.lit (.int .i64 (if z = x then v else F z))
    rw [if_neg e, Go.Maps.atKey_put_other (fun h => e (by injection h))]
    exact hat z hz
end Go.Proofs.YtbpoljebkhccjaaDoor
