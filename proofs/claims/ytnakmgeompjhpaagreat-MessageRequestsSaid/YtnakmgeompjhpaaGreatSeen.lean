
/- What check.Once gives: a function that remembers the strings that it was called with. -/
import Derived.Test.YtnakmgeompjhpaaGreatHeap
import Derived.Maps.Own
import Derived.Maps.Views
import Derived.Maps.OwnSet
import Derived.StringKeys
import Derived.OpenShut
import Derived.OwnWalk
import Derived.WalkKit
namespace Go.Proofs.YtnakmgeompjhpaaGreat
open Go Go.RowKit Go.ChangeMaps Go.MapKept
open Go.Maps (Keyed)
theorem keyStr : Keyed Tryz.prog 9 := Go.Maps.string_keyed Tryz.underlying9
theorem zero4 (w : World) : (zeroValue 4).run Tryz.prog w = .ok (.bool false) w := by kernel_rfl
/-- Block b is a map of at most n entries that has true at the strings of S, and false at all others. -/
def SeenM (w : World) (b n : Nat) (S : ByteArray → Bool) : Prop :=
  ∃ D : DataW Unit, w.ownsMap Tryz.prog 9 (plainElem Tryz.prog 4) b n D ∧ ∀ s : ByteArray, D.atKey (.string s.data.toList) (.lit (.bool false)) = .lit (.bool (S s))
theorem SeenM.made (w : World) : SeenM (w.alloc (.map #[] 0)) w.heap.size 0 (fun _ => false) :=
  ⟨.map [], World.ownsMap_made w _ _ _, fun _ => rfl⟩
theorem SeenM.grown {w w' : World} {b n : Nat} {S : ByteArray → Bool} {r : Option Nat} (h : SeenM w b n S) (hg : w.grownBy w' r) (hne : some b ≠ r) : SeenM w' b n S := by
  obtain ⟨D, hown, hat⟩ := h
  exact ⟨D, hown.kept hg hne, hat⟩
theorem grown_below {w w' : World} (hb : Below w.heap.size w w') : w.grownBy w' none := ⟨hb.os, hb.tape, hb.output, hb.size, fun i hi _ => hb.block i hi⟩
theorem SeenM.below {w w' : World} {b n : Nat} {S : ByteArray → Bool} (h : SeenM w b n S) (hb : Below w.heap.size w w') : SeenM w' b n S := h.grown (grown_below hb) (by simp)
theorem str_inj {s z : ByteArray} (h : s.data.toList = z.data.toList) : s = z := ByteArray.ext (Array.toList_inj.1 h)
theorem SeenM.look {w : World} {b n : Nat} {S : ByteArray → Bool} (h : SeenM w b n S) {s : ByteArray} (hs : s.size ≤ maxLen) :
    (Instr.lookup 183 (.map (some b)) (.string s) false).run Tryz.prog w = .ok (.bool (S s)) w := by
  obtain ⟨D, hown, hat⟩ := h
  obtain ⟨v, ps, hrun, hv⟩ := hown.lookup keyStr Tryz.underlying183 (zero4 _) (plainElem_bool Tryz.underlying4 false) (key := .string s) (Go.WideMaps.keyOf_string_mk Tryz.underlying9 hs)
  rw [hat s] at hv
  have hvb : v = .bool (S s) := by
    unfold plainElem at hv
    split at hv
    · simp only [Option.some.injEq, Prod.mk.injEq, DataW.lit.injEq, Lit.bool.injEq] at hv; rw [hv.1]
    all_goals first
      | (rename_i hu; rw [Tryz.underlying4] at hu; cases hu; done)
      | (cases hv; done)
  rw [← hvb]
  exact hrun
theorem SeenM.put {w' : World} {b n : Nat} {S : ByteArray → Bool} {D : DataW Unit} {s : ByteArray} (hat : ∀ s : ByteArray, D.atKey (.string s.data.toList) (.lit (.bool false)) = .lit (.bool (S s))) (hm : Go.Maps.IsMap D)
    (h : w'.ownsMap Tryz.prog 9 (plainElem Tryz.prog 4) b n (D.put (.string s.data.toList) (.lit (.bool true)))) : SeenM w' b n (fun z => if z = s then true else S z) := by
  refine ⟨_, h, fun z => ?_⟩
  by_cases e : z = s
  · subst e
    show _ = DataW.lit (.bool (if z = z then true else S z))
    rw [if_pos rfl]
    exact Go.Maps.atKey_put_same hm (by simp [WideAt.IsKeyLit]) _ _
  · show _ = DataW.lit (.bool (if z = s then true else S z))
    rw [if_neg e, Go.Maps.atKey_put_other (fun h => e (by injection h with h; exact str_inj h))]
    exact hat z
set_option maxRecDepth 100000 in
theorem once_any (c m n : Nat) (S : ByteArray → Bool) (s : ByteArray) (w : World) (hc : w.cell? ⟨c, 0, none⟩ = some (.map (some m))) (hS : SeenM w m n S) (hs : s.size ≤ maxLen) (hn : n < 1000) :
    Calls Tryz.prog 150 #[.string s, .pointer (some ⟨c, 0, none⟩)] w fun e w' => e = .returned (.int .i64 (unl (!(S s)) 9)) ∧ SeenM w' m (n + 1) (fun z => if z = s then true else S z) ∧ w.grownBy w' (some m) := by
  have hl := hS.look hs
  go_enter Tryz.func150, Tryz.ntmps150
  go_wp2_with fail
  refine (unless_any _ _ _).mono ?_
  rintro e w1 ⟨rfl, rfl⟩
  obtain ⟨D, hown, hat⟩ := hS
  have hmap := hown.isMap
  clear hl
  go_wp2_with (first
    | (at_mapUpdate; refine wpList_mapUpdate_own _ rfl _ _ _ 183 rfl 9 4 keyStr Tryz.underlying183 _ m n _ rfl hown (by unfold maxLen; omega) _ _ _ rfl rfl (Go.WideMaps.keyOf_string_mk Tryz.underlying9 hs) _ [] (plainElem_bool Tryz.underlying4 true) ?_)
    | fail)
  intro w2 hown2 hgrow2
  go_wp2_with fail
  go_ret
  exact ⟨rfl, SeenM.put hat hmap hown2, hgrow2⟩
/-- check.Once: a variable that holds a new map. -/
theorem Once_new (w : World) : Calls Tryz.prog 124 #[] w fun e w' => e = .returned (.func (.func 150) #[] #[.pointer (some ⟨w.heap.size + 1, 0, none⟩)]) ∧ SeenM w' w.heap.size 0 (fun _ => false) ∧ w'.cell? ⟨w.heap.size + 1, 0, none⟩ = some (.map (some w.heap.size)) ∧ Below w.heap.size w w' ∧ w'.heap.size = w.heap.size + 2 := by
  have hmm := @run_makeMap Tryz.prog
  go_enter Tryz.func124, Tryz.ntmps124
  go_wp2
  have e1 : (w.alloc (.map #[] 0)).heap.size = w.heap.size + 1 := by simp
  have hb2 := below_alloc2 w (.map #[] 0) (.cells #[.map (some w.heap.size)] 183)
  have hc := cell_fresh (w.alloc (.map #[] 0)) [.map (some w.heap.size)] 183 0 (.map (some w.heap.size)) rfl
  rw [e1] at hc
  go_ret
  exact ⟨rfl, (SeenM.made w).below (below_alloc _ _), hc, hb2, by simp⟩
/-- A string that is looked at: the error of a second one, and the strings so far. -/
def onceStep (S : ByteArray → Bool) (s : ByteArray) : ByteArray → Bool := fun z => if z = s then true else S z
/-- The first error of strings that are looked at, one after another. -/
def onceErr : List ByteArray → (ByteArray → Bool) → Int
  | [], _ => 0
  | s :: ss, S => if unl (!(S s)) 9 = 0 then onceErr ss (onceStep S s) else unl (!(S s)) 9
end Go.Proofs.YtnakmgeompjhpaaGreat
