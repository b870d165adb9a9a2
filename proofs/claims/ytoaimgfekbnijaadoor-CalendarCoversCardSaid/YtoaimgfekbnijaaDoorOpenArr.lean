/- Arguments that are short rows of integers, opened and shut. -/
import Derived.Test.YtoaimgfekbnijaaDoorLaid
import Derived.OpenShut
import Derived.Laws.IdiomArrays
import Derived.WideShapes
namespace Go.Proofs.YtoaimgfekbnijaaDoor
open Go Go.RowKit Go.ChangeShapes Go.WideShapes Go.ChangeAt
section
variable {H : Type} {enc : TypeId × Value → H} {w : World} {base : Nat} {sp : Nat → Bool} {held : Bool}
theorem okWide_array {t e : TypeId} {n : Nat} {P : Program} (ht : P.underlying t = some (.array n e)) {r : Reach} {b0 : Nat} {v : Value} (h : Value.okWide P w r b0 t v) : ∃ xs : Array Value, v = .agg xs ∧ xs.size = P.cellsOf t := by
  simp only [Value.okWide, ht] at h
  obtain ⟨cs, h1, h2, _⟩ := h
  exact ⟨cs, h1, h2⟩
theorem list3 {α : Type} (l : List α) (h : l.length = 3) : ∃ a b c, l = [a, b, c] := by
  match l, h with
  | [a, b, c], _ => exact ⟨a, b, c, rfl⟩
theorem list2 {α : Type} (l : List α) (h : l.length = 2) : ∃ a b, l = [a, b] := by
  match l, h with
  | [a, b], _ => exact ⟨a, b, rfl⟩
theorem cellsA3 : Tryd.prog.cellsOf 45 = 3 := by kernel_rfl
set_option maxRecDepth 100000 in
theorem open_arr3 {r : Reach} {b0 : Nat} {v : Value} {d : DataW H} {ps : List MemPlace} (hval : Value.okWide Tryd.prog w r b0 45 v) (hd : DataW.Trod enc Tryd.prog w base sp held 45 v d ps) :
    ∃ (a b c : Int), v = .agg #[.int .i64 a, .int .i64 b, .int .i64 c] ∧ d = .agg [.lit (.int .i64 a), .lit (.int .i64 b), .lit (.int .i64 c)] ∧ ps = [] ∧ (Lit.int .i64 a).wf = true ∧ (Lit.int .i64 b).wf = true ∧ (Lit.int .i64 c).wf = true := by
  obtain ⟨cs, rfl, hl⟩ := okWide_array Tryd.underlying45 hval
  obtain ⟨fuel, hf⟩ := hd
  obtain ⟨l⟩ := cs
  obtain ⟨c0, c1, c2, rfl⟩ := list3 l (by rw [cellsA3] at hl; exact hl)
  obtain ⟨y0, y1, y2, n, hx, h0, h1, h2⟩ := trod_array3 Tryd.underlying45 cellsInt hf
  obtain ⟨a, e1, e2, ha⟩ := DataW.trod_int Tryd.underlying3 h0
  obtain ⟨b, e3, e4, hb⟩ := DataW.trod_int Tryd.underlying3 h1
  obtain ⟨c, e5, e6, hc⟩ := DataW.trod_int Tryd.underlying3 h2
  simp only [List.cons.injEq, and_true] at e1 e3 e5
  subst e1 e3 e5 e2 e4 e6
  simp only [Prod.mk.injEq, List.append_nil] at hx
  exact ⟨a, b, c, rfl, hx.1, hx.2, ha, hb, hc⟩
set_option maxRecDepth 100000 in
theorem shut_arr3 {a b c : Int} (ha : (Lit.int .i64 a).wf = true) (hb : (Lit.int .i64 b).wf = true) (hc : (Lit.int .i64 c).wf = true) :
    DataW.Trod enc Tryd.prog w base sp held 45 (.agg #[.int .i64 a, .int .i64 b, .int .i64 c]) (.agg [.lit (.int .i64 a), .lit (.int .i64 b), .lit (.int .i64 c)]) [] := by
  refine ⟨2, ?_⟩
  have h0 : ∀ x : Int, (Lit.int .i64 x).wf = true → DataW.trod enc Tryd.prog w base sp held 1 3 [Value.int .i64 x] = some (.lit (.int .i64 x), []) := fun x hx => trod_int_mk 0 Tryd.underlying3 hx
  have r3 : List.range 3 = [0, 1, 2] := rfl
  unfold DataW.trod
  simp [Tryd.underlying45, r3, cellsInt, cellsA3, Value.cells, h0 a ha, h0 b hb, h0 c hc]
theorem cellsA2 : Tryd.prog.cellsOf 55 = 2 := by kernel_rfl
theorem trod_array2 {P : Program} {t e : TypeId} {fuel : Nat} {c0 c1 : Value} {x : DataW H × List MemPlace} (ht : P.underlying t = some (.array 2 e)) (hce : P.cellsOf e = 1)
    (h : DataW.trod enc P w base sp held fuel t [c0, c1] = some x) :
    ∃ y0 y1 n, x = (.agg [y0.1, y1.1], y0.2 ++ y1.2) ∧ DataW.trod enc P w base sp held n e [c0] = some y0 ∧ DataW.trod enc P w base sp held n e [c1] = some y1 := by
  cases fuel with
  | zero => simp [DataW.trod] at h
  | succ n =>
    unfold DataW.trod at h
    rw [ht] at h
    have r2 : List.range 2 = [0, 1] := rfl
    simp [r2, hce] at h
    obtain ⟨_, h⟩ := h
    cases h0 : DataW.trod enc P w base sp held n e [c0] with
    | none => simp [h0] at h
    | some y0 =>
      cases h1 : DataW.trod enc P w base sp held n e [c1] with
      | none => simp [h0, h1] at h
      | some y1 =>
        simp [h0, h1] at h
        exact ⟨y0, y1, n, h.symm, h0, h1⟩
set_option maxRecDepth 100000 in
theorem open_arr2 {r : Reach} {b0 : Nat} {v : Value} {d : DataW H} {ps : List MemPlace} (hval : Value.okWide Tryd.prog w r b0 55 v) (hd : DataW.Trod enc Tryd.prog w base sp held 55 v d ps) :
    ∃ (a b : Int), v = .agg #[.int .i64 a, .int .i64 b] ∧ d = .agg [.lit (.int .i64 a), .lit (.int .i64 b)] ∧ ps = [] ∧ (Lit.int .i64 a).wf = true ∧ (Lit.int .i64 b).wf = true := by
  obtain ⟨cs, rfl, hl⟩ := okWide_array Tryd.underlying55 hval
  obtain ⟨fuel, hf⟩ := hd
  obtain ⟨l⟩ := cs
  obtain ⟨c0, c1, rfl⟩ := list2 l (by rw [cellsA2] at hl; exact hl)
  obtain ⟨y0, y1, n, hx, h0, h1⟩ := trod_array2 Tryd.underlying55 cellsInt hf
  obtain ⟨a, e1, e2, ha⟩ := DataW.trod_int Tryd.underlying3 h0
  obtain ⟨b, e3, e4, hb⟩ := DataW.trod_int Tryd.underlying3 h1
  simp only [List.cons.injEq, and_true] at e1 e3
  subst e1 e3 e2 e4
  simp only [Prod.mk.injEq, List.append_nil] at hx
  exact ⟨a, b, rfl, hx.1, hx.2, ha, hb⟩
set_option maxRecDepth 100000 in
theorem shut_arr2 {a b : Int} (ha : (Lit.int .i64 a).wf = true) (hb : (Lit.int .i64 b).wf = true) :
    DataW.Trod enc Tryd.prog w base sp held 55 (.agg #[.int .i64 a, .int .i64 b]) (.agg [.lit (.int .i64 a), .lit (.int .i64 b)]) [] := by
  refine ⟨2, ?_⟩
  have h0 : ∀ x : Int, (Lit.int .i64 x).wf = true → DataW.trod enc Tryd.prog w base sp held 1 3 [Value.int .i64 x] = some (.lit (.int .i64 x), []) := fun x hx => trod_int_mk 0 Tryd.underlying3 hx
  have r2 : List.range 2 = [0, 1] := rfl
  unfold DataW.trod
  simp [Tryd.underlying55, r2, cellsInt, cellsA2, Value.cells, h0 a ha, h0 b hb]
end
end Go.Proofs.YtoaimgfekbnijaaDoor
