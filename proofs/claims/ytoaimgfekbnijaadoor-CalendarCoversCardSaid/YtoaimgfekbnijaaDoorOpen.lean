/- Arguments that are structs or short rows of plain values, opened and shut. -/
import Derived.Test.YtoaimgfekbnijaaDoorLaid
import Derived.OpenShut
import Derived.Deep.Strs
import Derived.WideShapes
namespace Go.Proofs.YtoaimgfekbnijaaDoor
open Go Go.RowKit Go.ChangeShapes Go.WideShapes Go.ChangeAt Go.Deep
theorem cellsPer : Tryd.prog.cellsOf 23 = 3 := by kernel_rfl
theorem three_of {α : Type} (l : List α) (h : l.length = 3) : ∃ a b c, l = [a, b, c] := by
  match l, h with
  | [a, b, c], _ => exact ⟨a, b, c, rfl⟩
section
variable {H : Type} {enc : TypeId × Value → H} {w : World} {base : Nat} {sp : Nat → Bool} {held : Bool}
set_option maxRecDepth 100000 in
theorem open_season {r : Reach} {b0 : Nat} {v : Value} {d : DataW H} {ps : List MemPlace} (hval : Value.okWide Tryd.prog w r b0 61 v) (hd : DataW.Trod enc Tryd.prog w base sp held 61 v d ps) :
    ∃ (y : Int) (s : ByteArray), v = .agg #[.int .i64 y, .string s] ∧ d = .agg [.lit (.int .i64 y), .lit (.string s.data.toList)] ∧ ps = [] ∧ (Lit.int .i64 y).wf = true ∧ s.size ≤ maxLen := by
  obtain ⟨cs, rfl, _⟩ := okWide_struct Tryd.underlying61 hval
  obtain ⟨fuel, hf⟩ := hd
  obtain ⟨y0, y1, n, hx, hl, h0, h1⟩ := trod_struct2 Tryd.underlying61 hf
  obtain ⟨l⟩ := cs
  have hl' : l.length = 2 := by rw [cellsSea] at hl; exact hl
  obtain ⟨c0, c1, rfl⟩ := two_of l hl'
  obtain ⟨a, e1, e2, hw⟩ := DataW.trod_int Tryd.underlying3 (show DataW.trod _ Tryd.prog w base sp held n 3 _ = some y0 from h0)
  obtain ⟨s, e3, e4, hs⟩ := DataW.trod_string Tryd.underlying9 (show DataW.trod _ Tryd.prog w base sp held n 9 _ = some y1 from h1)
  have e1' : ([c0, c1].drop 0).take (Tryd.prog.cellsOf 3) = [.int .i64 a] := e1
  have e3' : ([c0, c1].drop 1).take (Tryd.prog.cellsOf 9) = [.string s] := e3
  rw [cellsInt] at e1'
  rw [cellsStr] at e3'
  simp only [List.drop_zero, List.take_succ_cons, List.take_zero, List.cons.injEq, and_true, List.drop_succ_cons] at e1' e3'
  subst e1' e3' e2 e4
  simp only [Prod.mk.injEq, List.append_nil] at hx
  exact ⟨a, s, rfl, hx.1, hx.2, hw, hs⟩
set_option maxRecDepth 100000 in
theorem shut_season {y : Int} {s : ByteArray} (hw : (Lit.int .i64 y).wf = true) (hs : s.size ≤ maxLen) :
    DataW.Trod enc Tryd.prog w base sp held 61 (.agg #[.int .i64 y, .string s]) (.agg [.lit (.int .i64 y), .lit (.string s.data.toList)]) [] := by
  refine ⟨2, ?_⟩
  have h0 : DataW.trod enc Tryd.prog w base sp held 1 3 (([Value.int .i64 y, .string s].drop 0).take (Tryd.prog.cellsOf 3)) = some (.lit (.int .i64 y), []) := by
    rw [cellsInt]; exact trod_int_mk 0 Tryd.underlying3 hw
  have h1 : DataW.trod enc Tryd.prog w base sp held 1 9 (([Value.int .i64 y, .string s].drop 1).take (Tryd.prog.cellsOf 9)) = some (.lit (.string s.data.toList), []) := by
    rw [cellsStr]; simp [DataW.trod, Tryd.underlying9, hs]
  have := trod_struct2_mk (enc := enc) (w := w) (base := base) (spare := sp) (held := held) (n := 1) (cs := [Value.int .i64 y, .string s]) (y0 := (.lit (.int .i64 y), [])) (y1 := (.lit (.string s.data.toList), [])) Tryd.underlying61 (by rw [cellsSea]; rfl) h0 h1
  exact this
set_option maxRecDepth 100000 in
theorem open_period {r : Reach} {b0 : Nat} {v : Value} {d : DataW H} {ps : List MemPlace} (hval : Value.okWide Tryd.prog w r b0 23 v) (hd : DataW.Trod enc Tryd.prog w base sp held 23 v d ps) :
    ∃ (a b c : Int), v = .agg #[.int .i64 a, .int .i64 b, .int .i64 c] ∧ d = .agg [.lit (.int .i64 a), .lit (.int .i64 b), .lit (.int .i64 c)] ∧ ps = [] ∧ (Lit.int .i64 a).wf = true ∧ (Lit.int .i64 b).wf = true ∧ (Lit.int .i64 c).wf = true := by
  obtain ⟨cs, rfl, _⟩ := okWide_struct Tryd.underlying23 hval
  obtain ⟨fuel, hf⟩ := hd
  obtain ⟨y0, y1, y2, n, hx, hl, h0, h1, h2⟩ := trod_struct3 Tryd.underlying23 hf
  obtain ⟨l⟩ := cs
  have hl' : l.length = 3 := by rw [cellsPer] at hl; exact hl
  obtain ⟨c0, c1, c2, rfl⟩ := three_of l hl'
  obtain ⟨a, e1, e2, ha⟩ := DataW.trod_int Tryd.underlying3 (show DataW.trod _ Tryd.prog w base sp held n 3 _ = some y0 from h0)
  obtain ⟨b, e3, e4, hb⟩ := DataW.trod_int Tryd.underlying3 (show DataW.trod _ Tryd.prog w base sp held n 3 _ = some y1 from h1)
  obtain ⟨c, e5, e6, hc⟩ := DataW.trod_int Tryd.underlying3 (show DataW.trod _ Tryd.prog w base sp held n 3 _ = some y2 from h2)
  have e1' : ([c0, c1, c2].drop 0).take (Tryd.prog.cellsOf 3) = [.int .i64 a] := e1
  have e3' : ([c0, c1, c2].drop 1).take (Tryd.prog.cellsOf 3) = [.int .i64 b] := e3
  have e5' : ([c0, c1, c2].drop 2).take (Tryd.prog.cellsOf 3) = [.int .i64 c] := e5
  rw [cellsInt] at e1' e3' e5'
  simp only [List.drop_zero, List.take_succ_cons, List.take_zero, List.cons.injEq, and_true, List.drop_succ_cons] at e1' e3' e5'
  subst e1' e3' e5' e2 e4 e6
  simp only [Prod.mk.injEq, List.append_nil] at hx
  exact ⟨a, b, c, rfl, hx.1, hx.2, ha, hb, hc⟩
set_option maxRecDepth 100000 in
theorem shut_period {a b c : Int} (ha : (Lit.int .i64 a).wf = true) (hb : (Lit.int .i64 b).wf = true) (hc : (Lit.int .i64 c).wf = true) :
    DataW.Trod enc Tryd.prog w base sp held 23 (.agg #[.int .i64 a, .int .i64 b, .int .i64 c]) (.agg [.lit (.int .i64 a), .lit (.int .i64 b), .lit (.int .i64 c)]) [] := by
  refine ⟨2, ?_⟩
  have h0 : DataW.trod enc Tryd.prog w base sp held 1 3 (([Value.int .i64 a, .int .i64 b, .int .i64 c].drop 0).take (Tryd.prog.cellsOf 3)) = some (.lit (.int .i64 a), []) := by
    rw [cellsInt]; exact trod_int_mk 0 Tryd.underlying3 ha
  have h1 : DataW.trod enc Tryd.prog w base sp held 1 3 (([Value.int .i64 a, .int .i64 b, .int .i64 c].drop 1).take (Tryd.prog.cellsOf 3)) = some (.lit (.int .i64 b), []) := by
    rw [cellsInt]; exact trod_int_mk 0 Tryd.underlying3 hb
  have h2 : DataW.trod enc Tryd.prog w base sp held 1 3 (([Value.int .i64 a, .int .i64 b, .int .i64 c].drop 2).take (Tryd.prog.cellsOf 3)) = some (.lit (.int .i64 c), []) := by
    rw [cellsInt]; exact trod_int_mk 0 Tryd.underlying3 hc
  have := trod_struct3_mk (enc := enc) (w := w) (base := base) (spare := sp) (held := held) (n := 1) (cs := [Value.int .i64 a, .int .i64 b, .int .i64 c]) (y0 := (.lit (.int .i64 a), [])) (y1 := (.lit (.int .i64 b), [])) (y2 := (.lit (.int .i64 c), [])) Tryd.underlying23 (by rw [cellsPer]; rfl) h0 h1 h2
  exact this
end
end Go.Proofs.YtoaimgfekbnijaaDoor
