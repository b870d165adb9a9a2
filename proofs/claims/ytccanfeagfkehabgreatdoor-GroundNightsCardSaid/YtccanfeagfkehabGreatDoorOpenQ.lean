
/- An argument that is a quota of package ground, opened. -/
import Derived.Test.YtccanfeagfkehabGreatDoorRows
import Derived.ProofKit
import Derived.ChangeSame
import Derived.OpenShut
import Derived.Deep.Strs
import Derived.WideShapes
import Derived.Lib.SmallJoins
namespace Go.Proofs.YtccanfeagfkehabGreatDoor
open Go Go.RowKit Go.ChangeShapes Go.WideShapes Go.ChangeAt Go.Deep
theorem cellsI : Tryz.prog.cellsOf 3 = 1 := by kernel_rfl
theorem cellsS : Tryz.prog.cellsOf 9 = 1 := by kernel_rfl
theorem cellsSe : Tryz.prog.cellsOf 25 = 2 := by kernel_rfl
theorem cellsNight : Tryz.prog.cellsOf 23 = 2 := by kernel_rfl
theorem cellsQuota : Tryz.prog.cellsOf 27 = 6 := by kernel_rfl
theorem six_of {α : Type} (l : List α) (h : l.length = 6) : ∃ a b c d e f, l = [a, b, c, d, e, f] := by
  match l, h with
  | [a, b, c, d, e, f], _ => exact ⟨a, b, c, d, e, f, rfl⟩
section
variable {H : Type} {enc : TypeId × Value → H} {w : World} {base : Nat} {sp : Nat → Bool} {held : Bool}
set_option maxRecDepth 100000 in
theorem open_quota {r : Reach} {b0 : Nat} {v : Value} {d : DataW H} {ps : List MemPlace} (hval : Value.okWide Tryz.prog w r b0 27 v) (hd : DataW.Trod enc Tryz.prog w base sp held 27 v d ps) :
    ∃ (f t y : Int) (s : ByteArray) (c p : Int), v = .agg #[.int .i64 f, .int .i64 t, .int .i64 y, .string s, .int .i64 c, .int .i64 p] ∧ ps = [] ∧ s.size ≤ maxLen := by
  obtain ⟨cs, rfl, _⟩ := okWide_struct Tryz.underlying27 hval
  obtain ⟨fuel, hf⟩ := hd
  obtain ⟨y0, y1, y2, y3, n, hx, hl, h0, h1, h2, h3⟩ := Go.Joins.trod_struct4 Tryz.underlying27 hf
  obtain ⟨l⟩ := cs
  have hl' : l.length = 6 := by rw [cellsQuota] at hl; exact hl
  obtain ⟨c0, c1, c2, c3, c4, c5, rfl⟩ := six_of l hl'
  have g0 : DataW.trod enc Tryz.prog w base sp held n 23 [c0, c1] = some y0 := by
    rw [show [c0, c1] = ([c0, c1, c2, c3, c4, c5].drop 0).take (Tryz.prog.cellsOf 23) from by rw [cellsNight]; rfl]; exact h0
  have g1 : DataW.trod enc Tryz.prog w base sp held n 25 [c2, c3] = some y1 := by
    rw [show [c2, c3] = ([c0, c1, c2, c3, c4, c5].drop 2).take (Tryz.prog.cellsOf 25) from by rw [cellsSe]; rfl]; exact h1
  obtain ⟨z0, z1, n2, hx2, _, k0, k1⟩ := trod_struct2 Tryz.underlying23 g0
  obtain ⟨u0, u1, n3, hx3, _, k2, k3⟩ := trod_struct2 Tryz.underlying25 g1
  obtain ⟨f, e0, d0, _⟩ := DataW.trod_int Tryz.underlying3 (show DataW.trod _ Tryz.prog w base sp held n2 3 _ = some z0 from k0)
  obtain ⟨t, e1, d1, _⟩ := DataW.trod_int Tryz.underlying3 (show DataW.trod _ Tryz.prog w base sp held n2 3 _ = some z1 from k1)
  obtain ⟨y, e2, d2, _⟩ := DataW.trod_int Tryz.underlying3 (show DataW.trod _ Tryz.prog w base sp held n3 3 _ = some u0 from k2)
  obtain ⟨s, e3, d3, hs⟩ := DataW.trod_string Tryz.underlying9 (show DataW.trod _ Tryz.prog w base sp held n3 9 _ = some u1 from k3)
  obtain ⟨c, e4, d4, _⟩ := DataW.trod_int Tryz.underlying3 (show DataW.trod _ Tryz.prog w base sp held n 3 _ = some y2 from h2)
  obtain ⟨p, e5, d5, _⟩ := DataW.trod_int Tryz.underlying3 (show DataW.trod _ Tryz.prog w base sp held n 3 _ = some y3 from h3)
  have e0' : ([c0, c1].drop 0).take (Tryz.prog.cellsOf 3) = [.int .i64 f] := e0
  have e1' : ([c0, c1].drop 1).take (Tryz.prog.cellsOf 3) = [.int .i64 t] := e1
  have e2' : ([c2, c3].drop 0).take (Tryz.prog.cellsOf 3) = [.int .i64 y] := e2
  have e3' : ([c2, c3].drop 1).take (Tryz.prog.cellsOf 9) = [.string s] := e3
  have e4' : ([c0, c1, c2, c3, c4, c5].drop 4).take (Tryz.prog.cellsOf 3) = [.int .i64 c] := e4
  have e5' : ([c0, c1, c2, c3, c4, c5].drop 5).take (Tryz.prog.cellsOf 3) = [.int .i64 p] := e5
  rw [cellsI] at e0' e1' e2' e4' e5'
  rw [cellsS] at e3'
  simp only [List.drop_zero, List.take_succ_cons, List.take_zero, List.cons.injEq, and_true, List.drop_succ_cons] at e0' e1' e2' e3' e4' e5'
  subst e0' e1' e2' e3' e4' e5' d0 d1 d2 d3 d4 d5
  subst hx2 hx3
  simp only [Prod.mk.injEq, List.append_nil] at hx
  exact ⟨f, t, y, s, c, p, rfl, hx.2, hs⟩
end
end Go.Proofs.YtccanfeagfkehabGreatDoor
