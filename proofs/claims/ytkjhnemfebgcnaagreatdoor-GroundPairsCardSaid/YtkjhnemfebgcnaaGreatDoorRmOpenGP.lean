/- Arguments of GroundPairs, opened: a meeting, a stand, two turnarounds. -/
import Derived.Test.YtkjhnemfebgcnaaGreatDoorGc13
namespace Go.Proofs.YtkjhnemfebgcnaaGreatDoor
open Go Go.RowKit Go.ChangeShapes Go.WideShapes Go.ChangeAt Go.Deep Go.Joins
theorem cellsMeet : Tryz.prog.cellsOf 52 = 16 := by kernel_rfl
theorem cellsTwo : Tryz.prog.cellsOf 57 = 10 := by kernel_rfl
theorem list_of16 {α : Type} (l : List α) (h : l.length = 16) : ∃ c0 c1 c2 c3 c4 c5 c6 c7 c8 c9 c10 c11 c12 c13 c14 c15, l = [c0, c1, c2, c3, c4, c5, c6, c7, c8, c9, c10, c11, c12, c13, c14, c15] := by
  match l, h with
  | [c0, c1, c2, c3, c4, c5, c6, c7, c8, c9, c10, c11, c12, c13, c14, c15], _ => exact ⟨c0, c1, c2, c3, c4, c5, c6, c7, c8, c9, c10, c11, c12, c13, c14, c15, rfl⟩
theorem list_of10 {α : Type} (l : List α) (h : l.length = 10) : ∃ c0 c1 c2 c3 c4 c5 c6 c7 c8 c9, l = [c0, c1, c2, c3, c4, c5, c6, c7, c8, c9] := by
  match l, h with
  | [c0, c1, c2, c3, c4, c5, c6, c7, c8, c9], _ => exact ⟨c0, c1, c2, c3, c4, c5, c6, c7, c8, c9, rfl⟩
theorem okWide_array {t e : TypeId} {n : Nat} {P : Program} {w : World} (ht : P.underlying t = some (.array n e)) {r : Reach} {b0 : Nat} {v : Value} (h : Value.okWide P w r b0 t v) : ∃ xs : Array Value, v = .agg xs ∧ xs.size = P.cellsOf t := by
  simp only [Value.okWide, ht] at h
  obtain ⟨cs, h1, h2, _⟩ := h
  exact ⟨cs, h1, h2⟩
section
variable {H : Type} {enc : TypeId × Value → H} {w : World} {base : Nat} {sp : Nat → Bool} {held : Bool}
set_option maxRecDepth 100000 in
theorem open_meeting {r : Reach} {b0 : Nat} {v : Value} {d : DataW H} {ps : List MemPlace} (hval : Value.okWide Tryz.prog w r b0 52 v) (hd : DataW.Trod enc Tryz.prog w base sp held 52 v d ps) :
    ∃ (a e : MovV) (x y : Int), v = .agg #[.int .i64 a.moment, .string a.kind, .string a.terminal, .int .i64 a.seats, .int .i64 a.size, .int .i64 a.noise, .string a.name, .int .i64 e.moment, .string e.kind, .string e.terminal, .int .i64 e.seats, .int .i64 e.size, .int .i64 e.noise, .string e.name, .int .i64 x, .int .i64 y] := by
  obtain ⟨cs, rfl, _⟩ := okWide_struct Tryz.underlying52 hval
  obtain ⟨fuel, hf⟩ := hd
  obtain ⟨y0, y1, y2, y3, n, -, hl, h0, h1, h2, h3⟩ := trod_struct4 Tryz.underlying52 hf
  obtain ⟨l⟩ := cs
  obtain ⟨c0, c1, c2, c3, c4, c5, c6, c7, c8, c9, c10, c11, c12, c13, c14, c15, rfl⟩ := list_of16 l (by rw [cellsMeet] at hl; exact hl)
  obtain ⟨a, e0⟩ := mov_of_trod (show DataW.trod enc Tryz.prog w base sp held n 50 _ = some y0 from h0)
  obtain ⟨e, e1⟩ := mov_of_trod (show DataW.trod enc Tryz.prog w base sp held n 50 _ = some y1 from h1)
  obtain ⟨x, e2, -, -⟩ := DataW.trod_int Tryz.underlying3 (show DataW.trod enc Tryz.prog w base sp held n 3 _ = some y2 from h2)
  obtain ⟨y, e3, -, -⟩ := DataW.trod_int Tryz.underlying3 (show DataW.trod enc Tryz.prog w base sp held n 3 _ = some y3 from h3)
  have e0' : ([c0, c1, c2, c3, c4, c5, c6, c7, c8, c9, c10, c11, c12, c13, c14, c15].drop 0).take (Tryz.prog.cellsOf 50) = [.int .i64 a.moment, .string a.kind, .string a.terminal, .int .i64 a.seats, .int .i64 a.size, .int .i64 a.noise, .string a.name] := e0
  have e1' : ([c0, c1, c2, c3, c4, c5, c6, c7, c8, c9, c10, c11, c12, c13, c14, c15].drop 7).take (Tryz.prog.cellsOf 50) = [.int .i64 e.moment, .string e.kind, .string e.terminal, .int .i64 e.seats, .int .i64 e.size, .int .i64 e.noise, .string e.name] := e1
  have e2' : ([c0, c1, c2, c3, c4, c5, c6, c7, c8, c9, c10, c11, c12, c13, c14, c15].drop 14).take (Tryz.prog.cellsOf 3) = [.int .i64 x] := e2
  have e3' : ([c0, c1, c2, c3, c4, c5, c6, c7, c8, c9, c10, c11, c12, c13, c14, c15].drop 15).take (Tryz.prog.cellsOf 3) = [.int .i64 y] := e3
  rw [cellsEMov] at e0' e1'
  rw [cellsI] at e2' e3'
  simp only [List.drop_zero, List.take_succ_cons, List.take_zero, List.cons.injEq, and_true, List.drop_succ_cons] at e0' e1' e2' e3'
  obtain ⟨rfl, rfl, rfl, rfl, rfl, rfl, rfl⟩ := e0'
  obtain ⟨rfl, rfl, rfl, rfl, rfl, rfl, rfl⟩ := e1'
  subst e2' e3'
  exact ⟨a, e, x, y, rfl⟩
set_option maxRecDepth 100000 in
theorem open_stand1 {r : Reach} {b0 : Nat} {v : Value} {d : DataW H} {ps : List MemPlace} (hval : Value.okWide Tryz.prog w r b0 54 v) (hd : DataW.Trod enc Tryz.prog w base sp held 54 v d ps) :
    ∃ q : StandV, v = .agg q.cells := by
  obtain ⟨cs, rfl, _⟩ := okWide_struct Tryz.underlying54 hval
  obtain ⟨fuel, hf⟩ := hd
  obtain ⟨q, hq⟩ := stand_of_trod hf
  refine ⟨q, ?_⟩
  have : cs.toList = q.cells.toList := hq
  rw [Array.toList_inj.1 this]
set_option maxRecDepth 100000 in
theorem open_turn2 {r : Reach} {b0 : Nat} {v : Value} {d : DataW H} {ps : List MemPlace} (hval : Value.okWide Tryz.prog w r b0 57 v) (hd : DataW.Trod enc Tryz.prog w base sp held 57 v d ps) :
    ∃ (t u : TurnV), v = .agg #[.string t.name, .int .i64 t.start, .int .i64 t.fin, .int .i64 t.size, .string t.terminal, .string u.name, .int .i64 u.start, .int .i64 u.fin, .int .i64 u.size, .string u.terminal] := by
  obtain ⟨cs, rfl, _⟩ := okWide_array Tryz.underlying57 hval
  obtain ⟨fuel, hf⟩ := hd
  obtain ⟨xs, m, -, -, hl, hxl, hx⟩ := DataW.trod_array Tryz.underlying57 hf
  obtain ⟨l⟩ := cs
  obtain ⟨c0, c1, c2, c3, c4, c5, c6, c7, c8, c9, rfl⟩ := list_of10 l (by rw [cellsTwo] at hl; exact hl)
  have h0 := hx 0 (by decide)
  have h1 := hx 1 (by decide)
  rw [List.getElem?_eq_getElem (by omega)] at h0 h1
  obtain ⟨t, e0⟩ := turn_of_trod h0
  obtain ⟨u, e1⟩ := turn_of_trod h1
  have e0' : ([c0, c1, c2, c3, c4, c5, c6, c7, c8, c9].drop (0 * Tryz.prog.cellsOf 56)).take (Tryz.prog.cellsOf 56) = [.string t.name, .int .i64 t.start, .int .i64 t.fin, .int .i64 t.size, .string t.terminal] := e0
  have e1' : ([c0, c1, c2, c3, c4, c5, c6, c7, c8, c9].drop (1 * Tryz.prog.cellsOf 56)).take (Tryz.prog.cellsOf 56) = [.string u.name, .int .i64 u.start, .int .i64 u.fin, .int .i64 u.size, .string u.terminal] := e1
  rw [cellsETurn] at e0' e1'
  simp only [Nat.zero_mul, Nat.one_mul, List.drop_zero, List.take_succ_cons, List.take_zero, List.cons.injEq, and_true, List.drop_succ_cons] at e0' e1'
  obtain ⟨rfl, rfl, rfl, rfl, rfl⟩ := e0'
  obtain ⟨rfl, rfl, rfl, rfl, rfl⟩ := e1'
  exact ⟨t, u, rfl⟩
end
end Go.Proofs.YtkjhnemfebgcnaaGreatDoor
