/- Arguments that are a request, or a slice of requests, opened. -/
import Derived.Test.YtnakmgeompjhpaaGreatReqsW
import Derived.ProofKit
import Derived.ChangeSame
import Derived.OpenShut
import Derived.Deep.Strs
import Derived.Deep.Slices
import Derived.WideShapes
import Derived.Lib.SmallJoins
namespace Go.Proofs.YtnakmgeompjhpaaGreat
open Go Go.RowKit Go.ChangeShapes Go.WideShapes Go.ChangeAt Go.Deep
theorem cellsI : Tryz.prog.cellsOf 3 = 1 := by kernel_rfl
theorem cellsS : Tryz.prog.cellsOf 9 = 1 := by kernel_rfl
theorem cellsPe : Tryz.prog.cellsOf 23 = 3 := by kernel_rfl
theorem cellsRq : Tryz.prog.cellsOf 25 = 13 := by kernel_rfl
theorem thirteen_of {α : Type} (l : List α) (h : l.length = 13) : ∃ c0 c1 c2 c3 c4 c5 c6 c7 c8 c9 c10 c11 c12, l = [c0, c1, c2, c3, c4, c5, c6, c7, c8, c9, c10, c11, c12] := by
  match l, h with
  | [c0, c1, c2, c3, c4, c5, c6, c7, c8, c9, c10, c11, c12], _ => exact ⟨c0, c1, c2, c3, c4, c5, c6, c7, c8, c9, c10, c11, c12, rfl⟩
theorem eleven_of {α : Type} (l : List α) (h : l.length = 11) : ∃ y0 y1 y2 y3 y4 y5 y6 y7 y8 y9 y10, l = [y0, y1, y2, y3, y4, y5, y6, y7, y8, y9, y10] := by
  match l, h with
  | [y0, y1, y2, y3, y4, y5, y6, y7, y8, y9, y10], _ => exact ⟨y0, y1, y2, y3, y4, y5, y6, y7, y8, y9, y10, rfl⟩
section
variable {H : Type} {enc : TypeId × Value → H} {w : World} {base : Nat} {sp : Nat → Bool} {held : Bool}
set_option maxRecDepth 100000 in
theorem rq_of_trod {fuel : Nat} {cs : List Value} {x : DataW H × List MemPlace} (h : DataW.trod enc Tryz.prog w base sp held fuel 25 cs = some x) : ∃ q : ReqV, cs = q.cells.toList ∧ q.name.size ≤ maxLen := by
  obtain ⟨xs, n, _, _, hl, hxl, hf⟩ := DataW.trod_struct Tryz.underlying25 h
  rw [cellsRq] at hl
  obtain ⟨c0, c1, c2, c3, c4, c5, c6, c7, c8, c9, c10, c11, c12, rfl⟩ := thirteen_of cs hl
  obtain ⟨y0, y1, y2, y3, y4, y5, y6, y7, y8, y9, y10, rfl⟩ := eleven_of xs hxl
  obtain ⟨s0, e0, -, hs0⟩ := DataW.trod_string Tryz.underlying9 (show DataW.trod _ Tryz.prog w base sp held n 9 _ = some y0 from hf 0 _ rfl)
  obtain ⟨s1, e1, -, hs1⟩ := DataW.trod_string Tryz.underlying9 (show DataW.trod _ Tryz.prog w base sp held n 9 _ = some y1 from hf 1 _ rfl)
  obtain ⟨s2, e2, -, hs2⟩ := DataW.trod_string Tryz.underlying9 (show DataW.trod _ Tryz.prog w base sp held n 9 _ = some y2 from hf 2 _ rfl)
  obtain ⟨s3, e3, -, hs3⟩ := DataW.trod_string Tryz.underlying9 (show DataW.trod _ Tryz.prog w base sp held n 9 _ = some y3 from hf 3 _ rfl)
  obtain ⟨s4, e4, -, hs4⟩ := DataW.trod_string Tryz.underlying9 (show DataW.trod _ Tryz.prog w base sp held n 9 _ = some y4 from hf 4 _ rfl)
  obtain ⟨s5, e5, -, hs5⟩ := DataW.trod_string Tryz.underlying9 (show DataW.trod _ Tryz.prog w base sp held n 9 _ = some y5 from hf 5 _ rfl)
  obtain ⟨n9, e9, -, -⟩ := DataW.trod_int Tryz.underlying3 (show DataW.trod _ Tryz.prog w base sp held n 3 _ = some y7 from hf 7 _ rfl)
  obtain ⟨n10, e10, -, -⟩ := DataW.trod_int Tryz.underlying3 (show DataW.trod _ Tryz.prog w base sp held n 3 _ = some y8 from hf 8 _ rfl)
  obtain ⟨n11, e11, -, -⟩ := DataW.trod_int Tryz.underlying3 (show DataW.trod _ Tryz.prog w base sp held n 3 _ = some y9 from hf 9 _ rfl)
  obtain ⟨n12, e12, -, -⟩ := DataW.trod_int Tryz.underlying3 (show DataW.trod _ Tryz.prog w base sp held n 3 _ = some y10 from hf 10 _ rfl)
  have g6 : DataW.trod enc Tryz.prog w base sp held n 23 [c6, c7, c8] = some y6 := by
    rw [show [c6, c7, c8] = ([c0, c1, c2, c3, c4, c5, c6, c7, c8, c9, c10, c11, c12].drop 6).take (Tryz.prog.cellsOf 23) from by rw [cellsPe]; rfl]; exact hf 6 _ rfl
  obtain ⟨z0, z1, z2, n2, _, _, k0, k1, k2⟩ := trod_struct3 Tryz.underlying23 g6
  obtain ⟨n6, e6, -, -⟩ := DataW.trod_int Tryz.underlying3 (show DataW.trod _ Tryz.prog w base sp held n2 3 _ = some z0 from k0)
  obtain ⟨n7, e7, -, -⟩ := DataW.trod_int Tryz.underlying3 (show DataW.trod _ Tryz.prog w base sp held n2 3 _ = some z1 from k1)
  obtain ⟨n8, e8, -, -⟩ := DataW.trod_int Tryz.underlying3 (show DataW.trod _ Tryz.prog w base sp held n2 3 _ = some z2 from k2)
  have e0' : ([c0, c1, c2, c3, c4, c5, c6, c7, c8, c9, c10, c11, c12].drop 0).take (Tryz.prog.cellsOf 9) = [.string s0] := e0
  have e1' : ([c0, c1, c2, c3, c4, c5, c6, c7, c8, c9, c10, c11, c12].drop 1).take (Tryz.prog.cellsOf 9) = [.string s1] := e1
  have e2' : ([c0, c1, c2, c3, c4, c5, c6, c7, c8, c9, c10, c11, c12].drop 2).take (Tryz.prog.cellsOf 9) = [.string s2] := e2
  have e3' : ([c0, c1, c2, c3, c4, c5, c6, c7, c8, c9, c10, c11, c12].drop 3).take (Tryz.prog.cellsOf 9) = [.string s3] := e3
  have e4' : ([c0, c1, c2, c3, c4, c5, c6, c7, c8, c9, c10, c11, c12].drop 4).take (Tryz.prog.cellsOf 9) = [.string s4] := e4
  have e5' : ([c0, c1, c2, c3, c4, c5, c6, c7, c8, c9, c10, c11, c12].drop 5).take (Tryz.prog.cellsOf 9) = [.string s5] := e5
  have e9' : ([c0, c1, c2, c3, c4, c5, c6, c7, c8, c9, c10, c11, c12].drop 9).take (Tryz.prog.cellsOf 3) = [.int .i64 n9] := e9
  have e10' : ([c0, c1, c2, c3, c4, c5, c6, c7, c8, c9, c10, c11, c12].drop 10).take (Tryz.prog.cellsOf 3) = [.int .i64 n10] := e10
  have e11' : ([c0, c1, c2, c3, c4, c5, c6, c7, c8, c9, c10, c11, c12].drop 11).take (Tryz.prog.cellsOf 3) = [.int .i64 n11] := e11
  have e12' : ([c0, c1, c2, c3, c4, c5, c6, c7, c8, c9, c10, c11, c12].drop 12).take (Tryz.prog.cellsOf 3) = [.int .i64 n12] := e12
  have e6' : ([c6, c7, c8].drop 0).take (Tryz.prog.cellsOf 3) = [.int .i64 n6] := e6
  have e7' : ([c6, c7, c8].drop 1).take (Tryz.prog.cellsOf 3) = [.int .i64 n7] := e7
  have e8' : ([c6, c7, c8].drop 2).take (Tryz.prog.cellsOf 3) = [.int .i64 n8] := e8
  rw [cellsI] at e6' e7' e8' e9' e10' e11' e12'
  rw [cellsS] at e0' e1' e2' e3' e4' e5'
  simp only [List.drop_zero, List.take_succ_cons, List.take_zero, List.cons.injEq, and_true, List.drop_succ_cons] at e0' e1' e2' e3' e4' e5' e6' e7' e8' e9' e10' e11' e12'
  subst e0' e1' e2' e3' e4' e5' e6' e7' e8' e9' e10' e11' e12'
  exact ⟨⟨s0, s1, s2, s3, s4, s5, n6, n7, n8, n9, n10, n11, n12⟩, rfl, hs0⟩
set_option maxRecDepth 100000 in
theorem open_req {r : Reach} {b0 : Nat} {v : Value} {d : DataW H} {ps : List MemPlace} (hval : Value.okWide Tryz.prog w r b0 25 v) (hd : DataW.Trod enc Tryz.prog w base sp held 25 v d ps) :
    ∃ q : ReqV, v = .agg q.cells ∧ q.name.size ≤ maxLen := by
  obtain ⟨cs, rfl, _⟩ := okWide_struct Tryz.underlying25 hval
  obtain ⟨fuel, hf⟩ := hd
  obtain ⟨q, hq, hs⟩ := rq_of_trod hf
  refine ⟨q, ?_, hs⟩
  have : cs.toList = q.cells.toList := hq
  rw [Array.toList_inj.1 this]
set_option maxRecDepth 100000 in
theorem open_reqs {v : Value} {d : DataW H} {ps : List MemPlace} {r : Reach} {b0 : Nat} (hval : Value.okWide Tryz.prog w r b0 26 v) (hd : DataW.Trod enc Tryz.prog w base (fun _ => true) held 26 v d ps) :
    ∃ l : List ReqV, RqArg w v l := by
  obtain ⟨A, mm, c, rfl⟩ := Go.WideShapes.okWide_slice Tryz.underlying26 hval
  obtain ⟨fuel, hf⟩ := hd
  rcases open_slice Tryz.underlying26 hf with ⟨e, -⟩ | ⟨a, len, cap, m, n, D, Pl, e, hb, hl, hm, hmm, -, hx⟩
  · exact ⟨[], .inl ⟨rfl, none, 0, by simpa [Value.cells] using e⟩⟩
  · have hv : Value.slice A mm c = .slice (some a) len cap := by simpa [Value.cells] using e
    rw [hv]
    clear e hv hval
    rcases Nat.eq_zero_or_pos len with h0 | h0
    · subst h0; exact ⟨[], .inl ⟨rfl, some a, cap, rfl⟩⟩
    rw [cellsRq] at hx
    have each : ∀ i, i < len → ∃ q : ReqV, (∀ t u, q.cells[t]? = some u → w.cell? ((a.add (i * 13)).add t) = some u) ∧ q.name.size ≤ maxLen := fun i hi => by
      obtain ⟨cs', h1, h2⟩ := hx i (by simp at hmm; omega)
      obtain ⟨q, rfl, hs⟩ := rq_of_trod h2
      obtain ⟨_, hlen, hcell⟩ := World.cells?_some h1
      refine ⟨q, fun t u hu => ?_, hs⟩
      have ht : t < 13 := by
        have := (Array.getElem?_eq_some_iff.1 hu).1
        simpa [ReqV.cells] using this
      rw [hcell t ht]
      simpa using hu
    obtain ⟨Q, hQ⟩ := choose_lt each
    have hsp : a.spot = none := by
      have := (hQ 0 h0).1 0 _ rfl
      rw [Nat.zero_mul] at this
      have h2 := World.cell?_spot this
      simpa [Addr.add] using h2
    obtain ⟨b, off, s⟩ := a
    simp only at hsp
    subst hsp
    have hg : ∀ i, i < len → ((List.range len).map Q).getD i default = Q i := fun i hi => by simp [List.getD, hi]
    refine ⟨(List.range len).map Q, .inr ⟨by simpa using h0, b, off, cap, by simp, ⟨fun k hk t u hu => ?_⟩, by simpa using hl, fun k hk => ?_⟩⟩
    · have hk' : k < len := by simpa using hk
      rw [hg k hk'] at hu
      have := (hQ k hk').1 t u hu
      rw [add_plain, add_plain] at this
      exact this
    · have hk' : k < len := by simpa using hk
      rw [hg k hk']; exact (hQ k hk').2
end
end Go.Proofs.YtnakmgeompjhpaaGreat
