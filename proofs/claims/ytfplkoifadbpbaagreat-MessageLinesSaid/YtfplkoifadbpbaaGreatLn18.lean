/- For every line, valid or not, MessageLines returns true and leaves its argument as it was: CheckLine and PrintLine return the results or the errors of the reference. Conditions: the row's own. -/
import Derived.Test.YtfplkoifadbpbaaGreatLn2
import Derived.ProofKit
import Derived.ChangeSame
import Derived.OpenShut
import Derived.Deep.Strs
import Derived.Deep.Slices
import Derived.WideShapes
import Derived.Lib.SmallJoins
import Derived.Test.YtfplkoifadbpbaaGreatLn1
import Derived.WideKeyArgs
import Derived.ChangeShapes
import Derived.Below
import Derived.Test.YtfplkoifadbpbaaGreatRows
import Derived.Test.YtfplkoifadbpbaaGreatLn4
import Derived.Lib.LaidTab
import Derived.Stop.LaidErr
import Derived.LaidMore
import Derived.Test.YtfplkoifadbpbaaGreatLn17
import Derived.WalkKit
import Derived.Deep.DeepHandedRow
namespace Go.Proofs.YtfplkoifadbpbaaGreat
open Go Go.RowKit
/-- A value that is a slice of these requests. -/
def RqArg (w : World) (v : Value) (l : List ReqV) : Prop :=
  (l = [] ∧ ∃ A c, v = .slice A 0 c) ∨ (0 < l.length ∧ ∃ b off cap, v = .slice (some ⟨b, off, none⟩) l.length cap ∧ RqsAt w b off l ∧ l.length ≤ cap ∧ ∀ k, k < l.length → (l.getD k default).name.size ≤ maxLen)
end Go.Proofs.YtfplkoifadbpbaaGreat
namespace Go.Proofs.YtfplkoifadbpbaaGreat
open Go Go.RowKit Go.ChangeShapes Go.WideShapes Go.ChangeAt Go.Deep
theorem cellsI : Tryz.prog.cellsOf 3 = 1 := by kernel_rfl
theorem cellsS : Tryz.prog.cellsOf 9 = 1 := by kernel_rfl
theorem cellsPe : Tryz.prog.cellsOf 23 = 3 := by kernel_rfl
theorem cellsRq : Tryz.prog.cellsOf 25 = 13 := by kernel_rfl
theorem thirteen_of {α : Type} (l : List α) (h : l.length = 13) : ∃ c0 c1 c2 c3 c4 c5 c6 c7 c8 c9 c10 c11 c12, l = [c0, c1, c2, c3, c4, c5, c6, c7, c8, c9, c10, c11, c12] := by
  match l, h with
  | [c0, c1, c2, c3, c4, c5, c6, c7, c8, c9, c10, c11, c12], _ => exact ⟨c0, c1, c2, c3, c4, c5, c6, c7, c8, c9, c10, c11, c12, rfl⟩
theorem eleven_of {α : Type} (l : List α) (h : l.length = 11) : ∃ y0 y1 y2 y3 y4 y5 y6 y7 y8 y9 y10, l = [y0, y1, y2, y3, y4, y5, y6, y7, y8, y9, y10] := by
  match l, h with
  | [y0, y1, y2, y3, y4, y5, y6, y7, y8, y9, y10], _ => exact ⟨y0, y1, y2, y3, y4, y5, y6, y7, y8, y9, y10, rfl⟩
section
variable {H : Type} {enc : TypeId × Value → H} {w : World} {base : Nat} {sp : Nat → Bool} {held : Bool}
set_option maxRecDepth 100000 in
theorem rq_of_trod {fuel : Nat} {cs : List Value} {x : DataW H × List MemPlace} (h : DataW.trod enc Tryz.prog w base sp held fuel 25 cs = some x) : ∃ q : ReqV, cs = q.cells.toList ∧ q.name.size ≤ maxLen := by
  obtain ⟨xs, n, _, _, hl, hxl, hf⟩ := DataW.trod_struct Tryz.underlying25 h
  rw [cellsRq] at hl
  obtain ⟨c0, c1, c2, c3, c4, c5, c6, c7, c8, c9, c10, c11, c12, rfl⟩ := thirteen_of cs hl
  obtain ⟨y0, y1, y2, y3, y4, y5, y6, y7, y8, y9, y10, rfl⟩ := eleven_of xs hxl
  obtain ⟨s0, e0, -, hs0⟩ := DataW.trod_string Tryz.underlying9 (show DataW.trod _ Tryz.prog w base sp held n 9 _ = some y0 from hf 0 _ rfl)
  obtain ⟨s1, e1, -, hs1⟩ := DataW.trod_string Tryz.underlying9 (show DataW.trod _ Tryz.prog w base sp held n 9 _ = some y1 from hf 1 _ rfl)
  obtain ⟨s2, e2, -, hs2⟩ := DataW.trod_string Tryz.underlying9 (show DataW.trod _ Tryz.prog w base sp held n 9 _ = some y2 from hf 2 _ rfl)
  obtain ⟨s3, e3, -, hs3⟩ := DataW.trod_string Tryz.underlying9 (show DataW.trod _ Tryz.prog w base sp held n 9 _ = some y3 from hf 3 _ rfl)
  obtain ⟨s4, e4, -, hs4⟩ := DataW.trod_string Tryz.underlying9 (show DataW.trod _ Tryz.prog w base sp held n 9 _ = some y4 from hf 4 _ rfl)
  obtain ⟨s5, e5, -, hs5⟩ := DataW.trod_string Tryz.underlying9 (show DataW.trod _ Tryz.prog w base sp held n 9 _ = some y5 from hf 5 _ rfl)
  obtain ⟨n9, e9, -, -⟩ := DataW.trod_int Tryz.underlying3 (show DataW.trod _ Tryz.prog w base sp held n 3 _ = some y7 from hf 7 _ rfl)
  obtain ⟨n10, e10, -, -⟩ := DataW.trod_int Tryz.underlying3 (show DataW.trod _ Tryz.prog w base sp held n 3 _ = some y8 from hf 8 _ rfl)
  obtain ⟨n11, e11, -, -⟩ := DataW.trod_int Tryz.underlying3 (show DataW.trod _ Tryz.prog w base sp held n 3 _ = some y9 from hf 9 _ rfl)
  obtain ⟨n12, e12, -, -⟩ := DataW.trod_int Tryz.underlying3 (show DataW.trod _ Tryz.prog w base sp held n 3 _ = some y10 from hf 10 _ rfl)
  have g6 : DataW.trod enc Tryz.prog w base sp held n 23 [c6, c7, c8] = some y6 := by
    rw [show [c6, c7, c8] = ([c0, c1, c2, c3, c4, c5, c6, c7, c8, c9, c10, c11, c12].drop 6).take (Tryz.prog.cellsOf 23) from by rw [cellsPe]; rfl]; exact hf 6 _ rfl
  obtain ⟨z0, z1, z2, n2, _, _, k0, k1, k2⟩ := trod_struct3 Tryz.underlying23 g6
  obtain ⟨n6, e6, -, -⟩ := DataW.trod_int Tryz.underlying3 (show DataW.trod _ Tryz.prog w base sp held n2 3 _ = some z0 from k0)
  obtain ⟨n7, e7, -, -⟩ := DataW.trod_int Tryz.underlying3 (show DataW.trod _ Tryz.prog w base sp held n2 3 _ = some z1 from k1)
  obtain ⟨n8, e8, -, -⟩ := DataW.trod_int Tryz.underlying3 (show DataW.trod _ Tryz.prog w base sp held n2 3 _ = some z2 from k2)
  have e0' : ([c0, c1, c2, c3, c4, c5, c6, c7, c8, c9, c10, c11, c12].drop 0).take (Tryz.prog.cellsOf 9) = [.string s0] := e0
  have e1' : ([c0, c1, c2, c3, c4, c5, c6, c7, c8, c9, c10, c11, c12].drop 1).take (Tryz.prog.cellsOf 9) = [.string s1] := e1
  have e2' : ([c0, c1, c2, c3, c4, c5, c6, c7, c8, c9, c10, c11, c12].drop 2).take (Tryz.prog.cellsOf 9) = [.string s2] := e2
  have e3' : ([c0, c1, c2, c3, c4, c5, c6, c7, c8, c9, c10, c11, c12].drop 3).take (Tryz.prog.cellsOf 9) = [.string s3] := e3
  have e4' : ([c0, c1, c2, c3, c4, c5, c6, c7, c8, c9, c10, c11, c12].drop 4).take (Tryz.prog.cellsOf 9) = [.string s4] := e4
  have e5' : ([c0, c1, c2, c3, c4, c5, c6, c7, c8, c9, c10, c11, c12].drop 5).take (Tryz.prog.cellsOf 9) = [.string s5] := e5
  have e9' : ([c0, c1, c2, c3, c4, c5, c6, c7, c8, c9, c10, c11, c12].drop 9).take (Tryz.prog.cellsOf 3) = [.int .i64 n9] := e9
  have e10' : ([c0, c1, c2, c3, c4, c5, c6, c7, c8, c9, c10, c11, c12].drop 10).take (Tryz.prog.cellsOf 3) = [.int .i64 n10] := e10
  have e11' : ([c0, c1, c2, c3, c4, c5, c6, c7, c8, c9, c10, c11, c12].drop 11).take (Tryz.prog.cellsOf 3) = [.int .i64 n11] := e11
  have e12' : ([c0, c1, c2, c3, c4, c5, c6, c7, c8, c9, c10, c11, c12].drop 12).take (Tryz.prog.cellsOf 3) = [.int .i64 n12] := e12
  have e6' : ([c6, c7, c8].drop 0).take (Tryz.prog.cellsOf 3) = [.int .i64 n6] := e6
  have e7' : ([c6, c7, c8].drop 1).take (Tryz.prog.cellsOf 3) = [.int .i64 n7] := e7
  have e8' : ([c6, c7, c8].drop 2).take (Tryz.prog.cellsOf 3) = [.int .i64 n8] := e8
  rw [cellsI] at e6' e7' e8' e9' e10' e11' e12'
  rw [cellsS] at e0' e1' e2' e3' e4' e5'
  simp only [List.drop_zero, List.take_succ_cons, List.take_zero, List.cons.injEq, and_true, List.drop_succ_cons] at e0' e1' e2' e3' e4' e5' e6' e7' e8' e9' e10' e11' e12'
  subst e0' e1' e2' e3' e4' e5' e6' e7' e8' e9' e10' e11' e12'
  exact ⟨⟨s0, s1, s2, s3, s4, s5, n6, n7, n8, n9, n10, n11, n12⟩, rfl, hs0⟩
set_option maxRecDepth 100000 in
theorem open_req {r : Reach} {b0 : Nat} {v : Value} {d : DataW H} {ps : List MemPlace} (hval : Value.okWide Tryz.prog w r b0 25 v) (hd : DataW.Trod enc Tryz.prog w base sp held 25 v d ps) :
    ∃ q : ReqV, v = .agg q.cells ∧ q.name.size ≤ maxLen := by
  obtain ⟨cs, rfl, _⟩ := okWide_struct Tryz.underlying25 hval
  obtain ⟨fuel, hf⟩ := hd
  obtain ⟨q, hq, hs⟩ := rq_of_trod hf
  refine ⟨q, ?_, hs⟩
  have : cs.toList = q.cells.toList := hq
  rw [Array.toList_inj.1 this]
set_option maxRecDepth 100000 in
theorem open_reqs {v : Value} {d : DataW H} {ps : List MemPlace} {r : Reach} {b0 : Nat} (hval : Value.okWide Tryz.prog w r b0 73 v) (hd : DataW.Trod enc Tryz.prog w base (fun _ => true) held 73 v d ps) :
    ∃ l : List ReqV, RqArg w v l := by
  obtain ⟨A, mm, c, rfl⟩ := Go.WideShapes.okWide_slice Tryz.underlying73 hval
  obtain ⟨fuel, hf⟩ := hd
  rcases open_slice Tryz.underlying73 hf with ⟨e, -⟩ | ⟨a, len, cap, m, n, D, Pl, e, hb, hl, hm, hmm, -, hx⟩
  · exact ⟨[], .inl ⟨rfl, none, 0, by simpa [Value.cells] using e⟩⟩
  · have hv : Value.slice A mm c = .slice (some a) len cap := by simpa [Value.cells] using e
    rw [hv]
    clear e hv hval
    rcases Nat.eq_zero_or_pos len with h0 | h0
    · subst h0; exact ⟨[], .inl ⟨rfl, some a, cap, rfl⟩⟩
    rw [cellsRq] at hx
    have each : ∀ i, i < len → ∃ q : ReqV, (∀ t u, q.cells[t]? = some u → w.cell? ((a.add (i * 13)).add t) = some u) ∧ q.name.size ≤ maxLen := fun i hi => by
      obtain ⟨cs', h1, h2⟩ := hx i (by simp at hmm; omega)
      obtain ⟨q, rfl, hs⟩ := rq_of_trod h2
      obtain ⟨_, hlen, hcell⟩ := World.cells?_some h1
      refine ⟨q, fun t u hu => ?_, hs⟩
      have ht : t < 13 := by
        have := (Array.getElem?_eq_some_iff.1 hu).1
        simpa [ReqV.cells] using this
      rw [hcell t ht]
      simpa using hu
    obtain ⟨Q, hQ⟩ := choose_lt each
    have hsp : a.spot = none := by
      have := (hQ 0 h0).1 0 _ rfl
      rw [Nat.zero_mul] at this
      have h2 := World.cell?_spot this
      simpa [Addr.add] using h2
    obtain ⟨b, off, s⟩ := a
    simp only at hsp
    subst hsp
    have hg : ∀ i, i < len → ((List.range len).map Q).getD i default = Q i := fun i hi => by simp [List.getD, hi]
    refine ⟨(List.range len).map Q, .inr ⟨by simpa using h0, b, off, cap, by simp, ⟨fun k hk t u hu => ?_⟩, by simpa using hl, fun k hk => ?_⟩⟩
    · have hk' : k < len := by simpa using hk
      rw [hg k hk'] at hu
      have := (hQ k hk').1 t u hu
      rw [add_plain, add_plain] at this
      exact this
    · have hk' : k < len := by simpa using hk
      rw [hg k hk']; exact (hQ k hk').2
end
end Go.Proofs.YtfplkoifadbpbaaGreat
namespace Go.Proofs.YtfplkoifadbpbaaGreat
open Go Go.RowKit Go.WideShapes Go.ChangeAt
theorem fourteen_of {α : Type} (l : List α) (h : l.length = 14) : ∃ c0 r, l = c0 :: r ∧ r.length = 13 := by
  match l, h with
  | c0 :: r, h => exact ⟨c0, r, rfl, by simpa using h⟩
theorem pair_of {α : Type} (l : List α) (h : l.length = 2) : ∃ y0 y1, l = [y0, y1] := by
  match l, h with
  | [y0, y1], _ => exact ⟨y0, y1, rfl⟩
theorem cellsLn : Tryz.prog.cellsOf 27 = 14 := by kernel_rfl
section
variable {H : Type} {enc : TypeId × Value → H} {w : World} {base : Nat} {sp : Nat → Bool} {held : Bool}
set_option maxRecDepth 100000 in
theorem ln_of_trod {fuel : Nat} {cs : List Value} {x : DataW H × List MemPlace} (h : DataW.trod enc Tryz.prog w base sp held fuel 27 cs = some x) : ∃ l : LineV, cs = l.cells.toList ∧ l.q.name.size ≤ maxLen := by
  obtain ⟨xs, n, _, _, hl, hxl, hf⟩ := DataW.trod_struct Tryz.underlying27 h
  rw [cellsLn] at hl
  obtain ⟨c0, r, rfl, hr⟩ := fourteen_of cs hl
  obtain ⟨y0, y1, rfl⟩ := pair_of xs hxl
  obtain ⟨s0, e0, -, hs0⟩ := DataW.trod_string Tryz.underlying9 (show DataW.trod _ Tryz.prog w base sp held n 9 _ = some y0 from hf 0 _ rfl)
  have g1 : DataW.trod enc Tryz.prog w base sp held n 25 r = some y1 := by
    have e : ((c0 :: r).drop 1).take (Tryz.prog.cellsOf 25) = r := by
      rw [cellsRq, List.drop_succ_cons, List.drop_zero, List.take_of_length_le (by omega)]
    rw [← e]; exact hf 1 _ rfl
  obtain ⟨q, hq, hs⟩ := rq_of_trod g1
  have e0' : ((c0 :: r).drop 0).take (Tryz.prog.cellsOf 9) = [.string s0] := e0
  rw [cellsS] at e0'
  simp only [List.drop_zero, List.take_succ_cons, List.take_zero, List.cons.injEq, and_true] at e0'
  refine ⟨⟨s0, q⟩, ?_, hs⟩
  rw [e0', hq]
  rfl
set_option maxRecDepth 100000 in
theorem open_line {r : Reach} {b0 : Nat} {v : Value} {d : DataW H} {ps : List MemPlace} (hval : Value.okWide Tryz.prog w r b0 27 v) (hd : DataW.Trod enc Tryz.prog w base sp held 27 v d ps) :
    ∃ l : LineV, v = .agg l.cells ∧ l.q.name.size ≤ maxLen := by
  obtain ⟨cs, rfl, _⟩ := okWide_struct Tryz.underlying27 hval
  obtain ⟨fuel, hf⟩ := hd
  obtain ⟨l, hq, hs⟩ := ln_of_trod hf
  refine ⟨l, ?_, hs⟩
  have : cs.toList = l.cells.toList := hq
  rw [Array.toList_inj.1 this]
end
end Go.Proofs.YtfplkoifadbpbaaGreat
namespace Go.Proofs.YtfplkoifadbpbaaGreat
open Go Go.RowKit Go.ChangeShapes Go.WideShapes
theorem laidOut : laidOutB Tryz.prog = true := by kernel_rfl
theorem sameAt_below {w w' : World} (hb : Below w.heap.size w w') {p : MemPlace} (hp : p.block < w.heap.size) : w.sameAt w' p := by
  cases p with
  | cell b off => exact hb.cell (p := ⟨b, off, none⟩) hp
  | map b => exact hb.block b hp
section
variable {H : Type} {enc : TypeId × Value → H} {W W' : World}
theorem trodAll_stays {base : Nat} {sp : Nat → Bool} : ∀ {ts : List TypeId} {vs : List Value} {ds : List (DataW H)} {ps : List MemPlace}, (∀ t ∈ ts, Tryz.prog.readableRec t = true ∧ t < Tryz.prog.types.size) →
    DataW.TrodAll enc Tryz.prog W base (fun _ => true) true ts vs ds ps → (∀ p ∈ ps, W.sameAt W' p) → (∀ p ∈ ps, sp p.block = true) → DataW.TrodAll enc Tryz.prog W' base sp true ts vs ds ps := by
  intro ts
  induction ts with
  | nil =>
    intro vs ds ps _ h _ _
    obtain ⟨rfl, rfl, rfl⟩ := trodAll_nil h
    exact trodAll_mk0
  | cons t ts ih =>
    intro vs ds ps ht h hsame hs
    obtain ⟨v, vs', d, ds', p, q, rfl, rfl, rfl, h1, h2⟩ := trodAll_cons h
    have a := Go.WideElems.Trod_stays laidOut (ht t (by simp)).1 (ht t (by simp)).2 h1 (fun x hx => hsame x (by simp [hx])) (fun x hx => hs x (by simp [hx]))
    exact trodAll_cons_mk a (ih (fun t' ht' => ht t' (by simp [ht'])) h2 (fun x hx => hsame x (by simp [hx])) (fun x hx => hs x (by simp [hx])))
end
end Go.Proofs.YtfplkoifadbpbaaGreat
namespace Go.Proofs.YtfplkoifadbpbaaGreat
open Go.ChangeShapes Go.WideShapes Go.ChangeAt Go.RowKit
theorem cellsInt : Tryz.prog.cellsOf 3 = 1 := by kernel_rfl
theorem cellsStr : Tryz.prog.cellsOf 9 = 1 := by kernel_rfl
theorem two_of {α : Type} (l : List α) (h : l.length = 2) : ∃ a b, l = [a, b] := by
  match l, h with
  | [a, b], _ => exact ⟨a, b, rfl⟩
theorem heap_of_var {W : World} {name : String} {g : Nat} {cs : Array Value} (hg : Tryz.prog.globalNamed name = some g) (h : W.var? Tryz.prog name = some cs) : ∃ t fr, W.heap[g]? = some (.cells cs t fr) := by
  unfold World.var? at h
  rw [hg] at h
  simp only [Option.bind_some] at h
  split at h
  · rename_i cs' t fr hh
    cases h
    exact ⟨t, fr, hh⟩
  · cases h
theorem u16_bd {a : Int} (h : (Lit.int .u16 a).wf = true) : 0 ≤ a ∧ a ≤ 65535 := by
  unfold Lit.wf at h
  simp at h
  rw [show IntKind.u16.min = 0 by decide, show IntKind.u16.max = 65535 by decide] at h
  exact h
theorem u8_bd {a : Int} (h : (Lit.int .u8 a).wf = true) : 0 ≤ a ∧ a ≤ 255 := by
  unfold Lit.wf at h
  simp at h
  rw [show IntKind.u8.min = 0 by decide, show IntKind.u8.max = 255 by decide] at h
  exact h
section
variable {H : Type} {enc : TypeId × Value → H} {P : Program}
/-- The row's last step where of the world behind the call only Below is known. -/
theorem post_of_below {f : Func} {s : ChangeSpec} {apart fresh handsOn again : Bool} {W W' : World} {args : Array Value} {v : Value} {ds gs : List (DataW H)} {before pa pv : List MemPlace}
    (hW : DataW.Whole enc P f.params.toList s.vars apart W args.toList ds gs before)
    (hres : ∀ (b : Nat) (sp : Nat → Bool) (hd : Bool), DataW.TrodAll enc P W' b sp hd f.resultTypes.toList (v.resultList f.resultTypes.size) (s.fn H (ds ++ gs)).results [])
    (hargs : ∀ sp : Nat → Bool, (∀ p ∈ before, sp p.block = true) → DataW.TrodAll enc P W' 0 sp true f.params.toList args.toList (s.fn H (ds ++ gs)).args pa)
    (hvars : ∀ sp : Nat → Bool, (∀ p ∈ before, sp p.block = true) → DataW.TrodVars enc P W' sp s.vars (s.fn H (ds ++ gs)).vars pv)
    (hps : before = pa ++ pv) (hb : Below W.heap.size W W')
    (hok : ∀ (j : Nat) (t : TypeId) (r : Value), f.resultTypes[j]? = some t → (v.resultList f.resultTypes.size)[j]? = some r → Value.okWide P W' .any 0 t r) :
    s.post enc P f apart fresh handsOn again W args v W' := by
  have hlt : ∀ p ∈ before, p.block < W.heap.size := fun p hp => hW.lt p hp
  have hold : ∀ p ∈ before, (fun b => decide (b < W.heap.size)) p.block = true := fun p hp => by simpa using hlt p hp
  refine ⟨ds, gs, before, [], pa, pv, hW, hres _ _ _, hargs _ hold, hvars _ hold, World.keptBut_mono (fun p hp => ⟨hp, .inr (by rw [hps, List.mem_append] at hp; exact hp)⟩) (hb.frame (· ∈ before)), fun _ => ?_⟩
  obtain ⟨_, _, _, _, _, hz, hn⟩ := hW
  refine ⟨hok, _, _, ([] ++ pa) ++ pv, ⟨[] ++ pa, pv, trodAll_append (hargs _ (fun _ _ => rfl)) (hres _ _ _), hvars _ (fun _ _ => rfl), rfl, fun b off hp => ?_, fun ha => ?_⟩, fun p hp _ => by rw [hps]; simpa using hp⟩
  · have hin : MemPlace.cell b off ∈ before := by rw [hps]; simpa using hp
    rw [hb.frozen (hlt _ hin)]
    exact hz b off hin
  · have := hn ha
    rw [hps] at this
    simpa using this
end
end Go.Proofs.YtfplkoifadbpbaaGreat
namespace Go.Proofs.YtfplkoifadbpbaaGreat.messageLines
open Go.ChangeShapes Go.WideShapes Go.ChangeAt Go.RowKit
theorem own : ownKnob Tryz.prog.godebug = none := by kernel_rfl
set_option maxRecDepth 100000 in
theorem contract (H : Type) (enc : TypeId × Value → H) (W : World) (base : Nat) (args : Array Value) (ds gs : List (DataW H)) (before : List MemPlace)
    (hval : ∀ (j : Nat) t v, Tryz.f3.params[j]? = some t → args[j]? = some v → Value.okWide Tryz.prog W .any base t v)
    (hW : DataW.Whole enc Tryz.prog Tryz.f3.params.toList Rows.messageLinesSpec.vars false W args.toList ds gs before) :
    Calls Tryz.prog 3 args W fun e W' => ∃ v, e = .returned v ∧ Rows.messageLinesSpec.post enc Tryz.prog Tryz.f3 false true false false W args v W' := by
  have hW' := hW
  obtain ⟨p, q, hA0, hV, rfl, hfz, hnd⟩ := hW
  have hA : DataW.TrodAll enc Tryz.prog W 0 (fun _ => true) true Tryz.f3.params.toList args.toList ds p := hA0
  rw [Tryz.params3] at hA hval
  obtain ⟨v0, vs0, d0, ds0, p0, q0, hargs, rfl, rfl, h0, r0⟩ := trodAll_cons hA
  obtain ⟨rfl, rfl, rfl⟩ := trodAll_nil r0
  obtain rfl : args = #[v0] := by cases args; simp_all
  obtain ⟨rfl, rfl⟩ := trodVars_none hV
  obtain ⟨x, rfl, -⟩ := open_line (hval 0 27 v0 rfl rfl) h0
  clear hA0
  have htys : ∀ t ∈ ([27] : List TypeId), Tryz.prog.readableRec t = true ∧ t < Tryz.prog.types.size := fun t ht => by
    have := List.all_eq_true.1 (show ([27] : List TypeId).all (fun t => Tryz.prog.readableRec t && decide (t < Tryz.prog.types.size)) = true by kernel_rfl) t ht
    simpa using this
  refine (Lines_true x W).mono ?_
  intro e W' h
  have h' : e = .returned (.bool true) ∧ Below W.heap.size W W' := h
  obtain ⟨he, hg⟩ := h'
  subst he
  exact ⟨_, rfl, post_of_below (pv := []) hW' (fun _ _ _ => (trodAll_cons_mk (shut_bool Tryz.underlying4 _) trodAll_mk0)) (fun sp hs => trodAll_stays htys hA (fun x hx => sameAt_below hg (hW'.lt x (List.mem_append_left _ hx))) (fun x hx => hs x (List.mem_append_left _ hx))) (fun _ _ => rfl) rfl
    hg (ok_one (by kernel_rfl) rfl (okWide_bool_mk Tryz.underlying4 _))⟩
theorem laid_met (os : Os) : laidMet Tryz.prog Rows.messageLinesRow.laid ((World.holding Tryz.prog os ⟨#[], #[], []⟩).forCall (fun _ _ => 0) ⟨#[], #[.agg #[.string ⟨#[]⟩, .string ⟨#[]⟩, .string ⟨#[]⟩, .string ⟨#[]⟩, .string ⟨#[]⟩, .string ⟨#[]⟩, .string ⟨#[]⟩, .int .i64 0, .int .i64 0, .int .i64 0, .int .i64 0, .int .i64 0, .int .i64 0, .int .i64 0]], []⟩).memory :=
  laidMet_of_run' 8 (by kernel_rfl) (by kernel_rfl)
theorem reads (os : Os) {H : Type} (enc : TypeId × Value → H) : ∃ places, DataW.whole enc Tryz.prog ((World.holding Tryz.prog os ⟨#[], #[], []⟩).forCall (fun _ _ => 0) ⟨#[], #[.agg #[.string ⟨#[]⟩, .string ⟨#[]⟩, .string ⟨#[]⟩, .string ⟨#[]⟩, .string ⟨#[]⟩, .string ⟨#[]⟩, .string ⟨#[]⟩, .int .i64 0, .int .i64 0, .int .i64 0, .int .i64 0, .int .i64 0, .int .i64 0, .int .i64 0]], []⟩).memory Tryz.f3.params.toList Rows.messageLinesSpec.vars false (#[.agg #[.string ⟨#[]⟩, .string ⟨#[]⟩, .string ⟨#[]⟩, .string ⟨#[]⟩, .string ⟨#[]⟩, .string ⟨#[]⟩, .string ⟨#[]⟩, .int .i64 0, .int .i64 0, .int .i64 0, .int .i64 0, .int .i64 0, .int .i64 0, .int .i64 0]] : Array Value).toList 8 = some ([.agg [.lit (.string []), .agg [.lit (.string []), .lit (.string []), .lit (.string []), .lit (.string []), .lit (.string []), .lit (.string []), .agg [.lit (.int .i64 0), .lit (.int .i64 0), .lit (.int .i64 0)], .lit (.int .i64 0), .lit (.int .i64 0), .lit (.int .i64 0), .lit (.int .i64 0)]]], [], places) :=
  ⟨[], by kernel_rfl⟩
set_option maxRecDepth 100000 in
theorem lifted (os : Os) (started : os.Started) (H : Type) (enc : TypeId × Value → H) (F : Stop.Interp) :
    ReturnsInHanded {} Tryz.checked os 3 .any ((OpenSpec.ofChange Rows.messageLinesSpec).preRow enc Tryz.prog Tryz.f3 Rows.messageLinesRow.domain false Rows.messageLinesRow.laid) (((OpenSpec.ofChange Rows.messageLinesSpec).at F).post enc Tryz.prog Tryz.f3 false true false false) := by
  obtain ⟨places, hx⟩ := reads os enc
  refine returnsInHanded_of_row (C := Tryz.checked) (s := OpenSpec.ofChange Rows.messageLinesSpec) own started (by kernel_rfl) Tryz.func3
    (witness_row_at (enc := enc) (C := Tryz.checked) false (World.holding Tryz.prog os ⟨#[], #[], []⟩) #[.agg #[.string ⟨#[]⟩, .string ⟨#[]⟩, .string ⟨#[]⟩, .string ⟨#[]⟩, .string ⟨#[]⟩, .string ⟨#[]⟩, .string ⟨#[]⟩, .int .i64 0, .int .i64 0, .int .i64 0, .int .i64 0, .int .i64 0, .int .i64 0, .int .i64 0]] rfl (by kernel_rfl) (by kernel_rfl) (by kernel_rfl)
      (OpenSpec.preRow_of_cond 8 hx (by kernel_rfl) (fun k hk => by cases hk) (by kernel_rfl) (laid_met os))) ?_
  intro W base args ds gs before hval hW _ _ _ _ _ _
  exact contract H enc W base args ds gs before hval hW
theorem cl1 : (Rows.messageLinesRow.inPlace == Tryz.prog.inPlace 3) = true := by kernel_rfl
theorem cl2 : (Rows.messageLinesRow.unfollowed == Tryz.prog.unfollowed 3) = true := by kernel_rfl
theorem cl3 : (Rows.messageLinesRow.recurses == Tryz.prog.recurses 3) = true := by kernel_rfl
theorem cl4 : (Rows.messageLinesRow.named == Tryz.prog.varsNamed 3) = true := by kernel_rfl
theorem cl5 : mapsRowed Tryz.prog = true := by kernel_rfl
theorem cl6 : laidOutB Tryz.prog = true := by kernel_rfl
theorem cl7 : (Tryz.prog.make == some Rows.messageLinesRow.make) = true := by kernel_rfl
theorem cl8 : (Rows.messageLinesRow.lifted == Tryz.prog.liftsFinal) = true := by kernel_rfl
theorem cl9 : Tryz.prog.stopsHeard = true := by kernel_rfl
theorem cl10 : Tryz.prog.mayEnter = true := by kernel_rfl
theorem cl11 : (Rows.messageLinesRow.plainKeys == Tryz.prog.plainKeys) = true := by kernel_rfl
theorem cl12 : (Tryz.prog.stops == []) = true := by kernel_rfl
theorem cl13 : (Tryz.prog.stopKnobs == []) = true := by kernel_rfl
theorem closed : joinedFacts Tryz.prog 3 Tryz.f3 (OpenSpec.ofChange Rows.messageLinesSpec).bare Rows.messageLinesRow = true := by
  unfold joinedFacts
  rw [cl1, cl2, cl3, cl4, cl5, cl6, cl7, cl8, cl9, cl10, cl11, cl12, cl13]
  kernel_rfl
theorem said : Rows.MessageLinesSaid :=
  OpenClaim.holds_of_cond 3 Tryz.f3 rfl rfl rfl rfl rfl rfl rfl ⟨rfl, rfl, rfl, rfl, rfl⟩ rfl rfl rfl rfl rfl (by kernel_rfl) Tryz.func3 closed
    (of_decide_eq_true (by kernel_rfl)) (by unfold Func.isWrapper; first | (rw [if_pos (by decide +kernel)]; kernel_rfl) | (rw [if_neg (by decide +kernel)]; exact ⟨rfl, rfl⟩))
    (fun os started H enc _ F => by rw [OpenClaim.pre_eq_preRow]; exact lifted os started H enc F)
end Go.Proofs.YtfplkoifadbpbaaGreat.messageLines
