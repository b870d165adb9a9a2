/- Contracts of slices.IndexFunc at requests and a name. -/
import Derived.Test.YtnakmgeompjhpaaGreatNamed2
namespace Go.Proofs.YtnakmgeompjhpaaGreat
open Go Go.RowKit
theorem isOf_any (s : ByteArray) (q : ReqV) (w : World) : Calls Tryz.prog 27 #[.string s, .agg q.cells] w fun r w' => r = .returned (.bool (q.name.toList == s.toList)) ∧ Below w.heap.size w w' := by
  obtain ⟨name, carrier, kind, terminal, partner, link, a, b, d, m, u, z, n⟩ := q
  simp only [ReqV.cells]
  go_enter Tryz.func27, Tryz.ntmps27
  go_wp2_with fail
  go_ret
  exact ⟨rfl, below_alloc _ _⟩
/-- The index of the first request with a name, counted from i, or -1. -/
def findIx (s : ByteArray) : List ReqV → Nat → Int
  | [], _ => -1
  | q :: r, i => if q.name.toList == s.toList then i else findIx s r (i + 1)
theorem findIx_drop (s : ByteArray) (l : List ReqV) (k : Nat) (h : k < l.length) (q : ReqV) (hq : l.getD k default = q) :
    findIx s (l.drop k) k = if q.name.toList == s.toList then (k : Int) else findIx s (l.drop (k + 1)) (k + 1) := by
  subst hq
  rw [List.drop_eq_getElem_cons h]
  simp only [List.getD_eq_getElem?_getD, List.getElem?_eq_getElem h, Option.getD_some]
  rfl
theorem findIx_at (s : ByteArray) : ∀ (l : List ReqV) (i : Nat), findIx s l i = -1 ∨ ∃ k, k < l.length ∧ findIx s l i = ((i + k : Nat) : Int)
  | [], _ => .inl rfl
  | q :: r, i => by
    unfold findIx
    split
    · exact .inr ⟨0, by simp, by simp⟩
    · rcases findIx_at s r (i + 1) with h | ⟨k, hk, h⟩
      · exact .inl h
      · exact .inr ⟨k + 1, by simpa using hk, by rw [h]; congr 1; omega⟩
set_option maxRecDepth 100000 in
set_option maxHeartbeats 2000000 in
theorem indexQ_any (s : ByteArray) (l : List ReqV) (b off cap : Nat) (w : World) (hl : RqsAt w b off l) (hn : l.length ≤ 900) :
    Calls Tryz.prog 26 #[.slice (some ⟨b, off, none⟩) l.length cap, .func (.func 27) #[.string s] #[]] w
      fun e w' => e = .returned (.int .i64 (findIx s l 0)) ∧ Below w.heap.size w w' := by
  have HL := Lib.hid hl
  clear hl
  go_enter Tryz.func26, Tryz.ntmps26
  go_wp2_with fail
  go_loopw [8] (fun i wr => ∃ (k : Nat), k ≤ l.length ∧ i = .int .i64 k ∧ Hid (findIx s l 0 = findIx s (l.drop k) k) ∧ Hid (RqsAt wr b off l) ∧ Hid (Below w.heap.size w wr)) (fun i _ => l.length - (intOf i).toNat)
  case atStart => exact ⟨0, Nat.zero_le _, rfl, Lib.hid (by simp), HL, Lib.hid (Below.refl _ _)⟩
  case round =>
    obtain ⟨k, hk, rfl, HF, HQ, HB⟩ := hrel
    by_cases hlt : k < l.length
    · have hd := findIx_drop s l k hlt _ rfl
      have hrow := HQ.out.row hlt rfl
      generalize l.getD k default = q at hd hrow
      have hcall := isOf_any s q
      generalize (q.name.toList == s.toList) = p at hd hcall
      have HD := Lib.hid hd
      clear hd
      obtain ⟨qa, qb, qc, qd, qe, qf, qg, qh, qi, qj, qk, ql, qm⟩ := q
      dsimp only [ReqV.cells] at hcall hrow
      obtain ⟨x0, x1, x2, x3, x4, x5, x6, x7, x8, x9, x10, x11, x12⟩ := hrow
      go_wp2_with fail
      refine (hcall _).mono ?_
      rintro e1 w1 ⟨rfl, hb1⟩
      have HB1 : Hid (Below w.heap.size w w1) := Lib.hid (b_then HB.out hb1)
      have HQ1 : Hid (RqsAt w1 b off l) := Lib.hid (HQ.out.below hb1)
      clear x0 x1 x2 x3 x4 x5 x6 x7 x8 x9 x10 x11 x12 hb1 hcall
      cases p
      · go_wp2_with fail
        go_round
        case rel => exact ⟨k + 1, by omega, by go_num, Lib.hid (by rw [HF.out, HD.out, if_neg (by simp)]), HQ1, HB1⟩
        case measure => simp [intOf]; omega
      · have HE := Lib.hid (show findIx s l 0 = k by rw [HF.out, HD.out, if_pos rfl])
        go_wp2_with fail
        go_ret
        exact ⟨by rw [HE.out]; rfl, HB1.out⟩
    · have HE := Lib.hid (show findIx s l 0 = -1 by rw [HF.out, List.drop_of_length_le (by omega)]; rfl)
      go_wp2_with fail
      go_ret
      exact ⟨by rw [HE.out]; rfl, HB.out⟩
/-- The request that another one names as its link can be linked with it. -/
def fitsB (q r : ReqV) : Bool := (r.link.toList == q.name.toList) && (!(r.kind.toList == q.kind.toList) && (r.carrier.toList == q.carrier.toList))
set_option maxRecDepth 100000 in
theorem fits_any (q r : ReqV) (w : World) : Calls Tryz.prog 28 #[.agg q.cells, .agg r.cells] w fun e w' => e = .returned (.bool (fitsB q r)) ∧ Below w.heap.size w w' := by
  have HF : Hid (fitsB q r = ((r.link.toList == q.name.toList) && (!(r.kind.toList == q.kind.toList) && (r.carrier.toList == q.carrier.toList)))) := Lib.hid rfl
  obtain ⟨name, carrier, kind, terminal, partner, link, a, b, d, m, u, z, n⟩ := q
  obtain ⟨name', carrier', kind', terminal', partner', link', a', b', d', m', u', z', n'⟩ := r
  simp only [ReqV.cells] at *
  cases h1 : (link'.toList == name.toList)
  · have HG := Lib.hid (HF.out.trans (by rw [h1, Bool.false_and]))
    go_enter Tryz.func28, Tryz.ntmps28
    go_wp2_with fail
    go_ret
    exact ⟨by rw [HG.out]; rfl, below_alloc2 _ _ _⟩
  · cases h2 : (kind'.toList == kind.toList)
    · have HG := Lib.hid (HF.out.trans (by rw [h1, h2, Bool.true_and, Bool.not_false, Bool.true_and]))
      go_enter Tryz.func28, Tryz.ntmps28
      go_wp2_with fail
      go_ret
      exact ⟨by rw [HG.out]; rfl, below_alloc2 _ _ _⟩
    · have HG := Lib.hid (HF.out.trans (by rw [h1, h2, Bool.true_and, Bool.not_true, Bool.false_and]))
      go_enter Tryz.func28, Tryz.ntmps28
      go_wp2_with fail
      go_ret
      exact ⟨by rw [HG.out]; rfl, below_alloc2 _ _ _⟩
end Go.Proofs.YtnakmgeompjhpaaGreat
