/- The statement's copy of requests; requests of no length. -/
import Derived.Test.YtlcmcknbbmokjaaGreatPm15
namespace Go.Proofs.YtlcmcknbbmokjaaGreat
open Go Go.RowKit Go.ChangeMaps Go.MapKept
def rqFlat (l : List ReqV) : List Value := (l.map fun q => q.cells.toList).flatten
theorem rqFlat_len (l : List ReqV) : (rqFlat l).length = l.length * 13 := by
  induction l with
  | nil => rfl
  | cons x r ih =>
    have e : rqFlat (x :: r) = x.cells.toList ++ rqFlat r := by simp [rqFlat]
    rw [e, List.length_append, ih]
    simp [ReqV.cells]; omega
theorem rqFlat_at (l : List ReqV) : ∀ (k t : Nat), k < l.length → t < 13 → (rqFlat l)[k * 13 + t]? = (l.getD k default).cells[t]? := by
  induction l with
  | nil => intro k t h; simp at h
  | cons x r ih =>
    intro k t h ht
    have e : rqFlat (x :: r) = x.cells.toList ++ rqFlat r := by simp [rqFlat]
    have hs : x.cells.toList.length = 13 := by simp [ReqV.cells]
    cases k with
    | zero => rw [e, List.getElem?_append_left (by omega)]; simp
    | succ j =>
      rw [e, List.getElem?_append_right (by omega), hs, show (j + 1) * 13 + t - 13 = j * 13 + t by omega, ih j t (by simpa using h) ht]
      simp
theorem rqInfo_parts : ∃ i0, Tryz.prog.info? 26 = some i0 ∧ i0.zero = some (.agg #[.string ⟨#[]⟩, .string ⟨#[]⟩, .string ⟨#[]⟩, .string ⟨#[]⟩, .string ⟨#[]⟩, .string ⟨#[]⟩, .int .i64 0, .int .i64 0, .int .i64 0, .int .i64 0, .int .i64 0, .int .i64 0, .int .i64 0]) ∧ i0.size = 13 ∧ i0.bytes = 152 := by
  have h : (Tryz.prog.info? 26).map (fun i => (i.zero, i.size, i.bytes)) = some (some (.agg #[.string ⟨#[]⟩, .string ⟨#[]⟩, .string ⟨#[]⟩, .string ⟨#[]⟩, .string ⟨#[]⟩, .string ⟨#[]⟩, .int .i64 0, .int .i64 0, .int .i64 0, .int .i64 0, .int .i64 0, .int .i64 0, .int .i64 0]), 13, 152) := by kernel_rfl
  cases hp : Tryz.prog.info? 26 with
  | none => rw [hp] at h; simp at h
  | some i => rw [hp] at h; simp only [Option.map_some, Option.some.injEq, Prod.mk.injEq] at h; exact ⟨i, rfl, h.1, h.2.1, h.2.2⟩
theorem rqFlat_cells {w : World} {b off : Nat} {l : List ReqV} (h : RqsAt w b off l) : ∀ j u, (rqFlat l)[j]? = some u → w.cell? ((⟨b, off, none⟩ : Addr).add j) = some u := fun j u hu => by
  have hj : j < l.length * 13 := by
    have := (List.getElem?_eq_some_iff.1 hu).1
    rwa [rqFlat_len] at this
  have hk : j / 13 < l.length := by omega
  have e := rqFlat_at l (j / 13) (j % 13) hk (by omega)
  rw [show j / 13 * 13 + j % 13 = j by omega, hu] at e
  have := h.c (j / 13) hk (j % 13) u e.symm
  rw [Go.WideShapes.add_plain]
  rw [show off + j / 13 * 13 + j % 13 = off + j by omega] at this
  exact this
theorem rqFlat_one (l : List ReqV) : ∀ u ∈ rqFlat l, u.oneCell' = true := fun u hu => by
  unfold rqFlat at hu
  obtain ⟨x, hx, hu⟩ := List.mem_flatten.1 hu
  obtain ⟨q, -, rfl⟩ := List.mem_map.1 hx
  simp only [ReqV.cells, List.mem_cons, List.not_mem_nil, or_false] at hu
  rcases hu with rfl | rfl | rfl | rfl | rfl | rfl | rfl | rfl | rfl | rfl | rfl | rfl | rfl <;> rfl
theorem rqs_own {w : World} {base g c : Nat} {l : List ReqV} (h : w.ownsRow base 26 13 (.slice (some ⟨g, 0, none⟩) l.length c) l.length (rqFlat l)) : RqsAt w g 0 l :=
  ⟨fun k hk t v hv => by
    have ht : t < 13 := by
      have := (Array.getElem?_eq_some_iff.1 hv).1
      simpa [ReqV.cells] using this
    have e : w.cell? ⟨g, k * 13 + t, none⟩ = (rqFlat l)[k * 13 + t]? := h.cellAt _ (by omega)
    rw [rqFlat_at l k t hk ht, hv] at e
    rw [Nat.zero_add]
    exact e⟩
/-- A call that has returned a copy. -/
structure CopyR (e : Ending) (w' : World) (l : List ReqV) : Prop where
  ex : ∃ g c, e = .returned (.slice (some ⟨g, 0, none⟩) l.length c) ∧ RqsAt w' g 0 l ∧ g < w'.heap.size
set_option maxRecDepth 100000 in
set_option maxHeartbeats 2000000 in
theorem copied_any (l : List ReqV) (b off cap : Nat) (w : World) (hl : RqsAt w b off l) (hpos : 0 < l.length) (h9 : l.length ≤ 900) :
    Calls Tryz.prog 34 #[.slice (some ⟨b, off, none⟩) l.length cap] w fun e w' => CopyR e w' l ∧ Below w.heap.size w w' := by
  have HN := Lib.hid (rqFlat_cells (hl.below (below_alloc w (.cells #[] 26))))
  have HO1 := Lib.hid (rqFlat_one l)
  have hlen := rqFlat_len l
  obtain ⟨i0, hi, hz0, hz1, hz2⟩ := rqInfo_parts
  have hlit : (w.alloc (.cells #[] 26)).ownsRow w.heap.size 26 13 (.slice (some ⟨w.heap.size, 0, none⟩) 0 0) 0 [] := World.ownsRow_lit w #[] 0 (Nat.le_refl _) (by unfold maxLen; omega) rfl
  clear hl
  go_enter Tryz.func34, Tryz.ntmps34
  go_wp2_with (at_builtin; refine Hid.out ?_)
  refine Lib.hid ?_
  refine wpList_append_own _ rfl _ _ 67 rfl w.heap.size 26 i0 _ 13 152 Tryz.underlying67 hi hz0 hz1 hz2 rfl (by decide) _ 0 [] rfl hlit ⟨b, off, none⟩ l.length cap (rqFlat l) rfl (by rw [hlen]) HN.out HO1.out (by unfold maxLen; omega) (by omega) (by simp) ?_
  intro v' w4 hown hgrow _
  have hb4 : Below w.heap.size w w4 := ((Below.refl _ w).alloc (Nat.le_refl _) _).grown hgrow (by simp) (pr_blk hlit)
  rw [Nat.zero_add, List.nil_append] at hown
  clear hgrow HN HO1
  obtain ⟨g, cp, rfl⟩ := ownsRow_succ (k := l.length - 1) (by rw [Nat.sub_add_cancel hpos]; exact hown)
  rw [Nat.sub_add_cancel hpos] at hown ⊢
  have hR := rqs_own hown
  have hg : g < w4.heap.size := cell_in (hR.c 0 hpos 0 _ rfl)
  clear hown
  go_wp2_with fail
  go_ret
  exact ⟨⟨g, cp, rfl, hR, hg⟩, hb4⟩
theorem copied_zero (A : Option Addr) (c : Nat) (w : World) :
    Calls Tryz.prog 34 #[.slice A 0 c] w fun e w' => CopyR e w' [] ∧ Below w.heap.size w w' := by
  have hp : ∀ w : World, Sem.run Tryz.prog (pure (#[] : Array Value)) w = .ok #[] w := fun _ => rfl
  have hst : ∀ (a : Addr) (w : World), Sem.run Tryz.prog (storeCells a []) w = .ok () w := fun _ _ => rfl
  cases A
  · go_enter Tryz.func34, Tryz.ntmps34
    go_wp2_with fail
    go_ret
    exact ⟨⟨_, _, rfl, ⟨by simp⟩, by simp⟩, below_alloc _ _⟩
  · go_enter Tryz.func34, Tryz.ntmps34
    go_wp2_with fail
    go_ret
    exact ⟨⟨_, _, rfl, ⟨by simp⟩, by simp⟩, below_alloc _ _⟩
end Go.Proofs.YtlcmcknbbmokjaaGreat
