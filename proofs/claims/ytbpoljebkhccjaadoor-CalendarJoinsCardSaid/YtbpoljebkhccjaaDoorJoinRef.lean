/- The reference's way of joining days, day by day: where a run ends. -/
import Derived.Test.YtbpoljebkhccjaaDoorJoinMath
namespace Go.Proofs.YtbpoljebkhccjaaDoor
open Go Go.RowKit
/-- The days before number i: the periods l for the first k of them, and a run of n weeks from day k on that may go on. -/
structure Open (ds : List Int) (j k n : Nat) (l : List (Int × Int × Int)) (i : Nat) : Prop where
  done : JoinTo ds (wkF ds) j k l
  bd : Bd ds k
  lt : k < i
  le : i ≤ ds.length
  one : 1 ≤ n
  max : n ≤ 57
  last : wk (ds.getD (i - 1) 0) = wk (ds.getD k 0) + n - 1
  same : ∀ t : Nat, t < n → wkF ds (wk (ds.getD k 0) + t) = wkF ds (wk (ds.getD k 0))
theorem nW_zero {ds : List Int} {z : Int} (h : ∀ j, j < ds.length → wk (ds.getD j 0) ≠ z) : nW ds z = 0 := by
  unfold nW
  rw [List.countP_eq_zero]
  intro d hd
  obtain ⟨j, hj, rfl⟩ := List.getElem_of_mem hd
  have := h j hj
  simpa [hj] using this
/-- The run ends: at the last day, or where the next day's week is no neighbour, has another mask, or would be number 58. -/
theorem Open.close {ds : List Int} (h : Asc ds) {j k n i : Nat} {l : List (Int × Int × Int)} (o : Open ds j k n l i)
    (hlt : i < ds.length → wk (ds.getD (i - 1) 0) < wk (ds.getD i 0))
    (hs : n = 57 ∨ ∀ _ : i < ds.length, wk (ds.getD i 0) ≠ wk (ds.getD k 0) + n ∨ wkF ds (wk (ds.getD i 0)) ≠ wkF ds (wk (ds.getD k 0))) :
    JStep ds (wkF ds) k l i (l ++ [(ds.getD k 0, ds.getD (i - 1) 0, wkF ds (wk (ds.getD k 0)))]) := by
  have hk : k < ds.length := Nat.lt_of_lt_of_le o.lt o.le
  obtain ⟨m, hm7, hm, hp⟩ := wkF_all h (wk (ds.getD k 0))
  have hin : 1 ≤ popc m := by
    rw [hp]
    unfold nW
    have : 0 < ds.countP (fun d => decide (wk d = wk (ds.getD k 0))) := by
      rw [List.countP_pos_iff]
      exact ⟨_, getD_mem hk, by simp⟩
    omega
  -- which days lie before week f + n
  have hiff : ∀ t, t < ds.length → (wk (ds.getD t 0) < wk (ds.getD k 0) + n ↔ t < i) := fun t ht => by
    have hl := o.last
    have hlt0 := o.lt
    constructor
    · intro e
      rcases Nat.lt_or_ge t i with e2 | e2
      · exact e2
      · have hi : i < ds.length := by omega
        have h1 := hlt hi
        have h2 := h.le e2 ht
        omega
    · intro e
      have := h.le (show t ≤ i - 1 by omega) (by have := o.le; omega)
      omega
  have hnB := nB_of o.le hiff
  have hR : RunOf (wkF ds) (wk (ds.getD k 0)) n := by
    refine ⟨o.max, o.same, ?_⟩
    rcases hs with e | e
    · exact .inl e
    · right
      by_cases hi : i < ds.length
      · rcases e hi with e2 | e2
        · -- no day in week f + n
          obtain ⟨m2, h1, h2, h3⟩ := wkF_all h (wk (ds.getD k 0) + n)
          have hz : nW ds (wk (ds.getD k 0) + n) = 0 := nW_zero fun t ht => by
            have hl := hlt hi
            have hla := o.last
            rcases Nat.lt_or_ge t i with e3 | e3
            · have := (hiff t ht).2 e3; omega
            · have h4 := h.le e3 ht
              rcases Nat.lt_trichotomy t i with e5 | e5 | e5
              · omega
              · rw [e5]; exact e2
              · have : ¬ wk (ds.getD i 0) < wk (ds.getD k 0) + n := fun x => absurd ((hiff i hi).1 x) (by omega)
                omega
          rw [h2, hm]
          intro e6
          have : m2 = m := by omega
          rw [this, hz] at h3
          omega
        · by_cases e3 : wk (ds.getD i 0) = wk (ds.getD k 0) + n
          · rw [← e3]; exact e2
          · obtain ⟨m2, h1, h2, h3⟩ := wkF_all h (wk (ds.getD k 0) + n)
            have hz : nW ds (wk (ds.getD k 0) + n) = 0 := nW_zero fun t ht => by
              have h5 : ¬ wk (ds.getD i 0) < wk (ds.getD k 0) + n := fun x => absurd ((hiff i hi).1 x) (by omega)
              rcases Nat.lt_or_ge t i with e4 | e4
              · have := (hiff t ht).2 e4; omega
              · have h4 := h.le e4 ht; omega
            rw [h2, hm]
            intro e6
            have : m2 = m := by omega
            rw [this, hz] at h3
            omega
      · obtain ⟨m2, h1, h2, h3⟩ := wkF_all h (wk (ds.getD k 0) + n)
        have hz : nW ds (wk (ds.getD k 0) + n) = 0 := nW_zero fun t ht => by
          have := (hiff t ht).2 (by omega)
          omega
        rw [h2, hm]
        intro e6
        have : m2 = m := by omega
        rw [this, hz] at h3
        omega
  refine ⟨hk, n, hR, ?_, rfl⟩
  have hrun := nB_run ds (wk (ds.getD k 0)) (popc m) n (fun t ht => by
    obtain ⟨m2, h1, h2, h3⟩ := wkF_all h (wk (ds.getD k 0) + t)
    have := o.same t ht
    rw [h2, hm] at this
    rw [← h3, show m2 = m by omega])
  rw [hnB, o.bd.2 hk] at hrun
  rw [hrun, hm]
  simp
/-- The run goes on in the same week. -/
theorem Open.day {ds : List Int} {j k n i : Nat} {l : List (Int × Int × Int)} (o : Open ds j k n l i) (hi : i < ds.length) (e : wk (ds.getD (i - 1) 0) = wk (ds.getD i 0)) : Open ds j k n l (i + 1) :=
  ⟨o.done, o.bd, by have := o.lt; omega, hi, o.one, o.max, by rw [Nat.add_sub_cancel, ← e]; exact o.last, o.same⟩
/-- .. in the next week. -/
theorem Open.week {ds : List Int} {j k n i : Nat} {l : List (Int × Int × Int)} (o : Open ds j k n l i) (hi : i < ds.length) (e : wk (ds.getD (i - 1) 0) = wk (ds.getD i 0) - 1) (hm : wkF ds (wk (ds.getD i 0)) = wkF ds (wk (ds.getD k 0))) (hn : n < 57) : Open ds j k (n + 1) l (i + 1) := by
  have hl := o.last
  refine ⟨o.done, o.bd, by have := o.lt; omega, hi, by omega, by omega, by rw [Nat.add_sub_cancel]; omega, fun t ht => ?_⟩
  by_cases e2 : t = n
  · subst e2
    rw [← hm]
    congr 1
    omega
  · exact o.same t (by omega)
/-- A new run. -/
theorem Open.new {ds : List Int} {j k : Nat} {l : List (Int × Int × Int)} (h : JoinTo ds (wkF ds) j k l) (hb : Bd ds k) (hk : k < ds.length) : Open ds j k 1 l (k + 1) :=
  ⟨h, hb, by omega, hk, Nat.le_refl _, by omega, by rw [Nat.add_sub_cancel]; omega, fun t ht => by rw [show t = 0 by omega]; simp⟩
theorem JStep.bd {ds : List Int} (h : Asc ds) {k i : Nat} {l l' : List (Int × Int × Int)} (hB : Bd ds k) (s : JStep ds (wkF ds) k l i l') : Bd ds i := by
  obtain ⟨hk, n, hR, rfl, rfl⟩ := s
  obtain ⟨m, _, hm, _⟩ := wkF_all h (wk (ds.getD k 0))
  have := (run_end h hk hB hR hm).2.2
  rw [hm]
  simpa using this
theorem JoinTo.len {ds : List Int} (h : Asc ds) {j k : Nat} {l : List (Int × Int × Int)} (hj : JoinTo ds (wkF ds) j k l) : l.length ≤ ds.length := by
  have key : Bd ds k ∧ l.length ≤ k ∧ k ≤ ds.length := by
    induction hj with
    | zero => exact ⟨Bd.zero h, Nat.le_refl _, Nat.zero_le _⟩
    | step a s ih =>
      obtain ⟨b1, b2, b3⟩ := ih
      have b4 := s.bd h b1
      obtain ⟨hk, n, hR, rfl, rfl⟩ := s
      obtain ⟨m, _, hm, _⟩ := wkF_all h (wk (ds.getD _ 0))
      have := (run_end h hk b1 hR hm).1
      refine ⟨b4, ?_, b4.1⟩
      rw [List.length_append, hm]
      simp only [Int.toNat_natCast, List.length_cons, List.length_nil]
      omega
  omega
end Go.Proofs.YtbpoljebkhccjaaDoor
