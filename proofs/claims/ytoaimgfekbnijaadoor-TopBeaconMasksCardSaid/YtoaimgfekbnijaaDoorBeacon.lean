/- beaconDay returns true. -/
import Derived.Test.YtoaimgfekbnijaaDoorSeasOf
import Derived.Test.YtoaimgfekbnijaaDoorParse
import Derived.Test.YtoaimgfekbnijaaDoorCount
import Derived.Test.YtoaimgfekbnijaaDoorSummer
import Derived.Test.YtoaimgfekbnijaaDoorSame
namespace Go.Proofs.YtoaimgfekbnijaaDoor
open Go.RowKit
theorem flat2_get (l : List (Int × Int)) (i : Nat) (h : i < l.length) : (flat2 l)[i * 2]? = some (.int .i64 (l.getD i (0, 0)).1) ∧ (flat2 l)[i * 2 + 1]? = some (.int .i64 (l.getD i (0, 0)).2) := by
  induction l generalizing i with
  | nil => simp at h
  | cons x r ih =>
    cases i with
    | zero => simp [flat2]
    | succ j =>
      have e : flat2 (x :: r) = [.int .i64 x.1, .int .i64 x.2] ++ flat2 r := by simp [flat2]
      obtain ⟨a, b⟩ := ih j (by simpa using h)
      rw [e, show (j + 1) * 2 = 2 + j * 2 from by omega]
      refine ⟨?_, ?_⟩
      · rw [List.getElem?_append_right (by simp)]; simpa using a
      · rw [List.getElem?_append_right (by simp; omega)]; simpa [show 2 + j * 2 + 1 - 2 = j * 2 + 1 from by omega] using b
theorem chAt_of_own {w : World} {base : Nat} {e : TypeId} {v : Value} {n : Nat} {l : List (Int × Int)} (h : w.ownsRow base e 2 v n (flat2 l)) (hl : l.length = n) (hn : 0 < n) : ∃ g cap, v = .slice (some ⟨g, 0, none⟩) n cap ∧ base ≤ g ∧ ChAt w g 0 l := by
  obtain ⟨k, rfl⟩ : ∃ k, n = k + 1 := ⟨n - 1, by omega⟩
  obtain ⟨g, cap, rfl⟩ := ownsRow_succ h
  refine ⟨g, cap, rfl, own_block h g rfl, ⟨fun i hi => ?_, fun i hi => ?_⟩⟩
  · rw [Nat.zero_add, h.cellAt _ (by omega)]; exact (flat2_get l i hi).1
  · rw [Nat.zero_add, h.cellAt _ (by omega)]; exact (flat2_get l i hi).2
theorem intAt_of_own {w : World} {base : Nat} {e : TypeId} {v : Value} {l : List Int} (h : w.ownsRow base e 1 v l.length (l.map (Value.int .i64))) (hn : 0 < l.length) : ∃ g cap, v = .slice (some ⟨g, 0, none⟩) l.length cap ∧ IntAt w g 0 l := by
  obtain ⟨k, hk⟩ : ∃ k, l.length = k + 1 := ⟨l.length - 1, by omega⟩
  rw [hk] at h
  obtain ⟨g, cap, rfl⟩ := ownsRow_succ h
  rw [hk]
  exact ⟨g, cap, rfl, fun i hi => by rw [Nat.zero_add, h.cellAt _ (by omega)]; simp [hi]⟩
theorem txt_is : isTxt ⟨#[50, 48, 50, 54, 45, 48, 51, 45, 50, 57]⟩ := ⟨rfl, fun i h => by
  match i, h with
  | 0, _ | 1, _ | 2, _ | 3, _ | 4, _ | 5, _ | 6, _ | 7, _ | 8, _ | 9, _ => decide +revert +kernel⟩
theorem txt_st : st (dg ⟨#[50, 48, 50, 54, 45, 48, 51, 45, 50, 57]⟩) 10 = (2, 2026, 3, 29) := by decide +kernel
theorem b_err : dayErr 2026 3 29 = 0 := by decide +kernel
theorem b_dn : Cal.dn 2026 (3 : Int).toNat 29 = 9584 := by decide +kernel
theorem b_db : Cal.db 2026 ≤ 9584 ∧ 9584 < Cal.db (2026 + 1) := by decide +kernel
theorem b_sea : seaY 9584 2026 = 2026 ∧ seaK 9584 2026 = ⟨#[83]⟩ := ⟨by decide +kernel, by
  unfold seaK
  rw [if_neg (by decide +kernel), if_pos (by decide +kernel)]⟩
theorem b_kind : kindErr ⟨#[83]⟩ = 0 := by unfold kindErr; rw [if_pos (.inl isS_S)]
theorem b_span : fDay 2026 ⟨#[83]⟩ = 9584 ∧ lDay 2026 ⟨#[83]⟩ = 9793 := by
  unfold lDay follY follK
  rw [if_pos isS_S, if_pos isS_S]
  unfold fDay
  rw [if_pos isS_S, if_neg (by rw [isS_W]; decide)]
  exact ⟨by decide +kernel, by decide +kernel⟩
theorem b_count : (daysL 9584 9793 127).length = 210 := by decide +kernel
theorem b_cs : sumCs 60 2026 1 = [(13801020, 120), (14103420, 60)] := by decide +kernel
theorem b_zone : zoneErr 60 [(13801020, 120), (14103420, 60)] = 0 := by decide +kernel
theorem b_univ : univ 60 [(13801020, 120), (14103420, 60)] 13801680 = [13801560] := by decide +kernel
end Go.Proofs.YtoaimgfekbnijaaDoor
