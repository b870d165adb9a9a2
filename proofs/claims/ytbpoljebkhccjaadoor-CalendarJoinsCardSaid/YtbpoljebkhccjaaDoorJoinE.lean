/- calendar.Join: the error's side, and no days. -/
import Derived.Test.YtbpoljebkhccjaaDoorJoin
namespace Go.Proofs.YtbpoljebkhccjaaDoor
open Go Go.RowKit
set_option maxRecDepth 100000 in
theorem Join_err (b off cap : Nat) (ds : List Int) (w : World) (hb : b < w.heap.size) (hc : ∀ j, j < ds.length → w.cell? ⟨b, off + j, none⟩ = some (.int .i64 (ds.getD j 0))) (hn : ds.length ≤ 100000) (he : ascErr ds ≠ 0) :
    Calls Tryd.prog 20 #[.slice (some ⟨b, off, none⟩) ds.length cap] w fun r w' => r = .returned (.tuple #[.slice none 0 0, .int .i64 (ascErr ds)]) ∧ Below w.heap.size w w' := by
  have HEb : Hid ((ascErr ds != 0) = true) := Lib.hid (by simpa using he)
  have HC := Lib.hid hc
  clear hc he
  go_enter Tryd.func20, Tryd.ntmps20
  go_wp2_with fail
  refine (checkAscending_v b off cap ds _ hb HC.out hn).mono ?_
  rintro e w1 ⟨rfl, hb1⟩
  obtain ⟨E, hE⟩ : ∃ E, ascErr ds = E := ⟨_, rfl⟩
  have HQ := Lib.hid hE
  rw [hE]
  have hEb := HEb.out
  rw [hE] at hEb
  clear hE HEb
  go_wp2_with fail
  go_ret2
  exact ⟨by rw [HQ.out]; rfl, hb1⟩
set_option maxRecDepth 100000 in
theorem weekMasks_zero (A : Option Addr) (cap : Nat) (w : World) :
    Calls Tryd.prog 61 #[.slice A 0 cap] w fun r w' => (∃ v, r = .returned v) ∧ Below w.heap.size w w' := by
  have hmm := @run_makeMap Tryd.prog
  go_enter Tryd.func61, Tryd.ntmps61
  go_wp2
  go_loopw [9] (fun i wr => i = .int .i64 0 ∧ Below w.heap.size w wr) (fun _ _ => 0)
  case atStart => exact ⟨rfl, (Below.refl _ _).alloc (Nat.le_refl _) _⟩
  case round =>
    obtain ⟨rfl, hnx⟩ := hrel
    go_wp2
    go_ret
    exact ⟨⟨_, rfl⟩, hnx⟩
set_option maxRecDepth 100000 in
theorem Join_zero (A : Option Addr) (cap : Nat) (w : World) :
    Calls Tryd.prog 20 #[.slice A 0 cap] w fun r w' => r = .returned (.tuple #[.slice none 0 0, .int .i64 0]) ∧ Below w.heap.size w w' := by
  go_enter Tryd.func20, Tryd.ntmps20
  go_wp2_with fail
  refine (checkAscending_zero A cap _).mono ?_
  rintro e w1 ⟨rfl, rfl⟩
  go_wp2_with fail
  refine (weekMasks_zero A cap _).mono ?_
  rintro e w2 ⟨⟨v, rfl⟩, hb2⟩
  go_wp2_with fail
  go_loopw [0, 6] (fun v0 v6 wr => v0 = .slice A 0 cap ∧ v6 = .slice none 0 0 ∧ wr = w2) (fun _ _ _ => 0)
  case atStart => exact ⟨rfl, rfl, rfl⟩
  case round =>
    obtain ⟨rfl, rfl, rfl⟩ := hrel
    go_wp2_with fail
    go_ret2
    exact ⟨rfl, hb2⟩
end Go.Proofs.YtbpoljebkhccjaaDoor
