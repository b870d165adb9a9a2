
/- Contracts of the reference: First. -/
import Derived.Test.YtnakmgeompjhpaaGreatHeap
namespace Go.Proofs.YtnakmgeompjhpaaGreat
open Go Go.RowKit
theorem qFirst_any (es : List Int) (b c : Nat) (w : World) (hc : ∀ i, i < es.length → w.cell? ⟨b, i, none⟩ = some (.int .i64 (es.getD i 0))) (hl : es.length ≤ 100) :
    Calls Tryz.prog 41 #[.slice (some ⟨b, 0, none⟩) es.length c] w fun r w' => r = .returned (.int .i64 (fst es)) ∧ w' = w := by
  have HC := Lib.hid hc
  clear hc
  go_enter Tryz.func41, Tryz.ntmps41
  go_wp2
  go_loop [3] (fun i => ∃ k : Nat, k ≤ es.length ∧ i = .int .i64 k ∧ Hid (fst es = fst (es.drop k))) (fun i => es.length - (intOf i).toNat)
  case atStart => exact ⟨0, Nat.zero_le _, rfl, Lib.hid (by simp)⟩
  case round =>
    obtain ⟨k, hk, rfl, HF⟩ := hrel
    by_cases hlt : k < es.length
    · have hcell := HC.out k hlt
      have hd := fst_drop es k hlt
      by_cases hz : es.getD k 0 = 0
      · have HD := Lib.hid hd; clear hd
        have HZ := Lib.hid hz
        rw [hz] at hcell
        clear hz
        go_wp2
        go_round
        case rel => exact ⟨k + 1, by omega, by go_num, Lib.hid (by rw [HF.out, HD.out, if_pos HZ.out])⟩
        case measure => simp [intOf]; omega
      · have HD := Lib.hid (show fst es = es.getD k 0 by rw [HF.out, hd, if_neg hz]); clear hd
        generalize es.getD k 0 = x at *
        have hb : (x != 0) = true := by simpa using hz
        clear hz
        go_wp2
        go_ret
        exact ⟨by rw [HD.out]; rfl, rfl⟩
    · have HD := Lib.hid (show fst es = 0 by rw [HF.out, List.drop_of_length_le (by omega)]; rfl)
      go_wp2
      go_ret
      exact ⟨by rw [HD.out]; rfl, rfl⟩
end Go.Proofs.YtnakmgeompjhpaaGreat
