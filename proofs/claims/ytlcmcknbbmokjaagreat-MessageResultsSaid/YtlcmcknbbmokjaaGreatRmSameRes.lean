/- Contract of the reference: turnround/turnroundref02.SameResults, at two rows of the same. -/
import Derived.Test.YtlcmcknbbmokjaaGreatRmEqG
namespace Go.Proofs.YtlcmcknbbmokjaaGreat
open Go Go.RowKit
set_option maxRecDepth 100000 in
set_option maxHeartbeats 4000000 in
theorem SameRes_some (L : List ResV) (b1 o1 c1 b2 o2 c2 : Nat) (w : World) (h1 : RowsAt ResV.cells 3 w b1 o1 L) (h2 : RowsAt ResV.cells 3 w b2 o2 L) (hn : L.length ≤ 5000) :
    Calls Tryz.prog 51 #[.slice (some ⟨b1, o1, none⟩) L.length c1, .slice (some ⟨b2, o2, none⟩) L.length c2] w fun e w' => e = .returned (.bool true) ∧ Below w.heap.size w w' := by
  have H1 := Lib.hid h1
  have H2 := Lib.hid h2
  clear h1 h2
  go_enter Tryz.func51, Tryz.ntmps51
  go_wp2_with fail
  go_loopw [5] (fun i wr => ∃ k : Nat, k ≤ L.length ∧ i = .int .i64 k ∧ ∃ q, wr = w.drewN q) (fun i _ => L.length - (intOf i).toNat)
  case atStart => exact ⟨0, Nat.zero_le _, rfl, 0, rfl⟩
  case round =>
    obtain ⟨k, hk, rfl, q, rfl⟩ := hrel
    by_cases hlt : k < L.length
    · have h1 := H1.out.c k hlt
      have h2 := H2.out.c k hlt
      have hs := sameRs (L.getD k default)
      generalize L.getD k default = l at h1 h2 hs
      obtain ⟨zname, zgranted, zminute⟩ := l
      simp only [ResV.cells] at h1 h2 hs
      have x0 := h1 0 _ rfl
      have y0 := h2 0 _ rfl
      have x1 := h1 1 _ rfl
      have y1 := h2 1 _ rfl
      have x2 := h1 2 _ rfl
      have y2 := h2 2 _ rfl
      simp only [Nat.add_zero] at x0 y0
      clear h1 h2
      go_wp2_with fail
      go_quiet (fail)
      go_wp2_with fail
      go_roundw
      case rel => exact ⟨k + 1, by omega, by go_num, q + nq, by first | rfl | rw [World.drewN_drewN]⟩
      case measure => simp [intOf]; omega
    · go_wp2_with fail
      go_ret
      exact ⟨rfl, by rw [show w.drewN q = w.drewN q from rfl]; exact ⟨rfl, rfl, rfl, Nat.le_refl _, fun _ _ => rfl⟩⟩
set_option maxRecDepth 100000 in
theorem SameRes_zero (A B : Option Addr) (c d : Nat) (w : World) :
    Calls Tryz.prog 51 #[.slice A 0 c, .slice B 0 d] w fun e w' => e = .returned (.bool true) ∧ Below w.heap.size w w' := by
  go_enter Tryz.func51, Tryz.ntmps51
  go_wp2_with fail
  go_loopw [5] (fun i wr => i = .int .i64 0 ∧ wr = w) (fun _ _ => 0)
  case atStart => exact ⟨rfl, rfl⟩
  case round =>
    obtain ⟨rfl, rfl⟩ := hrel
    go_wp2_with fail
    go_ret
    exact ⟨rfl, Below.refl _ _⟩
theorem SameRes_any (L : List ResV) (v1 v2 : Value) (w1 w2 w : World) (h1 : SlArg ResV.cells 3 w1 v1 L) (h2 : SlArg ResV.cells 3 w2 v2 L) (hb1 : Below w1.heap.size w1 w) (hb2 : Below w2.heap.size w2 w) (hn : L.length ≤ 5000) :
    Calls Tryz.prog 51 #[v1, v2] w fun e w' => e = .returned (.bool true) ∧ Below w.heap.size w w' := by
  rcases h1 with ⟨rfl, A, c, rfl⟩ | ⟨h0, b, off, cap, rfl, hl, hc, hs⟩
  · rcases h2 with ⟨-, B, d, rfl⟩ | ⟨h0, _⟩
    · exact SameRes_zero A B c d w
    · simp at h0
  · rcases h2 with ⟨rfl, _⟩ | ⟨_, b', off', cap', rfl, hl', hc', hs'⟩
    · simp at h0
    · exact SameRes_some L b off cap b' off' cap' w (hl.below hb1) (hl'.below hb2) hn
end Go.Proofs.YtlcmcknbbmokjaaGreat
