/- calendar.runLength. -/
import Derived.Test.YtbpoljebkhccjaaDoorWeekM
import Derived.Test.YtbpoljebkhccjaaDoorOnes
import Derived.WalkMore
namespace Go.Proofs.YtbpoljebkhccjaaDoor
open Go Go.RowKit Go.ChangeMaps Go.MapKept
/-- n weeks from the week f on have f's mask, and the next has not. -/
def RunOf (F : Int → Int) (f : Int) (n : Nat) : Prop := n ≤ 57 ∧ (∀ i : Nat, i < n → F (f + i) = F f) ∧ (n = 57 ∨ F (f + n) ≠ F f)
set_option maxRecDepth 100000 in
set_option maxHeartbeats 2000000 in
theorem runLength_v (b off len cap B N m : Nat) (x : Int) (F : Int → Int) (w : World) (hc : w.cell? ⟨b, off, none⟩ = some (.int .i64 x)) (hlen : 0 < len)
    (hx : 0 ≤ x ∧ x ≤ 1000000) (hF : MapF w B N F) (hm : F ((x + 5) / 7) = m) (hm7 : m < 128) :
    Calls Tryd.prog 62 #[.slice (some ⟨b, off, none⟩) len cap, .map (some B)] w fun r w' => (∃ n, RunOf F ((x + 5) / 7) n ∧ r = .returned (.int .i64 ((n * popc m : Nat) : Int))) ∧ w' = w := by
  have hc0 : w.cell? ⟨b, off + 0, none⟩ = some (.int .i64 x) := hc
  have hl0 : (0 : Int) < (len : Int) := by omega
  have hl1 : ((0 : Int).toNat) < len := by simpa using hlen
  go_enter Tryd.func62, Tryd.ntmps62
  go_wp2_with fail
  go_step3
  go_wp2_with fail
  refine (week_any x _ (by omega) (by omega)).mono ?_
  rintro e w1 ⟨rfl, rfl⟩
  obtain ⟨f, hf⟩ : ∃ f, f = (x + 5) / 7 := ⟨_, rfl⟩
  have hfb : 0 ≤ f ∧ f ≤ 200000 := by omega
  rw [← hf] at hm ⊢
  have HF : Hid ((x + 5) / 7 = f) := Lib.hid hf.symm
  clear hf
  have hrun0 := hF.look (wf_small (x := f) (by omega) (by omega))
  rw [hm] at hrun0
  have hp : popc m ≤ 7 := by unfold popc; exact Nat.le_trans (List.countP_le_length ..) (by simp)
  go_wp2_with fail
  go_step3
  go_wp2_with fail
  go_loopw [6, 12] (fun l i wr => ∃ n : Nat, n ≤ 57 ∧ i = .int .i64 n ∧ l = .int .i64 ((n * popc m : Nat) : Int) ∧ (∀ i : Nat, i < n → F (f + i) = F f) ∧ wr = w1)
    (fun _ i _ => 57 - (intOf i).toNat)
  case atStart => exact ⟨0, by omega, rfl, by simp, fun i hi => absurd hi (by omega), rfl⟩
  case round =>
    obtain ⟨n, hn, rfl, rfl, hall, rfl⟩ := hrel
    by_cases hlt : n < 57
    · have hrun1 := hF.look (wf_small (x := f + n) (by omega) (by omega))
      obtain ⟨v, hv⟩ : ∃ v, F (f + n) = v := ⟨_, rfl⟩
      rw [hv] at hrun1
      have hmul : n * popc m ≤ 399 := Nat.le_trans (Nat.mul_le_mul (by omega) hp) (by decide)
      by_cases hvm : v = m
      · subst hvm
        obtain ⟨q, hq⟩ : ∃ q, n * popc m = q := ⟨_, rfl⟩
        rw [hq] at hmul ⊢
        go_wp2_with fail
        refine (ones m hm7 _).mono ?_
        rintro e w2 ⟨rfl, rfl⟩
        go_wp2_with fail
        go_roundw
        case rel => exact ⟨n + 1, by omega, by go_num, by rw [Nat.add_mul, hq]; go_num, fun i hi => by
          by_cases e : i = n
          · rw [e, hv, hm]
          · exact hall i (by omega), by first | rfl | trivial⟩
        case measure => simp [intOf]; omega
      · have hvb : (v == (m : Int)) = false := by simpa using hvm
        go_wp2_with fail
        simp only [Exit.noGoto]
        go_ret
        rw [HF.out]
        exact ⟨⟨n, ⟨hn, hall, .inr (by rw [hv, hm]; exact hvm)⟩, rfl⟩, rfl⟩
    · have hn57 : n = 57 := by omega
      subst hn57
      go_wp2_with fail
      simp only [Exit.noGoto]
      go_ret
      rw [HF.out]
      exact ⟨⟨57, ⟨hn, hall, .inl rfl⟩, rfl⟩, rfl⟩
end Go.Proofs.YtbpoljebkhccjaaDoor
