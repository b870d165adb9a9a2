/- calendar.checkAscending. -/
import Derived.Test.YtbpoljebkhccjaaDoorCal3
import Derived.Test.YtbpoljebkhccjaaDoorHeap
namespace Go.Proofs.YtbpoljebkhccjaaDoor
open Go Go.RowKit
/-- The error at a place of a list of days that is to ascend. -/
def ascAt (ds : List Int) (k : Nat) : Int := fst [rng (ds.getD k 0) 0 99999, unl (decide (k = 0) || decide (ds.getD (k - 1) 0 < ds.getD k 0)) 11]
def ascL (ds : List Int) : List Int := (List.range ds.length).map (ascAt ds)
def ascErr (ds : List Int) : Int := if 512 < ds.length then 5 else fst (ascL ds)
theorem ascL_drop (ds : List Int) (k : Nat) (h : k < ds.length) : fst ((ascL ds).drop k) = if ascAt ds k = 0 then fst ((ascL ds).drop (k + 1)) else ascAt ds k := by
  rw [fst_drop _ _ (by simpa [ascL] using h)]
  simp [ascL, h]
set_option maxRecDepth 100000 in
theorem checkAscending_zero (A : Option Addr) (cap : Nat) (w : World) :
    Calls Tryd.prog 60 #[.slice A 0 cap] w fun r w' => r = .returned (.int .i64 0) ∧ w' = w := by
  go_enter Tryd.func60, Tryd.ntmps60
  go_wp2_with fail
  go_loopw [11] (fun i wr => i = .int .i64 0 ∧ wr = w) (fun _ _ => 0)
  case atStart => exact ⟨rfl, rfl⟩
  case round =>
    obtain ⟨rfl, rfl⟩ := hrel
    go_wp2_with fail
    go_ret
    exact ⟨rfl, rfl⟩
set_option maxRecDepth 100000 in
set_option maxHeartbeats 2000000 in
theorem checkAscending_v (b off cap : Nat) (ds : List Int) (w : World) (hb : b < w.heap.size) (hc : ∀ j, j < ds.length → w.cell? ⟨b, off + j, none⟩ = some (.int .i64 (ds.getD j 0))) (hn : ds.length ≤ 100000) :
    Calls Tryd.prog 60 #[.slice (some ⟨b, off, none⟩) ds.length cap] w fun r w' => r = .returned (.int .i64 (ascErr ds)) ∧ Below w.heap.size w w' := by
  by_cases hl : 512 < ds.length
  · have HE : Hid (ascErr ds = 5) := Lib.hid (by unfold ascErr; rw [if_pos hl])
    clear hc
    go_enter Tryd.func60, Tryd.ntmps60
    go_wp2_with fail
    go_ret
    exact ⟨by rw [HE.out]; rfl, Below.refl _ _⟩
  · have HE : Hid (ascErr ds = fst (ascL ds)) := Lib.hid (by unfold ascErr; rw [if_neg hl])
    have HC := Lib.hid hc
    clear hc
    go_enter Tryd.func60, Tryd.ntmps60
    go_wp2_with fail
    go_loopw [11] (fun i wr => ∃ k : Nat, k ≤ ds.length ∧ i = .int .i64 k ∧ Hid (fst (ascL ds) = fst ((ascL ds).drop k)) ∧ Below w.heap.size w wr) (fun i _ => ds.length - (intOf i).toNat)
    case atStart => exact ⟨0, Nat.zero_le _, rfl, Lib.hid (by simp), Below.refl _ _⟩
    case round =>
      obtain ⟨k, hk, rfl, HF, hbr⟩ := hrel
      by_cases hlt : k < ds.length
      · have hcell := (hbr.cell (by exact hb)).trans (HC.out k hlt)
        have HD : Hid (fst (ascL ds) = if ascAt ds k = 0 then fst ((ascL ds).drop (k + 1)) else ascAt ds k) := Lib.hid (HF.out.trans (ascL_drop ds k hlt))
        have HA : Hid (∀ g, (decide (k = 0) || decide (ds.getD (k - 1) 0 < ds.getD k 0)) = g → fst [rng (ds.getD k 0) 0 99999, unl g 11] = ascAt ds k) := Lib.hid (fun g hg => by unfold ascAt; rw [hg])
        have HP : Hid (0 < k → wr.cell? ⟨b, off + (k - 1), none⟩ = some (.int .i64 (ds.getD (k - 1) 0))) := Lib.hid (fun h0 => (hbr.cell (by exact hb)).trans (HC.out (k - 1) (by omega)))
        generalize hE : ascAt ds k = E at HD HA
        clear hE
        generalize ds.getD (k - 1) 0 = y at HA HP
        generalize ds.getD k 0 = x at HA hcell
        clear HF
        cases k with
        | zero =>
          have HE1 := Lib.hid (HA.out true (by simp))
          clear HA
          simp only [Nat.add_zero] at hcell
          go_wp2_with (first
            | (go_at_call 66; refine (checkDay_any _ _).mono ?_; rintro e w' ⟨rfl, rfl⟩)
            | (go_at_call 55; refine (unless_any _ _ _).mono ?_; rintro e w' ⟨rfl, rfl⟩))
          refine (fe_new [_, _] _ _ _ _ _ rfl rfl (by simp)).mono ?_
          rintro e w2 ⟨rfl, hw⟩
          have hbw : Below w.heap.size w w2 := by rw [hw]; exact b_then hbr (below_alloc _ _)
          clear hw
          rw [HE1.out]
          by_cases hE0 : E = 0
          · subst hE0
            have HF2 : Hid (fst (ascL ds) = fst ((ascL ds).drop (0 + 1))) := Lib.hid (by rw [HD.out, if_pos rfl])
            clear HD HE1
            go_wp2_with fail
            go_roundw
            case rel => exact ⟨0 + 1, by omega, by go_num, HF2, hbw⟩
            case measure => simp [intOf]; omega
          · have hEb : (E != 0) = true := by simpa using hE0
            have HZ : Hid (ascErr ds = E) := Lib.hid (by rw [HE.out, HD.out, if_neg hE0])
            clear HD HE1
            go_wp2_with fail
            go_ret
            exact ⟨by rw [HZ.out]; rfl, hbw⟩
        | succ j =>
          have hp := HP.out (by omega)
          have HE1 : Hid (fst [rng x 0 99999, unl (((j : Int) + 1 == 0) || decide (y < x)) 11] = E) := Lib.hid (HA.out _ (by
            have e : ((j : Int) + 1 == 0) = false := by rw [beq_eq_false_iff_ne]; omega
            rw [e]; simp))
          clear HP HA
          rw [Nat.add_sub_cancel] at hp
          go_wp2_with (first
            | (go_at_call 66; refine (checkDay_any _ _).mono ?_; rintro e w' ⟨rfl, rfl⟩)
            | (go_at_call 55; refine (unless_any _ _ _).mono ?_; rintro e w' ⟨rfl, rfl⟩))
          refine (fe_new [_, _] _ _ _ _ _ rfl rfl (by simp)).mono ?_
          rintro e w2 ⟨rfl, hw⟩
          have hbw : Below w.heap.size w w2 := by rw [hw]; exact b_then hbr (below_alloc _ _)
          clear hw
          rw [HE1.out]
          by_cases hE0 : E = 0
          · subst hE0
            have HF2 : Hid (fst (ascL ds) = fst ((ascL ds).drop (j + 1 + 1))) := Lib.hid (by rw [HD.out, if_pos rfl])
            clear HD HE1
            go_wp2_with fail
            go_roundw
            case rel => exact ⟨j + 1 + 1, by omega, by go_num, HF2, hbw⟩
            case measure => simp [intOf]; omega
          · have hEb : (E != 0) = true := by simpa using hE0
            have HZ : Hid (ascErr ds = E) := Lib.hid (by rw [HE.out, HD.out, if_neg hE0])
            clear HD HE1
            go_wp2_with fail
            go_ret
            exact ⟨by rw [HZ.out]; rfl, hbw⟩
      · have hkn : k = ds.length := by omega
        subst hkn
        have HZ : Hid (ascErr ds = 0) := Lib.hid (by rw [HE.out, HF.out, List.drop_of_length_le (by simp [ascL])]; rfl)
        clear HF HC
        go_wp2_with fail
        go_ret
        exact ⟨by rw [HZ.out]; rfl, hbr⟩
end Go.Proofs.YtbpoljebkhccjaaDoor
