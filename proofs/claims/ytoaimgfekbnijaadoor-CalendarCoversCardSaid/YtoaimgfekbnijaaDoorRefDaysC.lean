/- The reference's CheckDays. -/
import Derived.Test.YtoaimgfekbnijaaDoorJoinAll
import Derived.Test.YtoaimgfekbnijaaDoorYears0
import Derived.Test.YtoaimgfekbnijaaDoorKept
namespace Go.Proofs.YtoaimgfekbnijaaDoor
open Go Go.RowKit
set_option maxRecDepth 100000 in
theorem qCheckDays_zero (A : Option Addr) (cap : Nat) (w : World) :
    Calls Tryd.prog 21 #[.slice A 0 cap] w fun r w' => r = .returned (.int .i64 0) ∧ w' = w := by
  go_enter Tryd.func21, Tryd.ntmps21
  go_wp2_with fail
  go_loopw [3] (fun i wr => i = .int .i64 0 ∧ wr = w) (fun _ _ => 0)
  case atStart => exact ⟨rfl, rfl⟩
  case round =>
    obtain ⟨rfl, rfl⟩ := hrel
    go_wp2_with fail
    go_ret
    exact ⟨rfl, rfl⟩
set_option maxRecDepth 100000 in
set_option maxHeartbeats 2000000 in
theorem qCheckDays_v (b off cap : Nat) (ds : List Int) (w : World) (hb : b < w.heap.size) (hc : ∀ j, j < ds.length → w.cell? ⟨b, off + j, none⟩ = some (.int .i64 (ds.getD j 0))) (hn : ds.length ≤ 100000) :
    Calls Tryd.prog 21 #[.slice (some ⟨b, off, none⟩) ds.length cap] w fun r w' => r = .returned (.int .i64 (ascErr ds)) ∧ Below w.heap.size w w' := by
  by_cases hl : 512 < ds.length
  · have HE : Hid (ascErr ds = 5) := Lib.hid (by unfold ascErr; rw [if_pos hl])
    clear hc
    go_enter Tryd.func21, Tryd.ntmps21
    go_wp2_with fail
    go_ret
    exact ⟨by rw [HE.out]; rfl, Below.refl _ _⟩
  · have HE : Hid (ascErr ds = fst (ascL ds)) := Lib.hid (by unfold ascErr; rw [if_neg hl])
    have HC := Lib.hid hc
    clear hc
    go_enter Tryd.func21, Tryd.ntmps21
    go_wp2_with fail
    go_loopw [3] (fun i wr => ∃ k : Nat, k ≤ ds.length ∧ i = .int .i64 k ∧ Hid (fst (ascL ds) = fst ((ascL ds).drop k)) ∧ Below w.heap.size w wr) (fun i _ => ds.length - (intOf i).toNat)
    case atStart => exact ⟨0, Nat.zero_le _, rfl, Lib.hid (by simp), Below.refl _ _⟩
    case round =>
      obtain ⟨k, hk, rfl, HF, hbr⟩ := hrel
      by_cases hlt : k < ds.length
      · have hcell := (hbr.cell (by exact hb)).trans (HC.out k hlt)
        have HD : Hid (fst (ascL ds) = if ascAt ds k = 0 then fst ((ascL ds).drop (k + 1)) else ascAt ds k) := Lib.hid (HF.out.trans (ascL_drop ds k hlt))
        have HA : Hid (ascAt ds k = if rng (ds.getD k 0) 0 99999 = 0 then (if k = 0 ∨ ds.getD (k - 1) 0 < ds.getD k 0 then 0 else 11) else 3) := Lib.hid (by
          unfold ascAt unl rng
          by_cases e : 0 ≤ ds.getD k 0 ∧ ds.getD k 0 ≤ 99999
          · rw [if_pos e]
            by_cases e2 : k = 0 ∨ ds.getD (k - 1) 0 < ds.getD k 0
            · rw [if_pos rfl, if_pos e2, if_pos (by simpa using e2)]; rfl
            · rw [if_pos rfl, if_neg e2, if_neg (by simpa using e2)]; rfl
          · rw [if_neg e]; simp [fst])
        have HP : Hid (0 < k → wr.cell? ⟨b, off + (k - 1), none⟩ = some (.int .i64 (ds.getD (k - 1) 0))) := Lib.hid (fun h0 => (hbr.cell (by exact hb)).trans (HC.out (k - 1) (by omega)))
        generalize ascAt ds k = E at HD HA
        generalize ds.getD (k - 1) 0 = y at HA HP
        generalize ds.getD k 0 = x at HA hcell
        clear HF
        by_cases hr : rng x 0 99999 = 0
        · have hrb : (rng x 0 99999 != 0) = false := by simp [hr]
          have HA2 : Hid (E = if k = 0 ∨ y < x then 0 else 11) := Lib.hid (by rw [HA.out, if_pos hr])
          clear HA hr
          generalize hR : rng x 0 99999 = R at hrb
          have HRE := Lib.hid hR
          clear hR
          cases k with
          | zero =>
            have HE0 : Hid (E = 0) := Lib.hid (by rw [HA2.out, if_pos (Or.inl rfl)])
            have HF2 : Hid (fst (ascL ds) = fst ((ascL ds).drop (0 + 1))) := Lib.hid (by rw [HD.out, if_pos HE0.out])
            clear HD HA2 HE0
            simp only [Nat.add_zero] at hcell
            have k0 : ∀ q : KeptW wr, q.v.cell? ⟨b, off, none⟩ = some (.int .i64 x) := fun q => q.cell hcell
            have k1 := k0
            go_wp2_with (first
              | (go_at_call 24; refine (qCheckDay_any _ _).mono ?_; rintro e w' ⟨rfl, rfl⟩; rw [HRE.out]))
            have hne : Nonempty (KeptW w') := ⟨⟨w', Below.refl _ _⟩⟩
            refine region_kept (by kernel_rfl) (by kernel_rfl) ?_
            iterate 14 (go_big_quiet_step (fail))
            refine wpQuiet_nil ?_
            rintro _ ⟨q, rfl⟩
            have hbx := b_then hbr q.below
            clear k0 k1 hcell HP hne hbr
            go_wp2_with fail
            go_roundw
            case rel => exact ⟨0 + 1, by omega, by go_num, HF2, hbx⟩
            case measure => simp [intOf]; omega
          | succ j =>
            have hp := HP.out (by omega)
            rw [Nat.add_sub_cancel] at hp
            have k0 : ∀ q : KeptW wr, q.v.cell? ⟨b, off + (j + 1), none⟩ = some (.int .i64 x) := fun q => q.cell hcell
            have k1 : ∀ q : KeptW wr, q.v.cell? ⟨b, off + j, none⟩ = some (.int .i64 y) := fun q => q.cell hp
            clear hp
            by_cases hyx : y < x
            · have HE0 : Hid (E = 0) := Lib.hid (by rw [HA2.out, if_pos (Or.inr hyx)])
              have HF2 : Hid (fst (ascL ds) = fst ((ascL ds).drop (j + 1 + 1))) := Lib.hid (by rw [HD.out, if_pos HE0.out])
              have hle : ¬ x ≤ y := by omega
              clear HD HA2 HE0
              go_wp2_with (first
                | (go_at_call 24; refine (qCheckDay_any _ _).mono ?_; rintro e w' ⟨rfl, rfl⟩; rw [HRE.out]))
              have hne : Nonempty (KeptW w') := ⟨⟨w', Below.refl _ _⟩⟩
              refine region_kept (by kernel_rfl) (by kernel_rfl) ?_
              iterate 14 (go_big_quiet_step (fail))
              refine wpQuiet_nil ?_
              rintro _ ⟨q, rfl⟩
              have hbx := b_then hbr q.below
              clear k0 k1 hcell HP hne hbr
              go_wp2_with fail
              go_roundw
              case rel => exact ⟨j + 1 + 1, by omega, by go_num, HF2, hbx⟩
              case measure => simp [intOf]; omega
            · have HE0 : Hid (E = 11) := Lib.hid (by rw [HA2.out, if_neg (by omega)])
              have HZ : Hid (ascErr ds = 11) := Lib.hid (by rw [HE.out, HD.out, HE0.out, if_neg (by decide)])
              have hle : x ≤ y := by omega
              clear HD HA2 HE0
              go_wp2_with (first
                | (go_at_call 24; refine (qCheckDay_any _ _).mono ?_; rintro e w' ⟨rfl, rfl⟩; rw [HRE.out]))
              have hne : Nonempty (KeptW w') := ⟨⟨w', Below.refl _ _⟩⟩
              refine region_kept (by kernel_rfl) (by kernel_rfl) ?_
              iterate 14 (go_big_quiet_step (fail))
              refine wpQuiet_nil ?_
              rintro _ ⟨q, rfl⟩
              have hbx := b_then hbr q.below
              clear k0 k1 hcell HP hne hbr
              go_wp2_with fail
              go_ret
              exact ⟨by rw [HZ.out]; rfl, hbx⟩
        · have HR : Hid (rng x 0 99999 = 3) := Lib.hid (by unfold rng at hr ⊢; split at hr <;> first | omega | (rename_i h; rw [if_neg h]))
          have HZ : Hid (ascErr ds = 3) := Lib.hid (by rw [HE.out, HD.out, HA.out, if_neg hr, if_neg (by decide)])
          clear HA HD hr
          go_wp2_with (first
            | (go_at_call 24; refine (qCheckDay_any _ _).mono ?_; rintro e w' ⟨rfl, rfl⟩; rw [HR.out]))
          go_ret
          exact ⟨by rw [HZ.out]; rfl, hbr⟩
      · have hkn : k = ds.length := by omega
        subst hkn
        have HZ : Hid (ascErr ds = 0) := Lib.hid (by rw [HE.out, HF.out, List.drop_of_length_le (by simp [ascL])]; rfl)
        clear HF HC
        go_wp2_with fail
        go_ret
        exact ⟨by rw [HZ.out]; rfl, hbr⟩
end Go.Proofs.YtoaimgfekbnijaaDoor
