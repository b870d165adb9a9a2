/- The reference's weekMask. -/
import Derived.Test.YtbpoljebkhccjaaDoorJoinMath
namespace Go.Proofs.YtbpoljebkhccjaaDoor
open Go Go.RowKit
theorem qWk_any (d : Int) (w : World) (h1 : 0 ≤ d) (h2 : d ≤ 1000000) :
    Calls Tryd.prog 64 #[.int .i64 d] w fun r w' => r = .returned (.int .i64 (wk d)) ∧ w' = w := by
  go_enter Tryd.func64, Tryd.ntmps64
  go_wp2
  go_ret
  exact ⟨rfl, rfl⟩
theorem qWd_any (d : Int) (w : World) (h1 : 0 ≤ d) (h2 : d ≤ 1000000) :
    Calls Tryd.prog 92 #[.int .i64 d] w fun r w' => r = .returned (.int .i64 (Cal.wd d)) ∧ w' = w := by
  go_enter Tryd.func92, Tryd.ntmps92
  go_wp2
  go_ret
  exact ⟨ret_int (by unfold Cal.wd; rfl), rfl⟩
theorem or_add : ∀ m, m < 128 → ∀ i, i < 7 → m / 2 ^ i % 2 = 0 → m ||| 2 ^ i = m + 2 ^ i := by decide +kernel
theorem wkF_step {ds : List Int} (h : Asc ds) {k : Nat} (hk : k < ds.length) (z : Int) : ∃ m : Nat, m < 128 ∧ wkF (ds.take k) z = m ∧
    (wk (ds.getD k 0) ≠ z → wkF (ds.take (k + 1)) z = m) ∧ (wk (ds.getD k 0) = z → m + 2 ^ (Cal.wd (ds.getD k 0)).toNat < 128 ∧ wkF (ds.take (k + 1)) z = ((m + 2 ^ (Cal.wd (ds.getD k 0)).toNat : Nat) : Int)) := by
  obtain ⟨m, hm, hF, -, hb⟩ := wkF_ok h k (by omega) z
  have hT := wkF_take ds k hk
  have hx : ds[k] = ds.getD k 0 := by simp [hk]
  rw [hx] at hT
  obtain ⟨x, hxx⟩ : ∃ x, ds.getD k 0 = x := ⟨_, rfl⟩
  rw [hxx] at hT ⊢
  refine ⟨m, hm, hF, fun e => ?_, fun e => ?_⟩
  · rw [hT]
    unfold wkStep
    rw [if_neg (fun e2 => e (by rw [e2]; rfl))]
    exact hF
  · have hw := wd_lt x
    have hno : m / 2 ^ (Cal.wd x).toNat % 2 = 0 := by
      rcases Nat.mod_two_eq_zero_or_one (m / 2 ^ (Cal.wd x).toNat) with h0 | h1
      · exact h0
      · obtain ⟨d, hd, hdz, hdw⟩ := (hb _ hw).1 h1
        obtain ⟨j, hj, rfl⟩ := List.getElem_of_mem hd
        have hj2 : j < k := by simp at hj; omega
        have hl := h.lt j k hj2 hk
        have e1 : (ds.take k)[j] = ds.getD j 0 := by simp [show j < ds.length by omega]
        rw [e1] at hdz hdw
        rw [hxx] at hl
        unfold wk at e hdz
        unfold Cal.wd at hdw
        omega
    have ho := or_add m hm _ hw hno
    refine ⟨by rw [← ho]; exact (or_popc m hm _ hw).2.1, ?_⟩
    rw [hT]
    unfold wkStep orDay
    rw [show ((x + 5) / 7) = z from e, if_pos rfl, hF, or_nat m hm _ hw, ho]
set_option maxRecDepth 100000 in
set_option maxHeartbeats 2000000 in
theorem qWeekMask_v (b off cap : Nat) (ds : List Int) (z : Int) (w : World) (hc : ∀ j, j < ds.length → w.cell? ⟨b, off + j, none⟩ = some (.int .i64 (ds.getD j 0))) (h : Asc ds) (hl : ds.length ≤ 512) :
    Calls Tryd.prog 65 #[.slice (some ⟨b, off, none⟩) ds.length cap, .int .i64 z] w fun r w' => r = .returned (.int .i64 (wkF ds z)) ∧ w' = w := by
  have HC := Lib.hid hc
  have HA := Lib.hid h
  clear hc h
  go_enter Tryd.func65, Tryd.ntmps65
  go_wp2_with fail
  go_loopw [5, 6] (fun mv i wr => ∃ k m : Nat, k ≤ ds.length ∧ i = .int .i64 k ∧ mv = .int .i64 m ∧ Hid (wkF (ds.take k) z = m) ∧ m < 128 ∧ wr = w) (fun _ i _ => ds.length - (intOf i).toNat)
  case atStart => exact ⟨0, 0, Nat.zero_le _, rfl, rfl, Lib.hid rfl, by omega, rfl⟩
  case round =>
    obtain ⟨k, m, hk, rfl, rfl, HF, hm, rfl⟩ := hrel
    by_cases hlt : k < ds.length
    · have hcell := HC.out k hlt
      obtain ⟨m2, hm2, hF2, hne, heq⟩ := wkF_step HA.out hlt z
      have : m2 = m := by have := HF.out; rw [hF2] at this; omega
      subst this
      have hbd := HA.out.bd _ (getD_mem hlt)
      obtain ⟨x, hx⟩ : ∃ x, ds.getD k 0 = x := ⟨_, rfl⟩
      rw [hx] at hcell hne heq hbd
      clear hx hF2
      by_cases e : wk x = z
      · obtain ⟨q, hq⟩ : ∃ q, (Cal.wd x).toNat = q := ⟨_, rfl⟩
        have hwd : Cal.wd x = (q : Int) := by rw [← hq]; unfold Cal.wd; omega
        have hq7 : q < 7 := by rw [← hq]; exact wd_lt x
        obtain ⟨h1, h2⟩ := heq e
        rw [hq] at h1 h2
        have H2 := Lib.hid h2
        have hwz : (wk x == z) = true := by simpa using e
        clear h2 heq hne HF hq e
        go_wp2_with (first
          | (go_at_call 64; refine (qWk_any _ _ (by omega) (by omega)).mono ?_; rintro e w' ⟨rfl, rfl⟩))
        go_loopw [7, 8] (fun bv wv wr => ∃ p : Nat, p ≤ q ∧ wv = .int .i64 p ∧ bv = .int .i64 ((2 ^ p : Nat) : Int) ∧ wr = w') (fun _ wv _ => q - (intOf wv).toNat)
        case atStart => exact ⟨0, Nat.zero_le _, rfl, rfl, rfl⟩
        case round =>
          obtain ⟨p, hp, rfl, rfl, rfl⟩ := hrel
          by_cases hpq : p < q
          · have h64 : 2 ^ p ≤ 64 := Nat.pow_le_pow_right (show 0 < 2 by omega) (show p ≤ 6 by omega)
            obtain ⟨B, hB⟩ : ∃ B, 2 ^ p = B := ⟨_, rfl⟩
            have HB : Hid (2 ^ (p + 1) = B * 2) := Lib.hid (by rw [Nat.pow_succ, hB])
            rw [hB] at h64 ⊢
            clear hB
            go_wp2_with (first
              | (go_at_call 92; refine (qWd_any _ _ (by omega) (by omega)).mono ?_; rintro e w' ⟨rfl, rfl⟩; rw [hwd]))
            go_roundw
            case rel => exact ⟨p + 1, by omega, by go_num, by rw [HB.out]; go_num, by first | rfl | trivial⟩
            case measure => simp [intOf]; omega
          · have hpq2 : p = q := by omega
            subst hpq2
            obtain ⟨B, hB⟩ : ∃ B, 2 ^ p = B := ⟨_, rfl⟩
            rw [hB] at h1 H2 ⊢
            clear hB
            go_wp2_with (first
              | (go_at_call 92; refine (qWd_any _ _ (by omega) (by omega)).mono ?_; rintro e w' ⟨rfl, rfl⟩; rw [hwd]))
            go_roundw
            case rel => exact ⟨k + 1, m2 + B, by omega, by go_num, by go_num, H2, h1, by first | rfl | trivial⟩
            case measure => simp [intOf]; omega
      · have H2 := Lib.hid (hne e)
        have hwz : (wk x == z) = false := by simpa using e
        clear heq hne HF e
        go_wp2_with (first
          | (go_at_call 64; refine (qWk_any _ _ (by omega) (by omega)).mono ?_; rintro e w' ⟨rfl, rfl⟩))
        go_roundw
        case rel => exact ⟨k + 1, m2, by omega, by go_num, rfl, H2, hm, by first | rfl | trivial⟩
        case measure => simp [intOf]; omega
    · have hkn : k = ds.length := by omega
      subst hkn
      have HZ : Hid (wkF ds z = m) := Lib.hid (by have := HF.out; rwa [List.take_length] at this)
      clear HF HC
      go_wp2_with fail
      go_ret
      exact ⟨by rw [HZ.out]; rfl, rfl⟩
end Go.Proofs.YtbpoljebkhccjaaDoor
