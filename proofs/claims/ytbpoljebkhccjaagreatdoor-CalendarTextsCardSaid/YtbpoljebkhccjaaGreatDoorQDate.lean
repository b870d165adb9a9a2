/- Contracts: the reference's ParseDate. -/
import Derived.Test.YtbpoljebkhccjaaGreatDoorPDate
import Derived.Test.YtbpoljebkhccjaaGreatDoorRef1
namespace Go.Proofs.YtbpoljebkhccjaaGreatDoor
open Go Go.RowKit
theorem st_congr (f g : Nat → Int) (k : Nat) (h : ∀ i, i < k → f i = g i) : st f k = st g k := by
  induction k with
  | zero => rfl
  | succ k ih => rw [st, st, ih (fun i hi => h i (by omega)), h k (by omega)]
theorem st_bdp (f : Nat → Int) (k : Nat) (h : k ≤ 10) (hf : ∀ i, i < k → i ≠ 4 → i ≠ 7 → 0 ≤ f i ∧ f i ≤ 9) :
    (0 ≤ (st f k).2.1 ∧ (st f k).2.1 ≤ bdp k) ∧ (0 ≤ (st f k).2.2.1 ∧ (st f k).2.2.1 ≤ bdp k) ∧ 0 ≤ (st f k).2.2.2 ∧ (st f k).2.2.2 ≤ bdp k := by
  rw [st_congr f (fun i => if i < k then f i else 0) k (fun i hi => by rw [if_pos hi])]
  refine st_bd _ (fun i hi h4 h7 => ?_) k h
  show 0 ≤ (if i < k then f i else 0) ∧ (if i < k then f i else 0) ≤ 9
  split
  · rename_i h; exact hf i h h4 h7
  · omega
set_option maxRecDepth 100000 in
set_option maxHeartbeats 1000000 in
theorem qParseDate_any (s : ByteArray) (w : World) :
    Calls Tryz.prog 23 #[.string s] w fun r w' => r = .returned (num2 (pdErr s) (pdVal s)) ∧ Below w.heap.size w w' := by
  by_cases hs : s.size = 10
  · have hlb : ((s.size : Int) != 10) = false := by simp [hs]
    have HS := Lib.hid hs
    obtain ⟨W, HW, hb0, R0, k0, k1, k2⟩ : ∃ W, Hid (w.alloc (.cells #[.int .i64 0, .int .i64 0, .int .i64 0] 22) = W) ∧ Below w.heap.size w W ∧ Res 3 w.heap.size W W ∧ W.cell? ⟨w.heap.size, 0, none⟩ = some (.int .i64 0) ∧ W.cell? ⟨w.heap.size, 1, none⟩ = some (.int .i64 0) ∧ W.cell? ⟨w.heap.size, 2, none⟩ = some (.int .i64 0) :=
      ⟨_, Lib.hid rfl, below_alloc _ _, ⟨fun i hi => by
        match i, hi with
        | 0, _ | 1, _ | 2, _ => exact ⟨.int .i64 0, by simp⟩, fun i hi => by
        match i, hi with
        | 0, _ | 1, _ | 2, _ => simp, Below.refl _ _⟩, by simp, by simp, by simp⟩
    have hs10 : (10 : Int) ≤ s.size := by omega
    clear hs
    go_enter Tryz.func23, Tryz.ntmps23
    go_wp2_with fail
    rw [HW.out]
    go_loopw [5, 6] (fun p i wr => ∃ (pos : Nat) (pt a b c : Int), pos ≤ 10 ∧ i = .int .i64 pos ∧ p = .int .i64 pt ∧ Hid (st (dg s) pos = (pt, a, b, c)) ∧ wr.cell? ⟨w.heap.size, 0, none⟩ = some (.int .i64 a) ∧ wr.cell? ⟨w.heap.size, 1, none⟩ = some (.int .i64 b) ∧ wr.cell? ⟨w.heap.size, 2, none⟩ = some (.int .i64 c) ∧ Res 3 w.heap.size W wr ∧ Hid (∀ i, i < pos → okB i (byteAt s i))) (fun _ i _ => 10 - (intOf i).toNat)
    case atStart => exact ⟨0, 0, 0, 0, 0, by omega, rfl, rfl, Lib.hid rfl, k0, k1, k2, R0, Lib.hid (fun i hi => absurd hi (Nat.not_lt_zero _))⟩
    case round =>
      obtain ⟨pos, pt, a, b, c, hpos10, rfl, rfl, HST, c0, c1, c2, R, HP⟩ := hrel
      have HB := Lib.hid (hb0.trans R.below)
      by_cases hp : pos < 10
      · have hps : pos < s.size := by rw [HS.out]; exact hp
        have f0 := R.frozen 0 (by decide)
        have f1 := R.frozen 1 (by decide)
        have f2 := R.frozen 2 (by decide)
        have HBD : Hid (∀ i, i < pos → i ≠ 4 → i ≠ 7 → 0 ≤ dg s i ∧ dg s i ≤ 9) := Lib.hid (fun i hi h4 h7 => by
          have hi' : i < s.size := by omega
          have := HP.out i hi
          unfold okB at this
          rw [if_neg (by omega), byteAt_eq hi'] at this
          unfold dg; rw [dif_pos hi']; omega)
        have HNX : Hid (okB pos (byteAt s pos) → ∀ i, i < pos + 1 → okB i (byteAt s i)) := Lib.hid (fun hok i hi => by
          rcases Nat.lt_or_ge i pos with h | h
          · exact HP.out i h
          · obtain rfl : i = pos := by omega
            exact hok)
        have HNT : Hid (¬ okB pos (byteAt s pos) → ¬ isTxt s) := Lib.hid (fun hok ht => hok (by
          have := ht.2 pos hps
          unfold okB; rw [byteAt_eq hps]; exact this))
        have HDG : Hid (dg s pos = ((s[pos]'hps).toNat : Int) - 48) := Lib.hid (by unfold dg; rw [dif_pos hps])
        have hb256 : (s[pos]'hps).toNat < 256 := UInt8.toNat_lt _
        rw [byteAt_eq hps] at HNX HNT
        by_cases h47 : pos = 4 ∨ pos = 7
        · by_cases hr : (s[pos]'hps).toNat = 45
          · have hok : okB pos (s[pos]'hps).toNat := by unfold okB; rw [if_pos h47]; exact hr
            have HP2 := Lib.hid (HNX.out hok)
            have hrb : (((s[pos]'hps).toNat : Int) != 45) = false := by simp [hr]
            have hpt := st_part (dg s) pos (by omega)
            rw [HST.out] at hpt
            have HN : Hid (st (dg s) (pos + 1) = (pt + 1, a, b, c)) := Lib.hid (by rw [st, if_pos h47, HST.out])
            have hpb : 0 ≤ pt ∧ pt ≤ 2 := by simp only at hpt; rw [hpt]; split <;> (try split) <;> omega
            clear hpt HNX HNT hok hr HDG hb256
            rcases h47 with hpos | hpos
            · subst hpos
              go_wp2_with fail
              go_roundw
              case rel => exact ⟨4 + 1, pt + 1, a, b, c, by omega, rfl, rfl, HN, c0, c1, c2, R, HP2⟩
              case measure => simp [intOf]
            · subst hpos
              go_wp2_with fail
              go_roundw
              case rel => exact ⟨7 + 1, pt + 1, a, b, c, by omega, rfl, rfl, HN, c0, c1, c2, R, HP2⟩
              case measure => simp [intOf]
          · have hnt := HNT.out (by unfold okB; rw [if_pos h47]; exact hr)
            have HE := Lib.hid (pdErr_no hnt)
            have hrb : (((s[pos]'hps).toNat : Int) != 45) = true := by rw [bne_iff_ne]; omega
            clear HNX HNT hr HDG hb256 hnt
            rcases h47 with hpos | hpos
            all_goals
              subst hpos
              go_wp2_with fail
              exact bodyPost_ret (v := .tuple #[.int .i64 0, .int .i64 25]) (by simp [results, Tryz.results23, go_sem]) rfl ⟨by rw [HE.out]; rfl, HB.out⟩
        · have hb4 : ((pos : Int) == 4) = false := by rw [beq_eq_false_iff_ne]; omega
          have hb7 : ((pos : Int) == 7) = false := by rw [beq_eq_false_iff_ne]; omega
          by_cases hr1 : 48 ≤ (s[pos]'hps).toNat
          · have hi1 : decide (((s[pos]'hps).toNat : Int) < 48) = false := decide_eq_false (by omega)
            have hj1 : (48 : Int) ≤ ((s[pos]'hps).toNat : Int) := by omega
            by_cases hr2 : (s[pos]'hps).toNat ≤ 57
            · have hi2 : decide ((57 : Int) < ((s[pos]'hps).toNat : Int)) = false := decide_eq_false (by omega)
              have hj2 : ((s[pos]'hps).toNat : Int) ≤ 57 := by omega
              have hok : okB pos (s[pos]'hps).toNat := by unfold okB; rw [if_neg h47]; exact ⟨hr1, hr2⟩
              have HP2 := Lib.hid (HNX.out hok)
              have hpt := st_part (dg s) pos (by omega)
              have hbd := st_bdp (dg s) pos (by omega) HBD.out
              have hle := bdp_le pos (by omega)
              rw [HST.out] at hpt hbd
              obtain ⟨⟨a1, a2⟩, ⟨b1, b2⟩, d1, d2⟩ := hbd
              simp only at hpt a1 a2 b1 b2 d1 d2
              have hp3 : pt = 0 ∨ pt = 1 ∨ pt = 2 := by rw [hpt]; split <;> (try split) <;> simp
              have ba : a ≤ 999999999 := by omega
              have bb : b ≤ 999999999 := by omega
              have bc : c ≤ 999999999 := by omega
              clear a2 b2 d2 hle hpt HNX HNT hok HBD
              rcases hp3 with rfl | rfl | rfl
              · have HN : Hid (st (dg s) (pos + 1) = (0, 10 * a + (((s[pos]'hps).toNat : Int) - 48), b, c)) := Lib.hid (by rw [st, if_neg h47, if_pos (by rw [HST.out]), HDG.out, HST.out])
                clear h47
                go_wp2_with fail
                go_region
                go_wp2_with fail
                go_roundw
                case rel => exact ⟨pos + 1, 0, 10 * a + (((s[pos]'hps).toNat : Int) - 48), b, c, by omega, by go_num, rfl, HN, set_same c0, set_other c1 (by simp), set_other c2 (by simp), (R.set _ _).drew, HP2⟩
                case measure => simp [intOf]; omega
              · have HN : Hid (st (dg s) (pos + 1) = (1, a, 10 * b + (((s[pos]'hps).toNat : Int) - 48), c)) := Lib.hid (by rw [st, if_neg h47, if_neg (by rw [HST.out]; simp), if_pos (by rw [HST.out]), HDG.out, HST.out])
                clear h47
                go_wp2_with fail
                go_region
                go_wp2_with fail
                go_roundw
                case rel => exact ⟨pos + 1, 1, a, 10 * b + (((s[pos]'hps).toNat : Int) - 48), c, by omega, by go_num, rfl, HN, set_other c0 (by simp), set_same c1, set_other c2 (by simp), (R.set _ _).drew, HP2⟩
                case measure => simp [intOf]; omega
              · have HN : Hid (st (dg s) (pos + 1) = (2, a, b, 10 * c + (((s[pos]'hps).toNat : Int) - 48))) := Lib.hid (by rw [st, if_neg h47, if_neg (by rw [HST.out]; simp), if_neg (by rw [HST.out]; simp), HDG.out, HST.out])
                clear h47
                go_wp2_with fail
                go_region
                go_wp2_with fail
                go_roundw
                case rel => exact ⟨pos + 1, 2, a, b, 10 * c + (((s[pos]'hps).toNat : Int) - 48), by omega, by go_num, rfl, HN, set_other c0 (by simp), set_other c1 (by simp), set_same c2, (R.set _ _).drew, HP2⟩
                case measure => simp [intOf]; omega
            · have hi2 : decide ((57 : Int) < ((s[pos]'hps).toNat : Int)) = true := decide_eq_true (by omega)
              have hnt := HNT.out (by unfold okB; rw [if_neg h47]; omega)
              have HE := Lib.hid (pdErr_no hnt)
              clear HNX HNT HDG hnt HBD h47
              go_wp2_with fail
              exact bodyPost_ret (v := .tuple #[.int .i64 0, .int .i64 25]) (by simp [results, Tryz.results23, go_sem]) rfl ⟨by rw [HE.out]; rfl, HB.out⟩
          · have hi1 : decide (((s[pos]'hps).toNat : Int) < 48) = true := decide_eq_true (by omega)
            have hnt := HNT.out (by unfold okB; rw [if_neg h47]; omega)
            have HE := Lib.hid (pdErr_no hnt)
            clear HNX HNT HDG hnt HBD h47
            go_wp2_with fail
            exact bodyPost_ret (v := .tuple #[.int .i64 0, .int .i64 25]) (by simp [results, Tryz.results23, go_sem]) rfl ⟨by rw [HE.out]; rfl, HB.out⟩
      · obtain rfl : pos = 10 := by omega
        have ht : isTxt s := txt_of HS.out HP.out
        have HE : Hid (pdErr s = dayErr a b c) := Lib.hid (by rw [pdErr_txt ht, HST.out])
        have HV : Hid (pdVal s = Cal.dn a b.toNat c) := Lib.hid (by unfold pdVal; rw [HST.out])
        clear ht R
        by_cases he : dayErr a b c = 0
        · have HZ := Lib.hid he
          obtain ⟨h1, h2, h3⟩ : (2000 ≤ a ∧ a ≤ 2273) ∧ (1 ≤ b ∧ b ≤ 12) ∧ (1 ≤ c ∧ c ≤ 31) := by
            by_cases hin : dayIn a b c = 0
            · exact dayIn_zero hin
            · unfold dayErr at he
              rw [if_pos hin] at he
              exact absurd he hin
          have HD : Hid (∀ w, Calls Tryz.prog 13 #[.int .i64 a, .int .i64 b, .int .i64 c] w fun r w' => r = .returned (.int .i64 (Cal.dn a b.toNat c)) ∧ w' = w) := Lib.hid (fun w => by
            have := qDay_any a c b.toNat w h1.1 (by omega) (by omega) (by omega) h3.1 h3.2
            rwa [Int.toNat_of_nonneg (by omega)] at this)
          clear he h1 h2 h3
          go_wp2_with fail
          refine (qCheckDate_any _ _ _ _).mono ?_
          rintro e w2 ⟨rfl, hw⟩
          rw [hw, HZ.out]
          clear hw
          go_wp2_with fail
          refine (HD.out _).mono ?_
          rintro e w2 ⟨rfl, hw⟩
          rw [hw]
          clear hw
          go_wp2_with fail
          exact bodyPost_ret (v := .tuple #[.int .i64 (Cal.dn a b.toNat c), .int .i64 0]) (by simp [results, Tryz.results23, go_sem]) rfl ⟨by rw [HE.out, HZ.out, HV.out]; rfl, HB.out⟩
        · have HZ := Lib.hid he
          have hz : (dayErr a b c != 0) = true := by rw [bne_iff_ne]; exact he
          clear he
          go_wp2_with fail
          refine (qCheckDate_any _ _ _ _).mono ?_
          rintro e w2 ⟨rfl, hw⟩
          rw [hw]
          clear hw
          go_wp2_with fail
          exact bodyPost_ret (v := .tuple #[.int .i64 0, .int .i64 (dayErr a b c)]) (by simp [results, Tryz.results23, go_sem]) rfl ⟨by rw [HE.out, num2_bad _ HZ.out], HB.out⟩
  · have hb : ((s.size : Int) != 10) = true := by rw [bne_iff_ne]; omega
    have HE := Lib.hid (pdErr_no (fun h => hs h.1))
    clear hs
    go_enter Tryz.func23, Tryz.ntmps23
    go_wp2_with fail
    go_ret2
    exact ⟨by rw [HE.out]; rfl, Below.refl _ _⟩
end Go.Proofs.YtbpoljebkhccjaaGreatDoor
