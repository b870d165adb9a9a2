/- Contracts: ParseMask, of package calendar and of the reference. -/
import Derived.Test.YtlcmcknbbmokjaaGreatPm4
namespace Go.Proofs.YtlcmcknbbmokjaaGreat
open Go Go.RowKit
def pmErr (s : ByteArray) : Int := if pmV s = 0 then 25 else 0
theorem pmV_bad {s : ByteArray} (h : ¬ maskForm s) : pmV s = 0 := by unfold pmV; rw [if_neg h]
theorem pmV_good {s : ByteArray} (h : maskForm s) : pmV s = mk s 7 := by unfold pmV; rw [if_pos h]
set_option maxRecDepth 100000 in
set_option maxHeartbeats 1000000 in
theorem ParseMask_any (s : ByteArray) (w : World) :
    Calls Tryz.prog 134 #[.string s] w fun r w' => r = .returned (.tuple #[.int .i64 (pmV s : Nat), .int .i64 (pmErr s)]) ∧ Below w.heap.size w w' := by
  by_cases h7 : s.size = 7
  · have hb : ((s.size : Int) != 7) = false := by simp [h7]
    have HS := Lib.hid h7
    clear h7
    go_enter Tryz.func134, Tryz.ntmps134
    go_wp2_with fail
    obtain ⟨W, hW, hb0, hit0⟩ : ∃ W, w.iter s 0 = W ∧ Below w.heap.size w W ∧ W.heap[w.heap.size]? = some (.stringIter s 0) := ⟨_, rfl, below_alloc _ _, World.iter_heap w s 0⟩
    rw [hW]
    clear hW
    go_loopw [4] (fun m wr => ∃ pos : Nat, pos ≤ 7 ∧ m = .int .i64 (mk s pos : Nat) ∧ Hid (∀ i, i < pos → byteAt s i = 48 ∨ byteAt s i = 49 + i) ∧ Below w.heap.size w wr ∧ wr.heap[w.heap.size]? = some (.stringIter s pos)) (fun _ wr => 7 - wr.iterPos w.heap.size)
    case atStart => exact ⟨0, Nat.zero_le _, rfl, Lib.hid (fun i hi => absurd hi (Nat.not_lt_zero _)), hb0, hit0⟩
    case round =>
      obtain ⟨pos, hps, rfl, HP, hbr, hit⟩ := hrel
      by_cases hp : pos < 7
      · have hpz : pos < s.size := by rw [HS.out]; exact hp
        obtain ⟨r, p2, hnx0, hlo, hhi, hr2⟩ := next_byte (P := Tryz.prog) wr w.heap.size pos s hit hpz
        obtain ⟨W2, hnx, hb2', hit2⟩ : ∃ W2, (∀ ty, (Instr.next (.pointer (some ⟨w.heap.size, 0, none⟩)) true ty).run Tryz.prog wr = .ok (.tuple #[.bool true, .int .i64 pos, .int .i32 r]) W2) ∧ Below w.heap.size w W2 ∧ W2.heap[w.heap.size]? = some (.stringIter s p2) :=
          ⟨_, hnx0, hbr.trans (nb_below _ _ _ _), Lib.iterAt_heap _ _ _ _ _ hit⟩
        clear hnx0
        have HMU : Hid (wr.iterPos w.heap.size = pos) := Lib.hid (by simp [World.iterPos, hit])
        have HMU2 : Hid (W2.iterPos w.heap.size = p2) := Lib.hid (by simp [World.iterPos, hit2])
        clear hit
        by_cases hok : byteAt s pos = 48 ∨ byteAt s pos = 49 + pos
        · obtain ⟨hr, hp2⟩ := hlo (by omega)
          subst hp2
          have HP2 : Hid (∀ i, i < pos + 1 → byteAt s i = 48 ∨ byteAt s i = 49 + i) := Lib.hid (fun i hi => by
            rcases Nat.lt_or_ge i pos with h | h
            · exact HP.out i h
            · obtain rfl : i = pos := by omega
              exact hok)
          rw [← hr] at hok
          have HN : Hid (mk s (pos + 1) = mk s pos + (if r = 49 + pos then 2 ^ pos else 0)) := Lib.hid (by rw [hr]; rfl)
          have HO := Lib.hid (or_bit pos hp (mk s pos) (mk_bd s pos))
          have hmb := mk_bd s pos
          clear hlo hhi hr hpz
          generalize hm : mk s pos = m at *
          clear hm
          rcases hok with rfl | rfl
          · have HN2 : Hid (mk s (pos + 1) = m) := Lib.hid (by rw [HN.out, if_neg (by omega)]; rfl)
            clear HN HO
            go_wp2_with fail
            go_roundw
            case rel => exact ⟨pos + 1, by omega, by rw [HN2.out], HP2, hb2', hit2⟩
            case measure => rw [HMU.out, HMU2.out]; omega
          · have HN2 : Hid (mk s (pos + 1) = m + 2 ^ pos) := Lib.hid (by rw [HN.out, if_pos rfl])
            have ho := HO.out
            clear HN HO
            obtain rfl | rfl | rfl | rfl | rfl | rfl | rfl : pos = 0 ∨ pos = 1 ∨ pos = 2 ∨ pos = 3 ∨ pos = 4 ∨ pos = 5 ∨ pos = 6 := by omega
            all_goals
              go_wp2_with fail
              go_roundw
              case rel => exact ⟨_, by omega, by rw [HN2.out, ← ho]; rfl, HP2, hb2', hit2⟩
              case measure => rw [HMU.out, HMU2.out]; omega
        · have HB : Hid (pmV s = 0) := Lib.hid (pmV_bad fun h => hok (h.2 pos hp))
          have hne : r ≠ 48 ∧ r ≠ 49 + pos := by
            by_cases hc : byteAt s pos < 128
            · rw [(hlo hc).1]; omega
            · have := hhi (by omega); omega
          have q1 : ((r : Int) == 48) = false := by rw [beq_eq_false_iff_ne]; omega
          have q2 : ((r : Int) == 49 + (pos : Int)) = false := by rw [beq_eq_false_iff_ne]; omega
          clear hlo hhi hok hne
          go_wp2_with fail
          go_ret2
          exact ⟨by unfold pmErr; rw [HB.out]; rfl, hb2'⟩
      · obtain rfl : pos = 7 := by omega
        have HF : Hid (pmV s = mk s 7) := Lib.hid (pmV_good ⟨HS.out, HP.out⟩)
        have hnx : ∀ ty, (Instr.next (.pointer (some ⟨w.heap.size, 0, none⟩)) true ty).run Tryz.prog wr = _ := fun ty => Lib.run_next_end_at wr w.heap.size s 7 ty hit (by rw [HS.out]; omega)
        have HE : Hid (pmErr s = if mk s 7 = 0 then 25 else 0) := Lib.hid (by unfold pmErr; rw [HF.out])
        generalize mk s 7 = m at *
        by_cases hm : m = 0
        · subst hm
          go_wp2_with (go_at_call 84; refine (unless_any _ _ _).mono ?_; rintro e w' ⟨rfl, hw⟩; rw [hw]; clear hw)
          go_ret2
          exact ⟨by rw [HE.out, HF.out]; rfl, hbr⟩
        · have hmb : ((m : Int) != 0) = true := by rw [bne_iff_ne]; omega
          have HM : Hid (m ≠ 0) := Lib.hid hm
          clear hm
          go_wp2_with (go_at_call 84; refine (unless_any _ _ _).mono ?_; rintro e w' ⟨rfl, hw⟩; rw [hw]; clear hw)
          go_ret2
          exact ⟨by rw [HE.out, HF.out, if_neg HM.out]; rfl, hbr⟩
  · have HB : Hid (pmV s = 0) := Lib.hid (pmV_bad fun h => h7 h.1)
    have hb : ((s.size : Int) != 7) = true := by rw [bne_iff_ne]; omega
    clear h7
    go_enter Tryz.func134, Tryz.ntmps134
    go_wp2_with fail
    go_ret2
    exact ⟨by unfold pmErr; rw [HB.out]; rfl, Below.refl _ _⟩
set_option maxRecDepth 100000 in
theorem qParseMask_any (s : ByteArray) (w : World) :
    Calls Tryz.prog 65 #[.string s] w fun r w' => r = .returned (.tuple #[.int .i64 (pmV s : Nat), .int .i64 (pmErr s)]) ∧ w' = w := by
  go_enter Tryz.func65, Tryz.ntmps65
  go_wp2_with fail
  go_loop [4] (fun i => ∃ k : Nat, 1 ≤ k ∧ k ≤ 128 ∧ i = .int .i64 k ∧ Hid (∀ m, 1 ≤ m → m < k → pmV s ≠ m)) (fun i => 128 - (intOf i).toNat)
  case atStart => exact ⟨1, by omega, by omega, rfl, Lib.hid (fun m h1 h2 => by omega)⟩
  case round =>
    obtain ⟨k, hk1, hk2, rfl, HP⟩ := hrel
    by_cases hlt : k < 128
    · have HE := Lib.hid (mask_eq s k hk1 hlt)
      by_cases he : pmV s = k
      · have hq : ((maskT k).toList == s.toList) = true := by rw [HE.out]; exact decide_eq_true he
        have HQ := Lib.hid he
        clear he HE
        go_wp2_with fail
        refine (qPrintMask_any k _ (by omega)).mono ?_
        rintro e w2 ⟨rfl, hw⟩
        rw [hw]
        clear hw
        go_wp2_with fail
        go_ret2
        exact ⟨by unfold pmErr; rw [HQ.out, if_neg (by omega)]; rfl, rfl⟩
      · have hq : ((maskT k).toList == s.toList) = false := by rw [HE.out]; exact decide_eq_false he
        have HP2 : Hid (∀ m, 1 ≤ m → m < k + 1 → pmV s ≠ m) := Lib.hid (fun m h1 h2 => by
          rcases Nat.lt_or_ge m k with h | h
          · exact HP.out m h1 h
          · obtain rfl : m = k := by omega
            exact he)
        clear he HE
        go_wp2_with fail
        refine (qPrintMask_any k _ (by omega)).mono ?_
        rintro e w2 ⟨rfl, hw⟩
        rw [hw]
        clear hw
        go_wp2_with fail
        go_round
        case rel => exact ⟨k + 1, by omega, by omega, by go_num, HP2⟩
        case measure => simp [intOf]; omega
    · obtain rfl : k = 128 := by omega
      have HB := Lib.hid (pmV_none HP.out)
      go_wp2_with fail
      go_ret2
      exact ⟨by unfold pmErr; rw [HB.out]; rfl, rfl⟩
end Go.Proofs.YtlcmcknbbmokjaaGreat
