/- Contracts of package calendar: ParseDate of any text. -/
import Derived.Test.YtbpoljebkhccjaaGreatDoorParse
import Derived.Test.YtbpoljebkhccjaaGreatDoorNextB
namespace Go.Proofs.YtbpoljebkhccjaaGreatDoor
open Go Go.RowKit
def okB (i c : Nat) : Prop := if i = 4 ∨ i = 7 then c = 45 else 48 ≤ c ∧ c ≤ 57
theorem txt_of {s : ByteArray} (hs : s.size = 10) (h : ∀ i, i < 10 → okB i (byteAt s i)) : isTxt s := ⟨hs, fun i hi => by
  have := h i (by omega)
  unfold okB at this
  rwa [byteAt_eq hi] at this⟩
theorem okB_lt {i c : Nat} (h : okB i c) : c < 128 := by unfold okB at h; split at h <;> omega
theorem iterPos_of {V : World} {k p : Nat} {s : ByteArray} (h : V.heap[k]? = some (.stringIter s p)) : V.iterPos k = p := by simp [World.iterPos, h]
def partOf (pos : Nat) : Int := if pos ≤ 4 then 0 else if pos ≤ 7 then 1 else 2
theorem dig_no {r : Int} (h : ¬ (48 ≤ r ∧ r ≤ 57)) (w : World) : Calls Tryz.prog 84 #[.int .i32 r] w fun e w' => e = .returned (.bool false) ∧ w' = w :=
  (isDigit_any r w).mono fun e w' ⟨he, hw⟩ => ⟨by
    rw [he]
    by_cases h1 : 48 ≤ r
    · rw [decide_eq_false (show ¬ r ≤ 57 from fun h2 => h ⟨h1, h2⟩), Bool.and_false]
    · rw [decide_eq_false h1, Bool.false_and], hw⟩
theorem ParseDate_short (s : ByteArray) (w : World) (h : s.size ≠ 10) :
    Calls Tryz.prog 22 #[.string s] w fun r w' => r = .returned (.tuple #[.int .i64 0, .int .i64 25]) ∧ Below w.heap.size w w' := by
  have hb : ((s.size : Int) != 10) = true := by rw [bne_iff_ne]; omega
  clear h
  go_enter Tryz.func22, Tryz.ntmps22
  go_wp2_with fail
  go_ret2
  exact ⟨rfl, Below.refl _ _⟩
set_option maxRecDepth 100000 in
set_option maxHeartbeats 1000000 in
theorem ParseDate_bad (s : ByteArray) (w : World) (hs : s.size = 10) (hn : ¬ isTxt s) :
    Calls Tryz.prog 22 #[.string s] w fun r w' => r = .returned (.tuple #[.int .i64 0, .int .i64 25]) ∧ Below w.heap.size w w' := by
  have hlb : ((s.size : Int) != 10) = false := by simp [hs]
  have HS := Lib.hid hs
  have HN := Lib.hid hn
  clear hs hn
  go_enter Tryz.func22, Tryz.ntmps22
  go_wp2_with fail
  obtain ⟨W, hW, hb0, R0, k0, k1, k2, hit0⟩ : ∃ W, (w.alloc (.cells #[.int .i64 0, .int .i64 0, .int .i64 0] 22)).iter s 0 = W ∧ Below w.heap.size w W ∧ Res 3 w.heap.size W W ∧ W.cell? ⟨w.heap.size, 0, none⟩ = some (.int .i64 0) ∧ W.cell? ⟨w.heap.size, 1, none⟩ = some (.int .i64 0) ∧ W.cell? ⟨w.heap.size, 2, none⟩ = some (.int .i64 0) ∧ W.heap[w.heap.size + 1]? = some (.stringIter s 0) := by
    have hal : Below w.heap.size w (w.alloc (.cells #[.int .i64 0, .int .i64 0, .int .i64 0] 22)) := below_alloc _ _
    have hbi := below_alloc (w.alloc (.cells #[.int .i64 0, .int .i64 0, .int .i64 0] 22)) (.stringIter s 0)
    have g0 : (w.alloc (.cells #[.int .i64 0, .int .i64 0, .int .i64 0] 22)).cell? ⟨w.heap.size, 0, none⟩ = some (.int .i64 0) := by simp
    have g1 : (w.alloc (.cells #[.int .i64 0, .int .i64 0, .int .i64 0] 22)).cell? ⟨w.heap.size, 1, none⟩ = some (.int .i64 0) := by simp
    have g2 : (w.alloc (.cells #[.int .i64 0, .int .i64 0, .int .i64 0] 22)).cell? ⟨w.heap.size, 2, none⟩ = some (.int .i64 0) := by simp
    refine ⟨_, rfl, b_then hal hbi, ⟨fun i hi => ?_, fun i hi => ?_, Below.refl _ _⟩, b_old hbi g0, b_old hbi g1, b_old hbi g2, ?_⟩
    · match i, hi with
      | 0, _ => exact ⟨_, b_old hbi g0⟩
      | 1, _ => exact ⟨_, b_old hbi g1⟩
      | 2, _ => exact ⟨_, b_old hbi g2⟩
    · match i, hi with
      | 0, _ => exact b_frozen hbi g0 (by simp)
      | 1, _ => exact b_frozen hbi g1 (by simp)
      | 2, _ => exact b_frozen hbi g2 (by simp)
    · have := World.iter_heap (w.alloc (.cells #[.int .i64 0, .int .i64 0, .int .i64 0] 22)) s 0
      rwa [World.size_alloc] at this
  rw [hW]
  clear hW
  go_loopw [5] (fun p wr => ∃ (pos : Nat) (pt a b c : Int), pos ≤ 10 ∧ p = .int .i64 pt ∧ Hid (pt = partOf pos) ∧ wr.cell? ⟨w.heap.size, 0, none⟩ = some (.int .i64 a) ∧ wr.cell? ⟨w.heap.size, 1, none⟩ = some (.int .i64 b) ∧ wr.cell? ⟨w.heap.size, 2, none⟩ = some (.int .i64 c) ∧ Res 3 w.heap.size W wr ∧ wr.heap[w.heap.size + 1]? = some (.stringIter s pos) ∧ Hid (∀ i, i < pos → okB i (byteAt s i))) (fun _ wr => 10 - wr.iterPos (w.heap.size + 1))
  case atStart => exact ⟨0, 0, 0, 0, 0, by omega, rfl, Lib.hid rfl, k0, k1, k2, R0, hit0, Lib.hid (fun i hi => absurd hi (Nat.not_lt_zero _))⟩
  case round =>
    obtain ⟨pos, pt, a, b, c, hpos10, rfl, HST, c0, c1, c2, R, hit, HP⟩ := hrel
    have hp : pos < 10 := by
      rcases Nat.lt_or_ge pos 10 with h | h
      · exact h
      · obtain rfl : pos = 10 := by omega
        exact absurd (txt_of HS.out HP.out) HN.out
    have hps : pos < s.size := by rw [HS.out]; exact hp
    obtain ⟨r, p2, hnx0, hlo, hhi, hr2⟩ := next_byte (P := Tryz.prog) wr (w.heap.size + 1) pos s hit hps
    obtain ⟨W2, hnx, c0', c1', c2', R', hit'⟩ : ∃ W2, (∀ ty, (Instr.next (.pointer (some ⟨w.heap.size + 1, 0, none⟩)) true ty).run Tryz.prog wr = .ok (.tuple #[.bool true, .int .i64 pos, .int .i32 r]) W2) ∧ W2.cell? ⟨w.heap.size, 0, none⟩ = some (.int .i64 a) ∧ W2.cell? ⟨w.heap.size, 1, none⟩ = some (.int .i64 b) ∧ W2.cell? ⟨w.heap.size, 2, none⟩ = some (.int .i64 c) ∧ Res 3 w.heap.size W W2 ∧ W2.heap[w.heap.size + 1]? = some (.stringIter s p2) := by
      have hbi := nb_below wr (w.heap.size + 1) s p2
      exact ⟨_, hnx0, b_keep hbi (Nat.lt_succ_self _) c0, b_keep hbi (Nat.lt_succ_self _) c1, b_keep hbi (Nat.lt_succ_self _) c2, R.up hbi, Lib.iterAt_heap _ _ _ _ _ hit⟩
    have HMU := Lib.hid (iterPos_of hit)
    have f0 := R'.frozen 0 (by decide)
    have f1 := R'.frozen 1 (by decide)
    have f2 := R'.frozen 2 (by decide)
    have HBF : Hid (Below w.heap.size w W2) := Lib.hid (hb0.trans R'.below)
    clear hnx0 c0 c1 c2 R hps hit
    by_cases hok : okB pos (byteAt s pos)
    · obtain ⟨hr, hp2⟩ := hlo (okB_lt hok)
      subst hp2
      have HP2 : Hid (∀ i, i < pos + 1 → okB i (byteAt s i)) := Lib.hid (fun i hi => by
        rcases Nat.lt_or_ge i pos with h | h
        · exact HP.out i h
        · obtain rfl : i = pos := by omega
          exact hok)
      rw [← hr] at hok
      clear hlo hhi hr
      by_cases h47 : pos = 4 ∨ pos = 7
      · have hr : r = 45 := by unfold okB at hok; rwa [if_pos h47] at hok
        subst hr
        clear hok
        rcases h47 with hpos | hpos
        · subst hpos
          obtain rfl : pt = 0 := HST.out
          go_wp2_with fail
          go_roundw
          case rel => exact ⟨4 + 1, 1, a, b, c, by omega, rfl, Lib.hid rfl, c0', c1', c2', R', hit', HP2⟩
          case measure => rw [HMU.out, iterPos_of hit']; omega
        · subst hpos
          obtain rfl : pt = 1 := HST.out
          go_wp2_with fail
          go_roundw
          case rel => exact ⟨7 + 1, 2, a, b, c, by omega, rfl, Lib.hid rfl, c0', c1', c2', R', hit', HP2⟩
          case measure => rw [HMU.out, iterPos_of hit']; omega
      · have hb4 : ((pos : Int) == 4) = false := by rw [beq_eq_false_iff_ne]; omega
        have hb7 : ((pos : Int) == 7) = false := by rw [beq_eq_false_iff_ne]; omega
        have hr : 48 ≤ r ∧ r ≤ 57 := by unfold okB at hok; rwa [if_neg h47] at hok
        have hr1 : (48 : Int) ≤ r := by omega
        have hr2 : (r : Int) ≤ 57 := by omega
        have HST2 : Hid (pt = partOf (pos + 1)) := Lib.hid (by rw [HST.out]; unfold partOf; split <;> (try split) <;> (try split) <;> (try split) <;> first | rfl | omega)
        have hp3 : pt = 0 ∨ pt = 1 ∨ pt = 2 := by rw [HST.out]; unfold partOf; split <;> (try split) <;> simp
        clear h47 hok hr
        rcases hp3 with rfl | rfl | rfl
        · go_wp2_with (go_at_call 84; refine (isDigit_yes _ _ hr1 hr2).mono ?_; rintro e w5 ⟨rfl, hw5⟩; rw [hw5]; clear hw5)
          go_roundw
          case rel => exact ⟨pos + 1, 0, _, b, c, by omega, rfl, HST2, set_same c0', set_other c1' (by simp), set_other c2' (by simp), R'.set _ _, heap_set _ _ _ _ _ hit' (by simp), HP2⟩
          case measure => rw [HMU.out, iterPos_of (heap_set W2 ⟨w.heap.size, 0, none⟩ _ (w.heap.size + 1) _ hit' (by simp))]; omega
        · go_wp2_with (go_at_call 84; refine (isDigit_yes _ _ hr1 hr2).mono ?_; rintro e w5 ⟨rfl, hw5⟩; rw [hw5]; clear hw5)
          go_roundw
          case rel => exact ⟨pos + 1, 1, a, _, c, by omega, rfl, HST2, set_other c0' (by simp), set_same c1', set_other c2' (by simp), R'.set _ _, heap_set _ _ _ _ _ hit' (by simp), HP2⟩
          case measure => rw [HMU.out, iterPos_of (heap_set W2 ⟨w.heap.size, 1, none⟩ _ (w.heap.size + 1) _ hit' (by simp))]; omega
        · go_wp2_with (go_at_call 84; refine (isDigit_yes _ _ hr1 hr2).mono ?_; rintro e w5 ⟨rfl, hw5⟩; rw [hw5]; clear hw5)
          go_roundw
          case rel => exact ⟨pos + 1, 2, a, b, _, by omega, rfl, HST2, set_other c0' (by simp), set_other c1' (by simp), set_same c2', R'.set _ _, heap_set _ _ _ _ _ hit' (by simp), HP2⟩
          case measure => rw [HMU.out, iterPos_of (heap_set W2 ⟨w.heap.size, 2, none⟩ _ (w.heap.size + 1) _ hit' (by simp))]; omega
    · have hcs : ((pos = 4 ∨ pos = 7) ∧ r ≠ 45) ∨ (¬ (pos = 4 ∨ pos = 7) ∧ ¬ (48 ≤ (r : Int) ∧ (r : Int) ≤ 57)) := by
        unfold okB at hok
        by_cases h47 : pos = 4 ∨ pos = 7
        · rw [if_pos h47] at hok
          left
          refine ⟨h47, ?_⟩
          by_cases hc : byteAt s pos < 128
          · rw [(hlo hc).1]; exact hok
          · have := hhi (by omega); omega
        · rw [if_neg h47] at hok
          right
          refine ⟨h47, ?_⟩
          by_cases hc : byteAt s pos < 128
          · rw [(hlo hc).1]; omega
          · have := hhi (by omega); omega
      clear hlo hhi hok
      rcases hcs with ⟨h47, hr⟩ | ⟨h47, hr⟩
      · have hrb : ((r : Int) == 45) = false := by rw [beq_eq_false_iff_ne]; omega
        clear hr
        rcases h47 with hpos | hpos
        all_goals
          subst hpos
          go_wp2_with fail
          exact bodyPost_ret (v := .tuple #[.int .i64 0, .int .i64 25]) (by simp [results, Tryz.results22, go_sem]) rfl ⟨rfl, HBF.out⟩
      · have hb4 : ((pos : Int) == 4) = false := by rw [beq_eq_false_iff_ne]; omega
        have hb7 : ((pos : Int) == 7) = false := by rw [beq_eq_false_iff_ne]; omega
        have HR := Lib.hid hr
        clear hr h47
        go_wp2_with (go_at_call 84; refine (dig_no HR.out _).mono ?_; rintro e w5 ⟨rfl, hw5⟩; rw [hw5]; clear hw5)
        exact bodyPost_ret (v := .tuple #[.int .i64 0, .int .i64 25]) (by simp [results, Tryz.results22, go_sem]) rfl ⟨rfl, HBF.out⟩
noncomputable def pdErr (s : ByteArray) : Int := open Classical in if isTxt s then dayErr (st (dg s) 10).2.1 (st (dg s) 10).2.2.1 (st (dg s) 10).2.2.2 else 25
def pdVal (s : ByteArray) : Int := Cal.dn (st (dg s) 10).2.1 (st (dg s) 10).2.2.1.toNat (st (dg s) 10).2.2.2
theorem pdErr_txt {s : ByteArray} (h : isTxt s) : pdErr s = dayErr (st (dg s) 10).2.1 (st (dg s) 10).2.2.1 (st (dg s) 10).2.2.2 := by unfold pdErr; rw [if_pos h]
theorem pdErr_no {s : ByteArray} (h : ¬ isTxt s) : pdErr s = 25 := by unfold pdErr; rw [if_neg h]
theorem ParseDate_any (s : ByteArray) (w : World) (ht : HeldTab w) :
    Calls Tryz.prog 22 #[.string s] w fun r w' => r = .returned (num2 (pdErr s) (pdVal s)) ∧ Below w.heap.size w w' := by
  by_cases h : isTxt s
  · rw [pdErr_txt h]
    exact ParseDate_txt s w ht h
  · rw [pdErr_no h]
    by_cases hs : s.size = 10
    · exact ParseDate_bad s w hs h
    · exact ParseDate_short s w hs
end Go.Proofs.YtbpoljebkhccjaaGreatDoor
