/- Contracts of package message and of the reference: a number of a width is read. -/
import Derived.Test.YtlcmcknbbmokjaaGreatRmMin3
namespace Go.Proofs.YtlcmcknbbmokjaaGreat
open Go Go.RowKit Ev
theorem nv_bdK (s : ByteArray) (k : Nat) (hk : k ≤ 5) (h : ∀ i, i < k → 48 ≤ byteAt s i ∧ byteAt s i ≤ 57) : 0 ≤ nv s k ∧ nv s k ≤ 99999 ∧ (k ≤ 4 → nv s k ≤ 9999) := by
  by_cases h4 : k ≤ 4
  · obtain ⟨a, b, _⟩ := nv_bd s k h4 h
    exact ⟨a, by omega, fun _ => b⟩
  · obtain rfl : k = 5 := by omega
    obtain ⟨a, b, _⟩ := nv_bd s 4 (by omega) (fun i hi => h i (by omega))
    have := h 4 (by omega)
    simp only [nv] at *
    exact ⟨by omega, by omega, fun h => by omega⟩
def allK (s : ByteArray) (K : Nat) : Prop := s.size = K ∧ ∀ i, i < K → 48 ≤ byteAt s i ∧ byteAt s i ≤ 57
instance (s : ByteArray) (K : Nat) : Decidable (allK s K) := by unfold allK; infer_instance
def numOutK (s : ByteArray) (K : Nat) : Value := if allK s K then .tuple #[.int .i64 (nv s K), .bool true] else .tuple #[.int .i64 0, .bool false]
def qNumK (s : ByteArray) (K : Nat) : Int := if allK s K then nv s K else -1
set_option maxRecDepth 100000 in
set_option maxHeartbeats 1000000 in
theorem numberK_any (s : ByteArray) (K : Nat) (h1K : 1 ≤ K) (hK : K ≤ 5) (w : World) :
    Calls Tryz.prog 113 #[.string s, .int .i64 K] w fun e w' => e = .returned (numOutK s K) ∧ Below w.heap.size w w' := by
  by_cases h4 : s.size = K
  · have hb : ((s.size : Int) != (K : Int)) = false := by simp [h4]
    have HS := Lib.hid h4
    have HNO : Hid (∀ i, i < K → ¬ (48 ≤ byteAt s i ∧ byteAt s i ≤ 57) → numOutK s K = .tuple #[.int .i64 0, .bool false]) := Lib.hid fun i hi h => by unfold numOutK; rw [if_neg (fun hd => h (hd.2 i hi))]
    have HYES : Hid ((∀ i, i < K → 48 ≤ byteAt s i ∧ byteAt s i ≤ 57) → numOutK s K = .tuple #[.int .i64 (nv s K), .bool true]) := Lib.hid fun h => by unfold numOutK; rw [if_pos ⟨h4, h⟩]
    clear h4
    go_enter Tryz.func113, Tryz.ntmps113
    go_wp2_with fail
    obtain ⟨W, hW, hb0, hit0⟩ : ∃ W, w.iter s 0 = W ∧ Below w.heap.size w W ∧ W.heap[w.heap.size]? = some (.stringIter s 0) := ⟨_, rfl, below_alloc _ _, World.iter_heap w s 0⟩
    rw [hW]
    clear hW
    go_loopw [6] (fun n wr => ∃ pos : Nat, pos ≤ K ∧ n = .int .i64 (nv s pos) ∧ Hid (∀ i, i < pos → 48 ≤ byteAt s i ∧ byteAt s i ≤ 57) ∧ Below w.heap.size w wr ∧ wr.heap[w.heap.size]? = some (.stringIter s pos)) (fun _ wr => s.size - wr.iterPos w.heap.size)
    case atStart => exact ⟨0, Nat.zero_le _, rfl, Lib.hid (fun i hi => absurd hi (Nat.not_lt_zero _)), hb0, hit0⟩
    case round =>
      obtain ⟨pos, hps, rfl, HP, hbr, hit⟩ := hrel
      by_cases hp4 : pos < K
      · have hp : pos < s.size := by rw [HS.out]; exact hp4
        obtain ⟨r, p2, hnx0, hlo, hhi, hr2⟩ := next_byte (P := Tryz.prog) wr w.heap.size pos s hit hp
        obtain ⟨W2, hnx, hb2', hit2⟩ : ∃ W2, (∀ ty, (Instr.next (.pointer (some ⟨w.heap.size, 0, none⟩)) true ty).run Tryz.prog wr = .ok (.tuple #[.bool true, .int .i64 pos, .int .i32 r]) W2) ∧ Below w.heap.size w W2 ∧ W2.heap[w.heap.size]? = some (.stringIter s p2) :=
          ⟨_, hnx0, hbr.trans (nb_below _ _ _ _), Lib.iterAt_heap _ _ _ _ _ hit⟩
        clear hnx0
        have hmu : wr.iterPos w.heap.size = pos := by simp [World.iterPos, hit]
        have hmu2 : W2.iterPos w.heap.size = p2 := by simp [World.iterPos, hit2]
        have HMU := Lib.hid hmu; have HMU2 := Lib.hid hmu2
        clear hmu hmu2 hit
        by_cases hok : 48 ≤ byteAt s pos ∧ byteAt s pos ≤ 57
        · obtain ⟨hr, hp2⟩ := hlo (by omega)
          subst hr hp2
          have HP2 : Hid (∀ i, i < pos + 1 → 48 ≤ byteAt s i ∧ byteAt s i ≤ 57) := Lib.hid (fun i hi => by
            rcases Nat.lt_or_ge i pos with h | h
            · exact HP.out i h
            · obtain rfl : i = pos := by omega
              exact hok)
          obtain ⟨n0, _, n3⟩ := nv_bdK s pos (by omega) HP.out
          have n3' := n3 (by omega)
          have HN : Hid (nv s (pos + 1) = 10 * nv s pos + ((byteAt s pos : Int) - 48)) := Lib.hid rfl
          generalize nv s pos = n at *
          generalize byteAt s pos = r at *
          have c1 : decide ((r : Int) < 48) = false := decide_eq_false (by omega)
          have c2 : decide ((57 : Int) < r) = false := decide_eq_false (by omega)
          have b1 : (48 : Int) ≤ r := by omega
          have b2 : (r : Int) ≤ 57 := by omega
          clear n3 hlo hhi hok
          go_wp2_with fail
          go_roundw
          case rel => exact ⟨pos + 1, by omega, by rw [HN.out], HP2, hb2', hit2⟩
          case measure => rw [HMU.out, HMU2.out, HS.out]; omega
        · have HB := Lib.hid (HNO.out pos hp4 hok)
          have hbad : (r : Int) < 48 ∨ (¬ (r : Int) < 48 ∧ (57 : Int) < r) := by
            by_cases hc : byteAt s pos < 128
            · rw [(hlo hc).1]; omega
            · have := hhi (by omega); omega
          clear hlo hhi hok
          rcases hbad with h | ⟨h, h'⟩
          · have c1 : decide ((r : Int) < 48) = true := decide_eq_true h
            go_wp2_with fail
            go_ret2
            exact ⟨by rw [HB.out]; rfl, hb2'⟩
          · have c1 : decide ((r : Int) < 48) = false := decide_eq_false h
            have c2 : decide ((57 : Int) < r) = true := decide_eq_true h'
            go_wp2_with fail
            go_ret2
            exact ⟨by rw [HB.out]; rfl, hb2'⟩
      · obtain rfl : pos = K := by omega
        have HB := Lib.hid (HYES.out HP.out)
        have hend : ¬ pos < s.size := by rw [HS.out]; omega
        have hnx : ∀ ty, (Instr.next (.pointer (some ⟨w.heap.size, 0, none⟩)) true ty).run Tryz.prog wr = _ := fun ty => Lib.run_next_end_at wr w.heap.size s pos ty hit hend
        generalize nv s pos = n at *
        go_wp2_with fail
        go_ret2
        exact ⟨by rw [HB.out]; rfl, hbr⟩
  · have hb : ((s.size : Int) != (K : Int)) = true := by rw [bne_iff_ne]; omega
    have HO : Hid (numOutK s K = .tuple #[.int .i64 0, .bool false]) := Lib.hid (by unfold numOutK; rw [if_neg (fun hd => h4 hd.1)])
    clear h4
    go_enter Tryz.func113, Tryz.ntmps113
    go_wp2_with fail
    go_ret2
    exact ⟨by rw [HO.out]; rfl, Below.refl _ _⟩
set_option maxRecDepth 100000 in
set_option maxHeartbeats 1000000 in
theorem qdigitsK_any (s : ByteArray) (K : Nat) (h1K : 1 ≤ K) (hK : K ≤ 5) (w : World) :
    Calls Tryz.prog 66 #[.string s, .int .i64 K] w fun e w' => e = .returned (.int .i64 (qNumK s K)) ∧ w' = w := by
  by_cases h4 : s.size = K
  · have hb : ((s.size : Int) != (K : Int)) = false := by simp [h4]
    have HS := Lib.hid h4
    have HNO : Hid (∀ i, i < K → ¬ (48 ≤ byteAt s i ∧ byteAt s i ≤ 57) → qNumK s K = -1) := Lib.hid fun i hi h => by unfold qNumK; rw [if_neg (fun hd => h (hd.2 i hi))]
    have HYES : Hid ((∀ i, i < K → 48 ≤ byteAt s i ∧ byteAt s i ≤ 57) → qNumK s K = nv s K) := Lib.hid fun h => by unfold qNumK; rw [if_pos ⟨h4, h⟩]
    have hs4 : (s.size : Int) = K := by omega
    clear h4
    go_enter Tryz.func66, Tryz.ntmps66
    go_wp2_with fail
    go_loopw [5, 6] (fun n i wr => ∃ pos : Nat, pos ≤ K ∧ n = .int .i64 (nv s pos) ∧ i = .int .i64 pos ∧ Hid (∀ i, i < pos → 48 ≤ byteAt s i ∧ byteAt s i ≤ 57) ∧ wr = w) (fun _ i _ => K - (intOf i).toNat)
    case atStart => exact ⟨0, Nat.zero_le _, rfl, rfl, Lib.hid (fun i hi => absurd hi (Nat.not_lt_zero _)), rfl⟩
    case round =>
      obtain ⟨pos, hps, rfl, rfl, HP, rfl⟩ := hrel
      by_cases hp4 : pos < K
      · have hps2 : pos < s.size := by rw [HS.out]; exact hp4
        have HBY : Hid (byteAt s pos = (s[pos]'hps2).toNat) := Lib.hid (byteAt_eq hps2)
        have hb256 : (s[pos]'hps2).toNat < 256 := UInt8.toNat_lt _
        by_cases hok : 48 ≤ byteAt s pos ∧ byteAt s pos ≤ 57
        · have HP2 : Hid (∀ i, i < pos + 1 → 48 ≤ byteAt s i ∧ byteAt s i ≤ 57) := Lib.hid (fun i hi => by
            rcases Nat.lt_or_ge i pos with h | h
            · exact HP.out i h
            · obtain rfl : i = pos := by omega
              exact hok)
          obtain ⟨n0, _, n3⟩ := nv_bdK s pos (by omega) HP.out
          have n3' := n3 (by omega)
          have HN : Hid (nv s (pos + 1) = 10 * nv s pos + (((s[pos]'hps2).toNat : Int) - 48)) := Lib.hid (by rw [← HBY.out]; rfl)
          rw [HBY.out] at hok
          have c1 : decide (((s[pos]'hps2).toNat : Int) < 48) = false := decide_eq_false (by omega)
          have c2 : decide ((57 : Int) < ((s[pos]'hps2).toNat : Int)) = false := decide_eq_false (by omega)
          have b1 : (48 : Int) ≤ ((s[pos]'hps2).toNat : Int) := by omega
          have b2 : ((s[pos]'hps2).toNat : Int) ≤ 57 := by omega
          have b0 : (pos : Int) < s.size := by omega
          generalize nv s pos = n at *
          clear n3 hok
          go_wp2_with fail
          go_roundw
          case rel => exact ⟨pos + 1, by omega, by rw [HN.out], by go_num, HP2, trivial⟩
          case measure => simp [intOf]; omega
        · have HB := Lib.hid (HNO.out pos hp4 hok)
          rw [HBY.out] at hok
          have b0 : (pos : Int) < s.size := by omega
          have hbad : ((s[pos]'hps2).toNat : Int) < 48 ∨ (¬ ((s[pos]'hps2).toNat : Int) < 48 ∧ (57 : Int) < ((s[pos]'hps2).toNat : Int)) := by omega
          clear hok
          rcases hbad with h | ⟨h, h'⟩
          · have c1 : decide (((s[pos]'hps2).toNat : Int) < 48) = true := decide_eq_true h
            go_wp2_with fail
            go_ret
            exact ⟨by rw [HB.out]; rfl, rfl⟩
          · have c1 : decide (((s[pos]'hps2).toNat : Int) < 48) = false := decide_eq_false h
            have c2 : decide ((57 : Int) < ((s[pos]'hps2).toNat : Int)) = true := decide_eq_true h'
            go_wp2_with fail
            go_ret
            exact ⟨by rw [HB.out]; rfl, rfl⟩
      · obtain rfl : pos = K := by omega
        have HB := Lib.hid (HYES.out HP.out)
        generalize nv s pos = n at *
        go_wp2_with fail
        go_ret
        exact ⟨by rw [HB.out]; rfl, rfl⟩
  · have hb : ((s.size : Int) != (K : Int)) = true := by rw [bne_iff_ne]; omega
    have HO : Hid (qNumK s K = -1) := Lib.hid (by unfold qNumK; rw [if_neg (fun hd => h4 hd.1)])
    clear h4
    go_enter Tryz.func66, Tryz.ntmps66
    go_wp2_with fail
    go_ret
    exact ⟨by rw [HO.out]; rfl, rfl⟩
end Go.Proofs.YtlcmcknbbmokjaaGreat
