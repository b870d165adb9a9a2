/- Contracts of package calendar: ParseDate of a text that has its form. -/
import Derived.Test.YtoaimgfekbnijaaDoorCal3
import Derived.Laws.RangeString
import Derived.Lib.OthersKept
import Derived.OwnWalk
namespace Go.Proofs.YtoaimgfekbnijaaDoor
open Go.RowKit
theorem isDigit_any (r : Int) (w : World) :
    Calls Tryd.prog 71 #[.int .i32 r] w fun e w' => e = .returned (.bool (decide (48 ≤ r) && decide (r ≤ 57))) ∧ w' = w := by
  by_cases h1 : 48 ≤ r
  · go_enter Tryd.func71, Tryd.ntmps71
    go_wp2
    go_ret
    exact ⟨by simp [h1], rfl⟩
  · have hd : decide (48 ≤ r) = false := by simpa using h1
    clear h1
    go_enter Tryd.func71, Tryd.ntmps71
    go_wp2
    go_ret
    exact ⟨by simp [hd], rfl⟩
theorem isDigit_yes (r : Int) (w : World) (h1 : 48 ≤ r) (h2 : r ≤ 57) :
    Calls Tryd.prog 71 #[.int .i32 r] w fun e w' => e = .returned (.bool true) ∧ w' = w :=
  (isDigit_any r w).mono fun e w' ⟨he, hw⟩ => ⟨by rw [he, decide_eq_true h1, decide_eq_true h2]; rfl, hw⟩
/-- The part and the three numbers ahead of byte k. -/
def st (f : Nat → Int) : Nat → Int × Int × Int × Int
  | 0 => (0, 0, 0, 0)
  | k + 1 => if k = 4 ∨ k = 7 then ((st f k).1 + 1, (st f k).2) else if (st f k).1 = 0 then ((st f k).1, 10 * (st f k).2.1 + f k, (st f k).2.2) else if (st f k).1 = 1 then ((st f k).1, (st f k).2.1, 10 * (st f k).2.2.1 + f k, (st f k).2.2.2) else ((st f k).1, (st f k).2.1, (st f k).2.2.1, 10 * (st f k).2.2.2 + f k)
theorem st_part (f : Nat → Int) (k : Nat) (h : k ≤ 10) : (st f k).1 = if k ≤ 4 then 0 else if k ≤ 7 then 1 else 2 := by
  induction k with
  | zero => rfl
  | succ j ih =>
    have := ih (by omega)
    unfold st
    split
    · rename_i hj; rcases hj with rfl | rfl <;> simp [this]
    · split
      · show (st f j).1 = _
        rw [this]; rename_i hj _; split <;> split <;> omega
      · split
        · show (st f j).1 = _
          rw [this]; rename_i hj _ _; split <;> (try split) <;> (try split) <;> omega
        · show (st f j).1 = _
          rw [this]; rename_i hj _ _; split <;> (try split) <;> (try split) <;> omega
def bdp : Nat → Int
  | 0 => 0
  | k + 1 => 10 * bdp k + 9
theorem bdp_pos (k : Nat) : 0 ≤ bdp k := by induction k with
  | zero => decide
  | succ j ih => unfold bdp; omega
theorem bdp_le (k : Nat) (h : k ≤ 9) : bdp k ≤ 999999999 := by
  match k, h with
  | 0, _ | 1, _ | 2, _ | 3, _ | 4, _ | 5, _ | 6, _ | 7, _ | 8, _ | 9, _ => decide
theorem st_bd (f : Nat → Int) (hf : ∀ i, i < 10 → i ≠ 4 → i ≠ 7 → 0 ≤ f i ∧ f i ≤ 9) (k : Nat) (h : k ≤ 10) :
    (0 ≤ (st f k).2.1 ∧ (st f k).2.1 ≤ bdp k) ∧ (0 ≤ (st f k).2.2.1 ∧ (st f k).2.2.1 ≤ bdp k) ∧ 0 ≤ (st f k).2.2.2 ∧ (st f k).2.2.2 ≤ bdp k := by
  induction k with
  | zero => simp [st, bdp]
  | succ j ih =>
    have hb := bdp_pos j
    obtain ⟨⟨a1, a2⟩, ⟨b1, b2⟩, c1, c2⟩ := ih (by omega)
    have hbs : bdp (j + 1) = 10 * bdp j + 9 := rfl
    rw [hbs]
    unfold st
    split
    · exact ⟨⟨a1, by show (st f j).2.1 ≤ _; omega⟩, ⟨b1, by show (st f j).2.2.1 ≤ _; omega⟩, c1, by show (st f j).2.2.2 ≤ _; omega⟩
    · rename_i hj
      have := hf j (by omega) (by omega) (by omega)
      split
      · exact ⟨⟨by show 0 ≤ 10 * (st f j).2.1 + f j; omega, by show 10 * (st f j).2.1 + f j ≤ _; omega⟩, ⟨b1, by show (st f j).2.2.1 ≤ _; omega⟩, c1, by show (st f j).2.2.2 ≤ _; omega⟩
      · split
        · exact ⟨⟨a1, by show (st f j).2.1 ≤ _; omega⟩, ⟨by show 0 ≤ 10 * (st f j).2.2.1 + f j; omega, by show 10 * (st f j).2.2.1 + f j ≤ _; omega⟩, c1, by show (st f j).2.2.2 ≤ _; omega⟩
        · exact ⟨⟨a1, by show (st f j).2.1 ≤ _; omega⟩, ⟨b1, by show (st f j).2.2.1 ≤ _; omega⟩, by show 0 ≤ 10 * (st f j).2.2.2 + f j; omega, by show 10 * (st f j).2.2.2 + f j ≤ _; omega⟩
theorem iterAt_below (V : World) (k : Nat) (s : ByteArray) (pos : Nat) : Below k V (World.iterAt V k s pos) := ⟨rfl, rfl, rfl, by simp [World.iterAt], fun j hj => by
  simp only [World.iterAt]
  rw [Array.getElem?_setIfInBounds, if_neg (by omega)]⟩
theorem heap_set (V : World) (a : Addr) (v : Value) (k : Nat) (o : Obj) (h : V.heap[k]? = some o) (hne : k ≠ a.block) : (V.setCell a v).heap[k]? = some o := by rw [Below.heap_setCell _ _ _ _ hne]; exact h
def dg (s : ByteArray) (i : Nat) : Int := if h : i < s.size then ((s[i]'h).toNat : Int) - 48 else 0
/-- A text in the form of a date. -/
def isTxt (s : ByteArray) : Prop := s.size = 10 ∧ ∀ i (h : i < s.size), if i = 4 ∨ i = 7 then (s[i]'h).toNat = 45 else 48 ≤ (s[i]'h).toNat ∧ (s[i]'h).toNat ≤ 57
set_option maxRecDepth 100000 in
set_option maxHeartbeats 1000000 in
theorem ParseDate_txt (s : ByteArray) (w : World) (ht : HeldTab w) (hs : isTxt s) :
    Calls Tryd.prog 28 #[.string s] w fun r w' => r = .returned (num2 (dayErr (st (dg s) 10).2.1 (st (dg s) 10).2.2.1 (st (dg s) 10).2.2.2) (Cal.dn (st (dg s) 10).2.1 (st (dg s) 10).2.2.1.toNat (st (dg s) 10).2.2.2)) ∧ Below w.heap.size w w' := by
  obtain ⟨hsz, hby⟩ := hs
  have hs10 : (s.size : Int) = 10 := by omega
  have hlb : ((s.size : Int) != 10) = false := by simp [hsz]
  have HS := Lib.hid hsz
  have HBY := Lib.hid hby
  clear hsz hby hs10
  go_enter Tryd.func28, Tryd.ntmps28
  go_wp2_with fail
  obtain ⟨W, hW, hb0, R0, k0, k1, k2, hit0⟩ : ∃ W, (w.alloc (.cells #[.int .i64 0, .int .i64 0, .int .i64 0] 45)).iter s 0 = W ∧ Below w.heap.size w W ∧ Res 3 w.heap.size W W ∧ W.cell? ⟨w.heap.size, 0, none⟩ = some (.int .i64 0) ∧ W.cell? ⟨w.heap.size, 1, none⟩ = some (.int .i64 0) ∧ W.cell? ⟨w.heap.size, 2, none⟩ = some (.int .i64 0) ∧ W.heap[w.heap.size + 1]? = some (.stringIter s 0) := by
    have hal : Below w.heap.size w (w.alloc (.cells #[.int .i64 0, .int .i64 0, .int .i64 0] 45)) := below_alloc _ _
    have hbi := below_alloc (w.alloc (.cells #[.int .i64 0, .int .i64 0, .int .i64 0] 45)) (.stringIter s 0)
    have g0 : (w.alloc (.cells #[.int .i64 0, .int .i64 0, .int .i64 0] 45)).cell? ⟨w.heap.size, 0, none⟩ = some (.int .i64 0) := by simp
    have g1 : (w.alloc (.cells #[.int .i64 0, .int .i64 0, .int .i64 0] 45)).cell? ⟨w.heap.size, 1, none⟩ = some (.int .i64 0) := by simp
    have g2 : (w.alloc (.cells #[.int .i64 0, .int .i64 0, .int .i64 0] 45)).cell? ⟨w.heap.size, 2, none⟩ = some (.int .i64 0) := by simp
    refine ⟨_, rfl, b_then hal hbi, ⟨fun i hi => ?_, fun i hi => ?_, Below.refl _ _⟩, b_old hbi g0, b_old hbi g1, b_old hbi g2, ?_⟩
    · match i, hi with
      | 0, _ => exact ⟨_, b_old hbi g0⟩
      | 1, _ => exact ⟨_, b_old hbi g1⟩
      | 2, _ => exact ⟨_, b_old hbi g2⟩
    · match i, hi with
      | 0, _ => exact b_frozen hbi g0 (by simp)
      | 1, _ => exact b_frozen hbi g1 (by simp)
      | 2, _ => exact b_frozen hbi g2 (by simp)
    · have := World.iter_heap (w.alloc (.cells #[.int .i64 0, .int .i64 0, .int .i64 0] 45)) s 0
      rwa [World.size_alloc] at this
  rw [hW]
  clear hW
  have HF : Hid (∀ i, i < 10 → i ≠ 4 → i ≠ 7 → 0 ≤ dg s i ∧ dg s i ≤ 9) := Lib.hid (fun i hi h4 h7 => by
    have hi' : i < s.size := by rw [HS.out]; exact hi
    have := HBY.out i hi'
    rw [if_neg (by omega)] at this
    unfold dg; rw [dif_pos hi']; omega)
  go_loopw [5] (fun p wr => ∃ (pos : Nat) (pt a b c : Int), pos ≤ 10 ∧ p = .int .i64 pt ∧ Hid (st (dg s) pos = (pt, a, b, c)) ∧ wr.cell? ⟨w.heap.size, 0, none⟩ = some (.int .i64 a) ∧ wr.cell? ⟨w.heap.size, 1, none⟩ = some (.int .i64 b) ∧ wr.cell? ⟨w.heap.size, 2, none⟩ = some (.int .i64 c) ∧ Res 3 w.heap.size W wr ∧ wr.heap[w.heap.size + 1]? = some (.stringIter s pos)) (fun _ wr => 10 - wr.iterPos (w.heap.size + 1))
  case atStart => exact ⟨0, 0, 0, 0, 0, by omega, rfl, Lib.hid rfl, k0, k1, k2, R0, hit0⟩
  case round =>
    obtain ⟨pos, pt, a, b, c, hpos10, rfl, HST, c0, c1, c2, R, hit⟩ := hrel
    by_cases hp : pos < 10
    · have hps : pos < s.size := by rw [HS.out]; exact hp
      have hrb := HBY.out pos hps
      have hdg : dg s pos = ((s[pos]'hps).toNat : Int) - 48 := by unfold dg; rw [dif_pos hps]
      have ha : (s[pos]'hps).toNat < 128 := by split at hrb <;> omega
      have hnx0 : ∀ ty, (Instr.next (.pointer (some ⟨w.heap.size + 1, 0, none⟩)) true ty).run Tryd.prog wr = _ := fun ty => Lib.run_next_ascii_at wr (w.heap.size + 1) s pos ty hit hps ha
      obtain ⟨W2, hnx, c0', c1', c2', R', hit'⟩ : ∃ W2, (∀ ty, (Instr.next (.pointer (some ⟨w.heap.size + 1, 0, none⟩)) true ty).run Tryd.prog wr = .ok (.tuple #[.bool true, .int .i64 pos, .int .i32 (s[pos]'hps).toNat]) W2) ∧ W2.cell? ⟨w.heap.size, 0, none⟩ = some (.int .i64 a) ∧ W2.cell? ⟨w.heap.size, 1, none⟩ = some (.int .i64 b) ∧ W2.cell? ⟨w.heap.size, 2, none⟩ = some (.int .i64 c) ∧ Res 3 w.heap.size W W2 ∧ W2.heap[w.heap.size + 1]? = some (.stringIter s (pos + 1)) := by
        have hbi := iterAt_below wr (w.heap.size + 1) s (pos + 1)
        exact ⟨_, hnx0, b_keep hbi (Nat.lt_succ_self _) c0, b_keep hbi (Nat.lt_succ_self _) c1, b_keep hbi (Nat.lt_succ_self _) c2, R.up hbi, Lib.iterAt_heap _ _ _ _ _ hit⟩
      generalize (s[pos]'hps).toNat = r at *
      have HDG := Lib.hid hdg
      have HBD := Lib.hid (st_bd (dg s) HF.out pos (by omega))
      have hpt := st_part (dg s) pos (by omega)
      have f0 := R'.frozen 0 (by decide)
      have f1 := R'.frozen 1 (by decide)
      have f2 := R'.frozen 2 (by decide)
      clear hnx0 hdg c0 c1 c2 R hps ha
      by_cases h47 : pos = 4 ∨ pos = 7
      · rcases h47 with hpos | hpos
        · subst hpos
          have hpt := st_part (dg s) 4 (by omega)
          have hr : r = 45 := by simpa using hrb
          subst hr
          have HN : Hid (st (dg s) (4 + 1) = ((st (dg s) 4).1 + 1, (st (dg s) 4).2)) := Lib.hid rfl
          rw [HST.out] at hpt
          simp at hpt
          subst hpt
          clear hrb
          go_wp2_with fail
          go_roundw
          case rel => exact ⟨4 + 1, 0 + 1, a, b, c, by omega, rfl, Lib.hid (by rw [HN.out, HST.out]), c0', c1', c2', R', hit'⟩
          case measure => simp [World.iterPos, hit, hit']
        · subst hpos
          have hpt := st_part (dg s) 7 (by omega)
          have hr : r = 45 := by simpa using hrb
          subst hr
          have HN : Hid (st (dg s) (7 + 1) = ((st (dg s) 7).1 + 1, (st (dg s) 7).2)) := Lib.hid rfl
          rw [HST.out] at hpt
          simp at hpt
          subst hpt
          clear hrb
          go_wp2_with fail
          go_roundw
          case rel => exact ⟨7 + 1, 1 + 1, a, b, c, by omega, rfl, Lib.hid (by rw [HN.out, HST.out]), c0', c1', c2', R', hit'⟩
          case measure => simp [World.iterPos, hit, hit']
      · have hb4 : ((pos : Int) == 4) = false := by rw [beq_eq_false_iff_ne]; omega
        have hb7 : ((pos : Int) == 7) = false := by rw [beq_eq_false_iff_ne]; omega
        rw [if_neg h47] at hrb
        have hr1 : (48 : Int) ≤ r := by omega
        have hr2 : (r : Int) ≤ 57 := by omega
        have hle := bdp_le pos (by omega)
        have hbd := HBD.out
        rw [HST.out] at hpt hbd
        obtain ⟨⟨a1, a2⟩, ⟨b1, b2⟩, d1, d2⟩ := hbd
        simp only at hpt a1 a2 b1 b2 d1 d2
        have hp3 : pt = 0 ∨ pt = 1 ∨ pt = 2 := by rw [hpt]; split <;> (try split) <;> simp
        have ba : a ≤ 999999999 := by omega
        have bb : b ≤ 999999999 := by omega
        have bc : c ≤ 999999999 := by omega
        clear a2 b2 d2 hle hpt hrb HBD
        rcases hp3 with rfl | rfl | rfl
        · have HN : Hid (st (dg s) (pos + 1) = (0, 10 * a + ((r : Int) - 48), b, c)) := Lib.hid (by rw [st, if_neg h47, if_pos (by rw [HST.out]), HDG.out, HST.out])
          clear h47
          go_wp2_with (go_at_call 71; refine (isDigit_yes _ _ hr1 hr2).mono ?_; rintro e w5 ⟨rfl, hw5⟩; rw [hw5]; clear hw5)
          go_roundw
          case rel => exact ⟨pos + 1, 0, 10 * a + ((r : Int) - 48), b, c, by omega, rfl, HN, set_same c0', set_other c1' (by simp), set_other c2' (by simp), R'.set _ _, heap_set _ _ _ _ _ hit' (by simp)⟩
          case measure =>
            have hit2 := heap_set W2 ⟨w.heap.size, 0, none⟩ (.int .i64 (10 * a + ((r : Int) - 48))) (w.heap.size + 1) _ hit' (by simp)
            simp [World.iterPos, hit, hit2]; omega
        · have HN : Hid (st (dg s) (pos + 1) = (1, a, 10 * b + ((r : Int) - 48), c)) := Lib.hid (by rw [st, if_neg h47, if_neg (by rw [HST.out]; simp), if_pos (by rw [HST.out]), HDG.out, HST.out])
          clear h47
          go_wp2_with (go_at_call 71; refine (isDigit_yes _ _ hr1 hr2).mono ?_; rintro e w5 ⟨rfl, hw5⟩; rw [hw5]; clear hw5)
          go_roundw
          case rel => exact ⟨pos + 1, 1, a, 10 * b + ((r : Int) - 48), c, by omega, rfl, HN, set_other c0' (by simp), set_same c1', set_other c2' (by simp), R'.set _ _, heap_set _ _ _ _ _ hit' (by simp)⟩
          case measure =>
            have hit2 := heap_set W2 ⟨w.heap.size, 1, none⟩ (.int .i64 (10 * b + ((r : Int) - 48))) (w.heap.size + 1) _ hit' (by simp)
            simp [World.iterPos, hit, hit2]; omega
        · have HN : Hid (st (dg s) (pos + 1) = (2, a, b, 10 * c + ((r : Int) - 48))) := Lib.hid (by rw [st, if_neg h47, if_neg (by rw [HST.out]; simp), if_neg (by rw [HST.out]; simp), HDG.out, HST.out])
          clear h47
          go_wp2_with (go_at_call 71; refine (isDigit_yes _ _ hr1 hr2).mono ?_; rintro e w5 ⟨rfl, hw5⟩; rw [hw5]; clear hw5)
          go_roundw
          case rel => exact ⟨pos + 1, 2, a, b, 10 * c + ((r : Int) - 48), by omega, rfl, HN, set_other c0' (by simp), set_other c1' (by simp), set_same c2', R'.set _ _, heap_set _ _ _ _ _ hit' (by simp)⟩
          case measure =>
            have hit2 := heap_set W2 ⟨w.heap.size, 2, none⟩ (.int .i64 (10 * c + ((r : Int) - 48))) (w.heap.size + 1) _ hit' (by simp)
            simp [World.iterPos, hit, hit2]; omega
    · obtain rfl : pos = 10 := by omega
      have hnx : ∀ ty, (Instr.next (.pointer (some ⟨w.heap.size + 1, 0, none⟩)) true ty).run Tryd.prog wr = _ := fun ty => Lib.run_next_end_at wr (w.heap.size + 1) s 10 ty hit (by rw [HS.out]; omega)
      have hbr := hb0.trans R.below
      have htr := ht.below hbr
      have HQ : Hid ((st (dg s) 10).2 = (a, b, c)) := Lib.hid (by rw [HST.out])
      clear R
      go_wp2_with fail
      refine (Day_any a b c wr htr).mono ?_
      rintro e w5 ⟨rfl, hb5⟩
      have hb6 := b_then hbr hb5
      obtain ⟨X, HX⟩ : ∃ X, Hid (num2 (dayErr a b c) (Cal.dn a b.toNat c) = .tuple #[.int .i64 X, .int .i64 (dayErr a b c)]) := ⟨_, Lib.hid rfl⟩
      rw [HX.out]
      go_wp2_with fail
      go_ret2
      exact ⟨by rw [HQ.out]; show _ = Ending.returned (num2 (dayErr a b c) (Cal.dn a b.toNat c)); rw [HX.out]; rfl, hb6⟩
end Go.Proofs.YtoaimgfekbnijaaDoor
