/- Contracts: the reference's Has, DaysOf and Meet; lists of integers compared. -/
import Derived.Test.YtijnabgehlkghaaGreatDoorMeet
import Derived.Test.YtijnabgehlkghaaGreatDoorParts1
import Derived.Test.YtijnabgehlkghaaGreatDoorRef1
import Derived.Test.YtijnabgehlkghaaGreatDoorSame
import Derived.Test.YtijnabgehlkghaaGreatDoorArr3
import Derived.Laws.AppendOwn
import Derived.OwnWalk
namespace Go.Proofs.YtijnabgehlkghaaGreatDoor
open Go Go.RowKit Go.Shelf
theorem inM_bit (n : Nat) (d : Int) : inM n d = bitN n (Cal.wd d).toNat := by
  unfold inM bitN
  generalize (Cal.wd d).toNat = k
  rw [Bool.eq_iff_iff, decide_eq_true_eq, beq_iff_eq]
  have e : (n : Int) / 2 ^ k = ((n / 2 ^ k : Nat) : Int) := by simp
  rw [e]; omega
set_option maxRecDepth 100000 in
set_option maxHeartbeats 1000000 in
theorem qHas_any (a b d : Int) (n : Nat) (w : World) (h1 : 0 ≤ a) (h2 : b ≤ 99999) (hn : n ≤ 127) :
    Calls Tryz.prog 39 #[.agg #[.int .i64 a, .int .i64 b, .int .i64 n], .int .i64 d] w fun r w' => r = .returned (.bool (hasB a b n d)) ∧ Below w.heap.size w w' := by
  by_cases ha : a ≤ d
  · by_cases hb : d ≤ b
    · have hw := Cal.wd_bd d
      have HB : Hid (hasB a b n d = bitN n (Cal.wd d).toNat) := Lib.hid (by rw [← inM_bit]; simp [hasB, ha, hb])
      have HI : Hid (∀ w, Calls Tryz.prog 87 #[.int .i64 n, .int .i64 (Cal.wd d)] w fun r w' => r = .returned (.bool (bitN n (Cal.wd d).toNat)) ∧ w' = w) := Lib.hid (fun w => by
        have := InMask_nat n (Cal.wd d).toNat w (by omega) (by omega)
        rwa [Int.toNat_of_nonneg hw.1] at this)
      have HW : Hid (∀ w, Calls Tryz.prog 20 #[.int .i64 d] w fun r w' => r = .returned (.int .i64 (Cal.wd d)) ∧ w' = w) := Lib.hid (fun w => qWeekday_any d w (by omega) (by omega))
      go_enter Tryz.func39, Tryz.ntmps39
      go_wp2_with fail
      go_quiet (first | (go_at_call 20; exact Calls.quiet_of_same (HW.out _)) | (go_at_call 87; exact Calls.quiet_of_same (HI.out _)))
      go_wp2_with fail
      go_ret
      exact ⟨by rw [HB.out]; rfl, (below_alloc w _).trans ⟨rfl, rfl, rfl, Nat.le_refl _, fun _ _ => rfl⟩⟩
    · have HB : Hid (hasB a b n d = false) := Lib.hid (by simp [hasB, hb])
      have hd : decide (d ≤ b) = false := by simpa using hb
      clear hb
      go_enter Tryz.func39, Tryz.ntmps39
      go_wp2_with fail
      go_quiet (fail)
      go_wp2_with fail
      go_ret
      exact ⟨by rw [HB.out]; rfl, (below_alloc w _).trans ⟨rfl, rfl, rfl, Nat.le_refl _, fun _ _ => rfl⟩⟩
  · have HB : Hid (hasB a b n d = false) := Lib.hid (by simp [hasB, ha])
    have hd : decide (a ≤ d) = false := by simpa using ha
    clear ha
    go_enter Tryz.func39, Tryz.ntmps39
    go_wp2_with fail
    go_quiet (fail)
    go_wp2_with fail
    go_ret
    exact ⟨by rw [HB.out]; rfl, (below_alloc w _).trans ⟨rfl, rfl, rfl, Nat.le_refl _, fun _ _ => rfl⟩⟩
theorem own_below {w w' : World} {base : Nat} {e : TypeId} {size : Nat} {v : Value} {n : Nat} {xs : List Value} (h : w.ownsRow base e size v n xs) (hb : Below w.heap.size w w') : w'.ownsRow base e size v n xs :=
  h.kept (grown_of_below hb) (by cases h : v.ownBlock with
    | none => exact .inl rfl
    | some k => exact .inr (by simp))
theorem IntsAt.below {w w' : World} {base : Nat} {v : Value} {l : List Int} (h : IntsAt w base v l) (hb : Below w.heap.size w w') : IntsAt w' base v l := ⟨own_below h.own hb, h.nil⟩
theorem IntsAt.down {w : World} {base base' : Nat} {v : Value} {l : List Int} (h : IntsAt w base v l) (hb : base' ≤ base) : IntsAt w base' v l := ⟨own_down h.own hb, h.nil⟩
theorem own_blk {w : World} {base : Nat} {e : TypeId} {size : Nat} {v : Value} {n : Nat} {xs : List Value} (h : w.ownsRow base e size v n xs) : ∀ k, v.ownBlock = some k → base ≤ k := by
  intro k hk
  rcases h.2 with ⟨hv, _⟩ | ⟨g, cap, cur, hv, hb, _⟩
  · subst hv; simp [Value.ownBlock] at hk
  · subst hv; simp only [Value.ownBlock, Option.some.injEq] at hk; omega
/-- A list that has grown by one. -/
theorem IntsAt.grew {w : World} {base : Nat} {v : Value} {l l' : List Int} {x : Int} (h : w.ownsRow base 3 1 v (l.length + 1) (l.map (Value.int .i64) ++ [.int .i64 x])) (hl : l' = l ++ [x]) : IntsAt w base v l' := by
  subst hl
  refine ⟨by simpa using h, ?_⟩
  obtain ⟨g, cap, rfl⟩ := ownsRow_succ h
  simp
set_option maxRecDepth 100000 in
set_option maxHeartbeats 2000000 in
theorem qDaysOf_ok (a b : Int) (n : Nat) (w : World) (h1 : 0 ≤ a) (h2 : a ≤ b) (h3 : b ≤ 99999) (h4 : b - a ≤ 400) (hn : n ≤ 127) :
    Calls Tryz.prog 38 #[.agg #[.int .i64 a, .int .i64 b, .int .i64 n]] w fun r w' => ∃ v, r = .returned v ∧ IntsAt w' w.heap.size v (daysL a b n) ∧ Below w.heap.size w w' := by
  obtain ⟨i0, hi, hz0, hz1, hz2⟩ := info_parts infoInt
  obtain ⟨W, HW, hb0, c0, c1, c2⟩ : ∃ W, Hid (w.alloc (.cells #[.int .i64 a, .int .i64 b, .int .i64 n] 45) = W) ∧ Below w.heap.size w W ∧ W.cell? ⟨w.heap.size, 0, none⟩ = some (.int .i64 a) ∧ W.cell? ⟨w.heap.size, 1, none⟩ = some (.int .i64 b) ∧ W.cell? ⟨w.heap.size, 2, none⟩ = some (.int .i64 n) := ⟨_, Lib.hid rfl, below_alloc w _, by simp, by simp, by simp⟩
  go_enter Tryz.func38, Tryz.ntmps38
  go_wp2_with fail
  rw [HW.out]
  go_loopw [3, 4] (fun v i wr => ∃ k : Nat, (k : Int) ≤ b - a + 1 ∧ i = .int .i64 (a + k) ∧ IntsAt wr W.heap.size v (upto a b n k) ∧ Below W.heap.size W wr) (fun _ i _ => (b + 1 - intOf i).toNat)
  case atStart => exact ⟨0, by omega, by simp, ⟨World.ownsRow_nil _ _ _ _, by simp [upto]⟩, Below.refl _ _⟩
  case round =>
    obtain ⟨k, hk, rfl, hio, hbr⟩ := hrel
    have d0 := b_old hbr c0
    have d1 := b_old hbr c1
    have d2 := b_old hbr c2
    by_cases hlt : a + k ≤ b
    · cases hB : hasB a b n (a + k)
      · have HU : Hid (upto a b n (k + 1) = upto a b n k) := Lib.hid (by rw [upto_succ, hB]; simp)
        have HB := Lib.hid hB; clear hB
        go_wp2_with fail
        refine (qHas_any a b (a + k) n _ h1 h3 hn).mono ?_
        rintro e w3 ⟨rfl, hb3⟩
        rw [HB.out]
        have hio3 := hio.below hb3
        have hb03 := b_then hbr hb3
        clear hb3 hio
        go_wp2_with fail
        go_roundw
        case rel => exact ⟨k + 1, by omega, by go_num, by rw [HU.out]; exact hio3, hb03⟩
        case measure => simp [intOf]; omega
      · have HU : Hid (upto a b n (k + 1) = upto a b n k ++ [a + k]) := Lib.hid (by rw [upto_succ, hB]; simp)
        have HB := Lib.hid hB; clear hB
        have hul := upto_len a b n k
        go_wp2_with fail
        refine (qHas_any a b (a + k) n _ h1 h3 hn).mono ?_
        rintro e w3 ⟨rfl, hb3⟩
        rw [HB.out]
        have hio3 := hio.below hb3
        have hb03 := b_then hbr hb3
        clear hb3 hio
        have hsz3 := hb03.size
        have hl1 : (upto a b n k).length + 1 ≤ maxLen := by unfold maxLen; omega
        go_wp2_with (at_builtin; refine Hid.out ?_)
        refine Lib.hid ?_
        refine wpList_append_own _ rfl _ _ 50 rfl W.heap.size 3 i0 (.int .i64 0) 1 8 Tryz.underlying50 hi hz0 hz1 hz2 rfl (by decide) _ (upto a b n k).length _ rfl (hio3.own.alloc _) ⟨w3.heap.size, 0, none⟩ 1 1 [.int .i64 (a + k)] rfl rfl
          (World.news_of_block (cs := #[.int .i64 (a + k)]) (t := 3) (fr := (0, 0)) (heap_alloc_new w3 _)) (by simp [Value.oneCell']) hl1 (by omega) (by simp; omega) ?_
        intro v' w4 hown' hgrow _
        have hgrow2 : (w3.alloc (.cells #[.int .i64 (a + k)] 3)).grownBy w4 u3.ownBlock := hgrow
        have hb4 : Below W.heap.size W w4 := (hb03.alloc hb03.size _).grown hgrow2 (by simp; omega) (own_blk hio3.own)
        have hio4 := Lib.hid (IntsAt.grew hown' HU.out)
        clear hgrow hgrow2 hown' hio3
        go_wp2_with fail
        go_roundw
        case rel => exact ⟨k + 1, by omega, by go_num, hio4.out, hb4⟩
        case measure => simp [intOf]; omega
    · have HK : Hid (upto a b n k = daysL a b n) := Lib.hid (by rw [show k = (b - a + 1).toNat from by omega]; rfl)
      go_wp2_with fail
      exact bodyPost_ret (v := u3) (by simp [results, Tryz.results38, go_sem]) rfl ⟨u3, rfl, by rw [← HK.out]; exact hio.down hb0.size, b_then hb0 hbr⟩
end Go.Proofs.YtijnabgehlkghaaGreatDoor
