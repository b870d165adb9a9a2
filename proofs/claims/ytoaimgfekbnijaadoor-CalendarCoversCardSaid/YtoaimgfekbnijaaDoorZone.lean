/- Contracts of package calendar: CheckZone. -/
import Derived.Test.YtoaimgfekbnijaaDoorCal3
import Derived.OwnWalk
import Derived.Test.YtoaimgfekbnijaaDoorTail
namespace Go.Proofs.YtoaimgfekbnijaaDoor
open Go.RowKit
/-- A slice of pairs of numbers: what it holds. -/
structure ChAt (w : World) (b off : Nat) (cs : List (Int × Int)) : Prop where
  m : ∀ i, i < cs.length → w.cell? ⟨b, off + i * 2, none⟩ = some (.int .i64 (cs.getD i (0, 0)).1)
  o : ∀ i, i < cs.length → w.cell? ⟨b, off + i * 2 + 1, none⟩ = some (.int .i64 (cs.getD i (0, 0)).2)
theorem ChAt.below {w w' : World} {b off : Nat} {cs : List (Int × Int)} (h : ChAt w b off cs) (hb : Below w.heap.size w w') : ChAt w' b off cs := ⟨fun i hi => b_old hb (h.m i hi), fun i hi => b_old hb (h.o i hi)⟩
def chgErr (g : Bool) (po m o : Int) : Int :=
  fst [rng m 0 143999999, rng o (-720) 840, unl (decide (wrap64 ((if o < po then po else o) - (if po < o then po else o)) ≤ 180)) 4, unl g 11]
def chsErr (f : Bool) (pm po : Int) : List (Int × Int) → Int
  | [] => 0
  | c :: r => if chgErr (f || decide (1440 ≤ wrap64 (c.1 - pm))) po c.1 c.2 ≠ 0 then chgErr (f || decide (1440 ≤ wrap64 (c.1 - pm))) po c.1 c.2 else chsErr false c.1 c.2 r
theorem chsErr_drop (f : Bool) (pm po : Int) (cs : List (Int × Int)) (k : Nat) (h : k < cs.length) (m o : Int) (hm : (cs.getD k (0, 0)).1 = m) (ho : (cs.getD k (0, 0)).2 = o) :
    chsErr f pm po (cs.drop k) = if chgErr (f || decide (1440 ≤ wrap64 (m - pm))) po m o ≠ 0 then chgErr (f || decide (1440 ≤ wrap64 (m - pm))) po m o else chsErr false m o (cs.drop (k + 1)) := by
  subst hm ho
  rw [List.drop_eq_getElem_cons h]
  simp only [List.getD_eq_getElem?_getD, List.getElem?_eq_getElem h, Option.getD_some]
  rfl
theorem chgErr_zero {g : Bool} {po m o : Int} (h : chgErr g po m o = 0) : (0 ≤ m ∧ m ≤ 143999999) ∧ (-720 ≤ o ∧ o ≤ 840) := by
  obtain ⟨h1, h⟩ := fst_cons_zero h
  obtain ⟨h2, _⟩ := fst_cons_zero h
  exact ⟨rng_zero h1, rng_zero h2⟩
def zoneHead (o : Int) (n : Nat) : Int := fst [rng o (-720) 840, unl (decide ((n : Int) ≤ 64)) 5]
def zoneErr (o : Int) (cs : List (Int × Int)) : Int := if zoneHead o cs.length ≠ 0 then zoneHead o cs.length else chsErr true 0 o cs
theorem b_then' {w w1 w2 : World} {n : Nat} (h : Below n w w1) (k : Below w1.heap.size w1 w2) (hn : n ≤ w1.heap.size := by first | exact Nat.le_refl _ | assumption) : Below n w w2 := h.trans (k.mono hn)
set_option maxRecDepth 100000 in
set_option maxHeartbeats 1000000 in
theorem CheckZone_some (o : Int) (b off cap : Nat) (cs : List (Int × Int)) (w : World) (hc : ChAt w b off cs) (hn : cs.length ≤ 64) (h1 : -720 ≤ o) (h2 : o ≤ 840) :
    Calls Tryd.prog 82 #[.agg #[.int .i64 o, .slice (some ⟨b, off, none⟩) cs.length cap]] w fun r w' => r = .returned (.int .i64 (zoneErr o cs)) ∧ Below w.heap.size w w' := by
  have HO : Hid (rng o (-720) 840 = 0) := Lib.hid (rng_ok h1 h2)
  have HZ : Hid (zoneErr o cs = chsErr true 0 o cs) := Lib.hid (by unfold zoneErr zoneHead; rw [HO.out, if_neg]; rw [decide_eq_true (by omega)]; simp [fst, unl])
  have hd : decide ((cs.length : Int) ≤ 64) = true := by simp; omega
  have hbl : Below w.heap.size w (w.alloc (.cells #[.int .i64 o, .slice (some ⟨b, off, none⟩) cs.length cap] 72)).drew := (below_alloc w _).drew
  go_enter Tryd.func82, Tryd.ntmps82
  go_wp2_with fail
  refine still_tail 8 (by kernel_rfl) (by kernel_rfl) ?_
  simp only [List.take_succ_cons, List.take_zero, List.drop_succ_cons, List.drop_zero]
  repeat (refine wpStill_step (fun K hK => ?_); go_simp; (first | (with_reducible refine hK _ ?_) | (with_reducible refine ⟨_, checkOffset_any _ _, hK _ ?_⟩) | (with_reducible refine ⟨_, unless_t _ _, hK _ ?_⟩)); clear hK K)
  refine wpStill_nil ?_
  obtain ⟨W, hW, hbl, hk0, hk1⟩ : ∃ W, (w.alloc (.cells #[.int .i64 o, .slice (some ⟨b, off, none⟩) cs.length cap] 72)).drew = W ∧ Below w.heap.size w W ∧ W.cell? ⟨w.heap.size, 0, none⟩ = some (.int .i64 o) ∧ W.cell? ⟨w.heap.size, 1, none⟩ = some (.slice (some ⟨b, off, none⟩) cs.length cap) := ⟨_, rfl, (below_alloc w _).drew, by simp, by simp⟩
  rw [hW]
  clear hW
  go_wp2_with fail
  refine (fe_new [_, _] _ _ _ _ _ rfl rfl (by simp)).mono ?_
  rintro e w1 ⟨rfl, hw⟩
  have hbV : Below W.heap.size W w1 := by rw [hw]; exact below_alloc _ _
  clear hw
  rw [HO.out]
  have hz0 : (fst [0, 0] != 0) = false := rfl
  have hv0 := b_old hbV hk0
  have hv1 := b_old hbV hk1
  have hcV := hc.below (b_then hbl hbV)
  go_wp2_with fail
  go_loopw [4, 26] (fun p i wr => ∃ (k : Nat) (pm po : Int), k ≤ cs.length ∧ i = .int .i64 k ∧ p = .int .i64 po ∧ Hid (chsErr true 0 o cs = chsErr (decide (k = 0)) pm po (cs.drop k)) ∧ Hid (0 < k → pm = (cs.getD (k - 1) (0, 0)).1) ∧ Below w1.heap.size w1 wr ∧ -720 ≤ po ∧ po ≤ 840 ∧ 0 ≤ pm ∧ pm ≤ 143999999) (fun _ i _ => cs.length - (intOf i).toNat)
  case atStart => exact ⟨0, 0, o, Nat.zero_le _, rfl, rfl, Lib.hid (by simp), Lib.hid (by omega), Below.refl _ _, by omega, by omega, by omega, by omega⟩
  case round =>
    obtain ⟨k, pm, po, hk, rfl, rfl, HF, HP, hbr, ho1, ho2, hp1, hp2⟩ := hrel
    by_cases hlt : k < cs.length
    · have hm := b_old hbr (hcV.m k hlt)
      have hoo := b_old hbr (hcV.o k hlt)
      have hu0 := b_old hbr hv0
      have hu1 := b_old hbr hv1
      have HD0 : Hid (∀ m o2, (cs.getD k (0, 0)).1 = m → (cs.getD k (0, 0)).2 = o2 → chsErr true 0 o cs = if chgErr (decide (k = 0) || decide (1440 ≤ wrap64 (m - pm))) po m o2 ≠ 0 then chgErr (decide (k = 0) || decide (1440 ≤ wrap64 (m - pm))) po m o2 else chsErr false m o2 (cs.drop (k + 1))) :=
        Lib.hid (fun m o2 h1 h2 => HF.out.trans (chsErr_drop _ pm po cs k hlt m o2 h1 h2))
      have HPM : Hid (0 < k → wr.cell? ⟨b, off + (k - 1) * 2, none⟩ = some (.int .i64 pm)) := Lib.hid (fun hk0 => by rw [HP.out hk0]; exact b_old hbr (hcV.m (k - 1) (by omega)))
      generalize hmv : (cs.getD k (0, 0)).1 = m at hm
      generalize hov : (cs.getD k (0, 0)).2 = o2 at hoo
      have HM := Lib.hid hmv
      have HD : Hid (∀ g, (decide (k = 0) || decide (1440 ≤ wrap64 (m - pm))) = g → chsErr true 0 o cs = if chgErr g po m o2 ≠ 0 then chgErr g po m o2 else chsErr false m o2 (cs.drop (k + 1))) := Lib.hid (fun g hg => by rw [← hg]; exact HD0.out m o2 hmv hov)
      clear hmv hov HD0 HF HP
      cases k with
      | zero =>
        simp only [Nat.zero_mul, Nat.add_zero] at hm hoo
        go_wp2_with fail
        obtain ⟨V, hV, hbrV, hc0, hc1, hx0, hx1⟩ : ∃ V, wr.alloc (.cells #[.int .i64 m, .int .i64 o2] 83) = V ∧ Below wr.heap.size wr V ∧ V.cell? ⟨wr.heap.size, 0, none⟩ = some (.int .i64 m) ∧ V.cell? ⟨wr.heap.size, 1, none⟩ = some (.int .i64 o2) ∧ V.cell? ⟨w.heap.size, 0, none⟩ = some (.int .i64 o) ∧ V.cell? ⟨w.heap.size, 1, none⟩ = some (.slice (some ⟨b, off, none⟩) cs.length cap) := ⟨_, rfl, below_alloc wr _, by simp, by simp, b_old (below_alloc wr _) hu0, b_old (below_alloc wr _) hu1⟩
        rw [hV]
        clear hV
        refine quiet_tail_drew 33 (by kernel_rfl) (by kernel_rfl) ?_
        simp only [List.take_succ_cons, List.take_zero, List.drop_succ_cons, List.drop_zero]
        repeat (first
          | go_big_quiet_step ((first
            | (go_at_call 83; exact Calls.quiet_of_same (checkMoment_any _ _))
            | (go_at_call 98; exact Calls.quiet_of_same (checkOffset_any _ _))
            | (go_at_call 55; exact Calls.quiet_of_same (unless_any _ _ _)))))
        refine wpQuiet_nil ?_
        intro V2 hV2
        have hbrV2 : Below wr.heap.size wr V2 := by obtain ⟨nq, rfl⟩ := hV2; exact hbrV.trans ⟨rfl, rfl, rfl, Nat.le_refl _, fun _ _ => rfl⟩
        have hd1 : V2.cell? ⟨wr.heap.size, 1, none⟩ = some (.int .i64 o2) := by obtain ⟨nq, rfl⟩ := hV2; exact hc1
        clear hV2 hbrV hc0 hc1 hx0 hx1
        generalize hmx : (if o2 < po then po else o2) = mx
        have HMX := Lib.hid hmx; clear hmx
        generalize hmn : (if po < o2 then po else o2) = mn
        have HMN := Lib.hid hmn; clear hmn
        go_wp2_with fail
        refine (fe_new [_, _, _, _] _ _ _ _ _ rfl rfl (by simp)).mono ?_
        rintro e w2 ⟨rfl, hw⟩
        have hbw2 : Below wr.heap.size wr w2 := by rw [hw]; exact b_then hbrV2 (below_alloc _ _)
        have he1 : w2.cell? ⟨wr.heap.size, 1, none⟩ = some (.int .i64 o2) := by rw [hw]; exact b_old (below_alloc _ _) hd1
        clear hw
        have HE : Hid (fst [rng m 0 143999999, rng o2 (-720) 840, unl (decide (wrap64 (mx - mn) ≤ 180)) 4, unl (true) 11] = chgErr (true) po m o2) := Lib.hid (by rw [← HMX.out, ← HMN.out]; unfold chgErr; rfl)
        generalize hE : fst [rng m 0 143999999, rng o2 (-720) 840, unl (decide (wrap64 (mx - mn) ≤ 180)) 4, unl (true) 11] = E
        have HE2 : Hid (E = chgErr (true) po m o2) := Lib.hid (by rw [← hE]; exact HE.out)
        clear hE HE
        by_cases hE0 : E = 0
        · subst hE0
          obtain ⟨⟨q1, q2⟩, q3, q4⟩ := chgErr_zero HE2.out.symm
          go_wp2_with fail
          go_roundw
          case rel => exact ⟨1, m, o2, by omega, by go_num, rfl, Lib.hid (by rw [HD.out true (by simp), if_neg (show ¬ chgErr _ po m o2 ≠ 0 from by rw [← HE2.out]; simp)]; simp), Lib.hid (fun _ => HM.out.symm), b_then hbr hbw2, q3, q4, q1, q2⟩
          case measure => simp [intOf]; omega
        · have hEb : (E != 0) = true := by simpa using hE0
          have HZ2 : Hid (zoneErr o cs = E) := Lib.hid (by rw [HZ.out, HD.out true (by simp), if_pos (show chgErr _ po m o2 ≠ 0 from by rw [← HE2.out]; exact hE0), HE2.out])
          clear hE0
          go_wp2_with fail
          go_ret
          exact ⟨ret_int (by rw [HZ2.out]), b_then hbl (b_then hbV (b_then hbr hbw2))⟩
      | succ j =>
        have hpm := HPM.out (by omega)
        simp only [Nat.add_sub_cancel] at hpm
        have hkb : (((j : Int) + 1) == 0) = false := by rw [beq_eq_false_iff_ne]; omega
        go_wp2_with fail
        obtain ⟨V, hV, hbrV, hc0, hc1, hx0, hx1, hx2⟩ : ∃ V, wr.alloc (.cells #[.int .i64 m, .int .i64 o2] 83) = V ∧ Below wr.heap.size wr V ∧ V.cell? ⟨wr.heap.size, 0, none⟩ = some (.int .i64 m) ∧ V.cell? ⟨wr.heap.size, 1, none⟩ = some (.int .i64 o2) ∧ V.cell? ⟨w.heap.size, 0, none⟩ = some (.int .i64 o) ∧ V.cell? ⟨w.heap.size, 1, none⟩ = some (.slice (some ⟨b, off, none⟩) cs.length cap) ∧ V.cell? ⟨b, off + j * 2, none⟩ = some (.int .i64 pm) := ⟨_, rfl, below_alloc wr _, by simp, by simp, b_old (below_alloc wr _) hu0, b_old (below_alloc wr _) hu1, b_old (below_alloc wr _) hpm⟩
        rw [hV]
        clear hV
        refine quiet_tail_drew 33 (by kernel_rfl) (by kernel_rfl) ?_
        simp only [List.take_succ_cons, List.take_zero, List.drop_succ_cons, List.drop_zero]
        repeat (first
          | go_big_quiet_step ((first
            | (go_at_call 83; exact Calls.quiet_of_same (checkMoment_any _ _))
            | (go_at_call 98; exact Calls.quiet_of_same (checkOffset_any _ _))
            | (go_at_call 55; exact Calls.quiet_of_same (unless_any _ _ _)))))
        refine wpQuiet_nil ?_
        intro V2 hV2
        have hbrV2 : Below wr.heap.size wr V2 := by obtain ⟨nq, rfl⟩ := hV2; exact hbrV.trans ⟨rfl, rfl, rfl, Nat.le_refl _, fun _ _ => rfl⟩
        have hd1 : V2.cell? ⟨wr.heap.size, 1, none⟩ = some (.int .i64 o2) := by obtain ⟨nq, rfl⟩ := hV2; exact hc1
        clear hV2 hbrV hc0 hc1 hx0 hx1 hx2
        generalize hmx : (if o2 < po then po else o2) = mx
        have HMX := Lib.hid hmx; clear hmx
        generalize hmn : (if po < o2 then po else o2) = mn
        have HMN := Lib.hid hmn; clear hmn
        go_wp2_with fail
        refine (fe_new [_, _, _, _] _ _ _ _ _ rfl rfl (by simp)).mono ?_
        rintro e w2 ⟨rfl, hw⟩
        have hbw2 : Below wr.heap.size wr w2 := by rw [hw]; exact b_then hbrV2 (below_alloc _ _)
        have he1 : w2.cell? ⟨wr.heap.size, 1, none⟩ = some (.int .i64 o2) := by rw [hw]; exact b_old (below_alloc _ _) hd1
        clear hw
        have HE : Hid (fst [rng m 0 143999999, rng o2 (-720) 840, unl (decide (wrap64 (mx - mn) ≤ 180)) 4, unl (decide (1440 ≤ wrap64 (m - pm))) 11] = chgErr (decide (1440 ≤ wrap64 (m - pm))) po m o2) := Lib.hid (by rw [← HMX.out, ← HMN.out]; unfold chgErr; rfl)
        generalize hE : fst [rng m 0 143999999, rng o2 (-720) 840, unl (decide (wrap64 (mx - mn) ≤ 180)) 4, unl (decide (1440 ≤ wrap64 (m - pm))) 11] = E
        have HE2 : Hid (E = chgErr (decide (1440 ≤ wrap64 (m - pm))) po m o2) := Lib.hid (by rw [← hE]; exact HE.out)
        clear hE HE
        by_cases hE0 : E = 0
        · subst hE0
          obtain ⟨⟨q1, q2⟩, q3, q4⟩ := chgErr_zero HE2.out.symm
          go_wp2_with fail
          go_roundw
          case rel => exact ⟨j + 1 + 1, m, o2, by omega, by go_num, rfl, Lib.hid (by rw [HD.out _ (by rw [decide_eq_false (show ¬ (j + 1 = 0) by omega), Bool.false_or]), if_neg (show ¬ chgErr _ po m o2 ≠ 0 from by rw [← HE2.out]; simp)]; simp), Lib.hid (fun _ => HM.out.symm), b_then hbr hbw2, q3, q4, q1, q2⟩
          case measure => simp [intOf]; omega
        · have hEb : (E != 0) = true := by simpa using hE0
          have HZ2 : Hid (zoneErr o cs = E) := Lib.hid (by rw [HZ.out, HD.out _ (by rw [decide_eq_false (show ¬ (j + 1 = 0) by omega), Bool.false_or]), if_pos (show chgErr _ po m o2 ≠ 0 from by rw [← HE2.out]; exact hE0), HE2.out])
          clear hE0
          go_wp2_with fail
          go_ret
          exact ⟨ret_int (by rw [HZ2.out]), b_then hbl (b_then hbV (b_then hbr hbw2))⟩
    · have HE : Hid (chsErr true 0 o cs = 0) := Lib.hid (by rw [HF.out, List.drop_of_length_le (by omega)]; rfl)
      go_wp2_with fail
      go_ret
      exact ⟨ret_int (by rw [HZ.out, HE.out]), b_then hbl (b_then hbV hbr)⟩
end Go.Proofs.YtoaimgfekbnijaaDoor
