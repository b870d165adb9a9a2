/- Contracts: the reference's Meet; lists of integers compared, nil ones too. -/
import Derived.Test.YtijnabgehlkghaaGreatDoorRefDays
namespace Go.Proofs.YtijnabgehlkghaaGreatDoor
open Go Go.RowKit Go.Shelf
theorem kept_upto (p : Int → Bool) (a b m : Int) (k : Nat) : kept p (upto a b m (k + 1)) = kept p (upto a b m k) ++ (if (hasB a b m (a + k) && p (a + k)) = true then [a + k] else []) := by
  rw [upto_succ]
  cases h : hasB a b m (a + k) <;> cases h2 : p (a + k) <;> simp [kept, h2]
set_option maxRecDepth 100000 in
set_option maxHeartbeats 2000000 in
theorem qMeet_ok (a b c d : Int) (n s : Nat) (w : World) (h1 : 0 ≤ a) (h2 : a ≤ b) (h3 : b ≤ 99999) (h4 : b - a ≤ 400) (hn : n ≤ 127) (g1 : 0 ≤ c) (g3 : d ≤ 99999) (hs : s ≤ 127) :
    Calls Tryz.prog 40 #[.agg #[.int .i64 a, .int .i64 b, .int .i64 n], .agg #[.int .i64 c, .int .i64 d, .int .i64 s]] w fun r w' => ∃ v, r = .returned v ∧ IntsAt w' w.heap.size v (kept (hasB c d s) (daysL a b n)) ∧ Below w.heap.size w w' := by
  obtain ⟨i0, hi, hz0, hz1, hz2⟩ := info_parts infoInt
  obtain ⟨W, HW, hb0, c0, c1, c2, e0, e1, e2⟩ := two_pers w a b n c d s
  go_enter Tryz.func40, Tryz.ntmps40
  go_wp2_with fail
  rw [HW.out]
  go_loopw [5, 6] (fun v i wr => ∃ k : Nat, (k : Int) ≤ b - a + 1 ∧ i = .int .i64 (a + k) ∧ IntsAt wr W.heap.size v (kept (hasB c d s) (upto a b n k)) ∧ Below W.heap.size W wr) (fun _ i _ => (b + 1 - intOf i).toNat)
  case atStart => exact ⟨0, by omega, by simp, ⟨World.ownsRow_nil _ _ _ _, by simp [upto, kept]⟩, Below.refl _ _⟩
  case round =>
    obtain ⟨k, hk, rfl, hio, hbr⟩ := hrel
    have d0 := b_old hbr c0
    have d1 := b_old hbr c1
    have d2 := b_old hbr c2
    by_cases hlt : a + k ≤ b
    · have hku := kept_upto (hasB c d s) a b n k
      have hul : (kept (hasB c d s) (upto a b n k)).length ≤ k := Nat.le_trans (List.length_filter_le _ _) (upto_len a b n k)
      cases hB : hasB a b n (a + k)
      · have HU : Hid (kept (hasB c d s) (upto a b n (k + 1)) = kept (hasB c d s) (upto a b n k)) := Lib.hid (by rw [hku, hB]; simp)
        have HB := Lib.hid hB; clear hB hku
        generalize kept (hasB c d s) (upto a b n k) = L at *
        go_wp2_with fail
        refine (qHas_any a b (a + k) n _ h1 h3 hn).mono ?_
        rintro e w3 ⟨rfl, hb3⟩
        rw [HB.out]
        have hio3 := hio.below hb3
        have hb03 := b_then hbr hb3
        clear hb3 hio
        go_wp2_with fail
        go_roundw
        case rel => exact ⟨k + 1, by omega, by go_num, by rw [HU.out]; exact hio3, hb03⟩
        case measure => simp [intOf]; omega
      · have f0 := b_old hbr e0
        have f1 := b_old hbr e1
        have f2 := b_old hbr e2
        cases hC : hasB c d s (a + k)
        · have HU : Hid (kept (hasB c d s) (upto a b n (k + 1)) = kept (hasB c d s) (upto a b n k)) := Lib.hid (by rw [hku, hB, hC]; simp)
          have HB := Lib.hid hB; have HC := Lib.hid hC; clear hB hC hku
          generalize kept (hasB c d s) (upto a b n k) = L at *
          go_wp2_with fail
          refine (qHas_any a b (a + k) n _ h1 h3 hn).mono ?_
          rintro e w3 ⟨rfl, hb3⟩
          rw [HB.out]
          have hio3 := hio.below hb3
          have hb03 := b_then hbr hb3
          replace f0 := b_old hb3 f0; replace f1 := b_old hb3 f1; replace f2 := b_old hb3 f2
          clear hb3 hio
          go_wp2_with fail
          refine (qHas_any c d (a + k) s _ g1 g3 hs).mono ?_
          rintro e w4 ⟨rfl, hb4⟩
          rw [HC.out]
          have hio4 := hio3.below hb4
          have hb04 := b_then hb03 hb4
          clear hb4 hio3
          go_wp2_with fail
          go_roundw
          case rel => exact ⟨k + 1, by omega, by go_num, by rw [HU.out]; exact hio4, hb04⟩
          case measure => simp [intOf]; omega
        · have HU : Hid (kept (hasB c d s) (upto a b n (k + 1)) = kept (hasB c d s) (upto a b n k) ++ [a + k]) := Lib.hid (by rw [hku, hB, hC]; simp)
          have HB := Lib.hid hB; have HC := Lib.hid hC; clear hB hC hku
          generalize kept (hasB c d s) (upto a b n k) = L at *
          go_wp2_with fail
          refine (qHas_any a b (a + k) n _ h1 h3 hn).mono ?_
          rintro e w3 ⟨rfl, hb3⟩
          rw [HB.out]
          have hio3 := hio.below hb3
          have hb03 := b_then hbr hb3
          replace f0 := b_old hb3 f0; replace f1 := b_old hb3 f1; replace f2 := b_old hb3 f2
          clear hb3 hio
          go_wp2_with fail
          refine (qHas_any c d (a + k) s _ g1 g3 hs).mono ?_
          rintro e w4 ⟨rfl, hb4⟩
          rw [HC.out]
          have hio4 := hio3.below hb4
          have hb04 := b_then hb03 hb4
          clear hb4 hio3
          have hsz4 := hb04.size
          have hl1 : L.length + 1 ≤ maxLen := by unfold maxLen; omega
          go_wp2_with (at_builtin; refine Hid.out ?_)
          refine Lib.hid ?_
          refine wpList_append_own _ rfl _ _ 50 rfl W.heap.size 3 i0 (.int .i64 0) 1 8 Tryz.underlying50 hi hz0 hz1 hz2 rfl (by decide) _ L.length _ rfl (hio4.own.alloc _) ⟨w4.heap.size, 0, none⟩ 1 1 [.int .i64 (a + k)] rfl rfl
            (World.news_of_block (cs := #[.int .i64 (a + k)]) (t := 3) (fr := (0, 0)) (heap_alloc_new w4 _)) (by simp [Value.oneCell']) hl1 (by omega) (by simp; omega) ?_
          intro v' w5 hown' hgrow _
          have hgrow2 : (w4.alloc (.cells #[.int .i64 (a + k)] 3)).grownBy w5 u5.ownBlock := hgrow
          have hb5 : Below W.heap.size W w5 := (hb04.alloc hb04.size _).grown hgrow2 (by simp; omega) (own_blk hio4.own)
          have hio5 := Lib.hid (IntsAt.grew hown' HU.out)
          clear hgrow hgrow2 hown' hio4
          go_wp2_with fail
          go_roundw
          case rel => exact ⟨k + 1, by omega, by go_num, hio5.out, hb5⟩
          case measure => simp [intOf]; omega
    · have HK : Hid (upto a b n k = daysL a b n) := Lib.hid (by rw [show k = (b - a + 1).toNat from by omega]; rfl)
      rw [HK.out] at hio
      go_wp2_with fail
      exact bodyPost_ret (v := u5) (by simp [results, Tryz.results40, go_sem]) rfl ⟨u5, rfl, hio.down hb0.size, b_then hb0 hbr⟩
theorem SameInts_nil (w : World) : Calls Tryz.prog 71 #[.slice none 0 0, .slice none 0 0] w fun r w' => r = .returned (.bool true) ∧ ∃ n, w' = w.drewN n := by
  go_enter Tryz.func71, Tryz.ntmps71
  go_wp2
  go_loopw [5] (fun i wr => i = .int .i64 0 ∧ wr = w) (fun _ _ => 0)
  case atStart => exact ⟨rfl, rfl⟩
  case round =>
    obtain ⟨rfl, rfl⟩ := hrel
    go_wp2
    go_ret
    exact ⟨rfl, 0, rfl⟩
theorem SameInts_same (l : List Int) (b1 b2 : Nat) (v1 v2 : Value) (w : World) (h1 : IntsAt w b1 v1 l) (h2 : IntsAt w b2 v2 l) (hl : l.length ≤ 100000) :
    Calls Tryz.prog 71 #[v1, v2] w fun r w' => r = .returned (.bool true) ∧ ∃ n, w' = w.drewN n := by
  cases l with
  | nil => rw [h1.nil.2 rfl, h2.nil.2 rfl]; exact SameInts_nil w
  | cons x r =>
    obtain ⟨g1, c1, rfl⟩ := ownsRow_succ h1.own
    obtain ⟨g2, c2, rfl⟩ := ownsRow_succ h2.own
    have at1 : ∀ (g c : Nat), w.ownsRow b1 3 1 (.slice (some ⟨g, 0, none⟩) (r.length + 1) c) (r.length + 1) ((x :: r).map (Value.int .i64)) → IntAt w g 0 (x :: r) := fun g c h i hi => by
      have := h.cellAt i (by simpa using hi)
      rw [Nat.zero_add, this]
      rw [List.getElem?_map, List.getElem?_eq_getElem hi, List.getD_eq_getElem?_getD, List.getElem?_eq_getElem hi]
      rfl
    have at2 : ∀ (g c : Nat), w.ownsRow b2 3 1 (.slice (some ⟨g, 0, none⟩) (r.length + 1) c) (r.length + 1) ((x :: r).map (Value.int .i64)) → IntAt w g 0 (x :: r) := fun g c h i hi => by
      have := h.cellAt i (by simpa using hi)
      rw [Nat.zero_add, this]
      rw [List.getElem?_map, List.getElem?_eq_getElem hi, List.getD_eq_getElem?_getD, List.getElem?_eq_getElem hi]
      rfl
    have := SameInts_some (x :: r) (x :: r) g1 0 c1 g2 0 c2 w (at1 g1 c1 h1.own) (at2 g2 c2 h2.own) (by omega) (by omega)
    rw [decide_eq_true rfl] at this
    exact this
theorem list_bad (bad : Int) (w : World) (h : bad ≠ 0) :
    Calls Tryz.prog 37 #[.slice none 0 0, .int .i64 bad, .int .i64 bad, .slice none 0 0] w fun r w' => r = .returned (.bool true) ∧ w' = w := by
  have hb : (bad != 0) = true := by simpa using h
  clear h
  go_enter Tryz.func37, Tryz.ntmps37
  go_wp2_with fail
  go_ret
  exact ⟨rfl, rfl⟩
theorem list_ok (l : List Int) (b1 b2 : Nat) (v1 v2 : Value) (w : World) (h1 : IntsAt w b1 v1 l) (h2 : IntsAt w b2 v2 l) (hl : l.length ≤ 100000) :
    Calls Tryz.prog 37 #[v1, .int .i64 0, .int .i64 0, v2] w fun r w' => r = .returned (.bool true) ∧ ∃ n, w' = w.drewN n := by
  go_enter Tryz.func37, Tryz.ntmps37
  go_wp2_with fail
  refine (SameInts_same l b1 b2 v1 v2 _ h1 h2 hl).mono ?_
  rintro e w1 ⟨rfl, n, rfl⟩
  go_wp2_with fail
  go_ret
  exact ⟨rfl, n, rfl⟩
end Go.Proofs.YtijnabgehlkghaaGreatDoor
