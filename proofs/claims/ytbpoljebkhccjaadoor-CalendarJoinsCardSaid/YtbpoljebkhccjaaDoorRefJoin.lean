/- The reference's Join. -/
import Derived.Test.YtbpoljebkhccjaaDoorJoinRef
import Derived.Test.YtbpoljebkhccjaaDoorRefMask
import Derived.Test.YtbpoljebkhccjaaDoorStr
import Derived.Test.YtbpoljebkhccjaaDoorTailMv
import Derived.Test.YtbpoljebkhccjaaDoorIntsC
import Derived.Laws.OwnMore
namespace Go.Proofs.YtbpoljebkhccjaaDoor
open Go Go.RowKit
theorem infoPer2 : (Tryd.prog.info? 23).map (fun i => (i.zero, i.size, i.bytes)) = some (some (.agg #[.int .i64 0, .int .i64 0, .int .i64 0]), 3, 24) := by kernel_rfl
theorem flat3_len (l : List (Int × Int × Int)) : (flat3 l).length = l.length * 3 := by
  induction l with
  | nil => rfl
  | cons a t ih => rw [show flat3 (a :: t) = [Value.int .i64 a.1, Value.int .i64 a.2.1, Value.int .i64 a.2.2] ++ flat3 t from rfl, List.length_append, ih, List.length_cons]; simp; omega
theorem flat3_at1 (l : List (Int × Int × Int)) (a c d : Int) : (flat3 (l ++ [(a, c, d)]))[l.length * 3 + 1]? = some (.int .i64 c) := by
  rw [flat3_snoc, List.getElem?_append_right (by rw [flat3_len]; omega), flat3_len, Nat.add_sub_cancel_left]; rfl
theorem flat3_at2 (l : List (Int × Int × Int)) (a c d : Int) : (flat3 (l ++ [(a, c, d)]))[l.length * 3 + 2]? = some (.int .i64 d) := by
  rw [flat3_snoc, List.getElem?_append_right (by rw [flat3_len]; omega), flat3_len, Nat.add_sub_cancel_left]; rfl
theorem flat3_set (l : List (Int × Int × Int)) (a c d e : Int) : (flat3 (l ++ [(a, c, d)])).set (l.length * 3 + 1) (.int .i64 e) = flat3 (l ++ [(a, e, d)]) := by
  rw [flat3_snoc, flat3_snoc, List.set_append_right _ _ (by rw [flat3_len]; omega), flat3_len, Nat.add_sub_cancel_left]; rfl
/-- What the loop holds before day number i. -/
def JRel (ds : List Int) (w : World) (wr : World) (v3 v4 : Value) (i : Nat) : Prop :=
  (i = 0 ∧ v3 = .slice none 0 0 ∧ v4 = .int .i64 0) ∨
  ∃ (j k n : Nat) (l : List (Int × Int × Int)) (g cp : Nat), Open ds j k n l i ∧ v3 = .slice (some ⟨g, 0, none⟩) (l.length + 1) cp ∧ v4 = .int .i64 n ∧ l.length < i ∧
    wr.ownsRow w.heap.size 23 3 v3 (l.length + 1) (flat3 (l ++ [(ds.getD k 0, ds.getD (i - 1) 0, wkF ds (wk (ds.getD k 0)))]))
set_option maxRecDepth 100000 in
set_option maxHeartbeats 4000000 in
theorem qJoin_v (b off cap : Nat) (ds : List Int) (w : World) (hb : b < w.heap.size) (hc : ∀ j, j < ds.length → w.cell? ⟨b, off + j, none⟩ = some (.int .i64 (ds.getD j 0))) (hasc : Asc ds) (hl : ds.length ≤ 512) (hpos : 0 < ds.length) :
    Calls Tryd.prog 23 #[.slice (some ⟨b, off, none⟩) ds.length cap] w fun r w' =>
      ∃ v j l, r = .returned v ∧ JoinTo ds (wkF ds) j ds.length l ∧ w'.ownsRow w.heap.size 23 3 v l.length (flat3 l) ∧ Below w.heap.size w w' := by
  have HASC := Lib.hid hasc
  have HC := Lib.hid hc
  obtain ⟨i0, hi, hz0, hz1, hz2⟩ := info_parts infoPer2
  clear hc hasc
  go_enter Tryd.func23, Tryd.ntmps23
  go_wp2_with fail
  go_loopw [3, 4, 5] (fun v3 v4 v5 wr => ∃ i : Nat, i ≤ ds.length ∧ v5 = .int .i64 i ∧ Hid (JRel ds w wr v3 v4 i) ∧ Below w.heap.size w wr) (fun _ _ v5 _ => ds.length - (intOf v5).toNat)
  case atStart => exact ⟨0, Nat.zero_le _, rfl, Lib.hid (.inl ⟨rfl, rfl, rfl⟩), Below.refl _ _⟩
  case round =>
    obtain ⟨i, hi2, rfl, HR, hbr⟩ := hrel
    by_cases hlt : i < ds.length
    · obtain ⟨x, hx⟩ : ∃ x, ds.getD i 0 = x := ⟨_, rfl⟩
      have hxb : 0 ≤ x ∧ x ≤ 99999 := by rw [← hx]; exact HASC.out.bd _ (getD_mem hlt)
      have hcell : ∀ q, q < ds.length → wr.cell? ⟨b, off + q, none⟩ = some (.int .i64 (ds.getD q 0)) := fun q hq => (hbr.cell (by exact hb)).trans (HC.out q hq)
      have HCR := Lib.hid hcell
      have hc0 := hcell i hlt
      rw [hx] at hc0
      obtain ⟨m, hm7, hm, hpm⟩ := wkF_all HASC.out (wk x)
      have HMZ := Lib.hid hm
      have HX := Lib.hid hx
      clear hm hx hcell hpm
      have hwx : 0 ≤ wk x ∧ wk x ≤ 14300 := by unfold wk; omega
      rcases HR.out with ⟨rfl, rfl, rfl⟩ | ⟨j, k, n, l, g, cp, hO, rfl, rfl, hln, hown⟩
      · have hown := World.ownsRow_nil wr w.heap.size 23 3
        have HO : Hid (Open ds 0 0 1 [] 1) := Lib.hid (Open.new .zero (Bd.zero HASC.out) hpos)
        have HK : Hid (([] : List Value) ++ [.int .i64 x, .int .i64 x, .int .i64 m] = flat3 ([] ++ [(ds.getD 0 0, ds.getD (1 - 1) 0, wkF ds (wk (ds.getD 0 0)))])) := Lib.hid (by rw [show 1 - 1 = 0 from rfl, HX.out, HMZ.out]; rfl)
        simp only [Nat.add_zero] at hc0
        clear HR
        go_wp2_with (first
          | (go_at_call 64; refine (qWk_any _ _ (by omega) (by omega)).mono ?_; rintro e w' ⟨rfl, rfl⟩)
          | (go_at_call 65; refine (qWeekMask_v b off cap ds _ _ HCR.out HASC.out hl).mono ?_; rintro e w' ⟨rfl, rfl⟩; rw [HMZ.out]))
        refine quiet_tail_mv (v0 := (.slice none 0 0)) 11 (by kernel_rfl) (by kernel_rfl) rfl (Or.inl ⟨by rfl, fun w => by go_simp⟩) (fun _ _ _ h => h) ?_
        simp only [List.take_succ_cons, List.take_zero, List.drop_succ_cons, List.drop_zero]
        simp only [Act.put, List.setIfInBounds_toArray, List.set_cons_succ, List.set_cons_zero]
        repeat (go_big_quiet_step (fail))
        refine wpQuiet_nil ?_
        intro V hV
        have hbV : Below w'.heap.size w' V := by obtain ⟨q, rfl⟩ := hV; exact ⟨rfl, rfl, rfl, Nat.le_refl _, fun _ _ => rfl⟩
        have hownV := own_below hown hbV
        have hsV : w.heap.size ≤ V.heap.size := Nat.le_trans hbr.size hbV.size
        have hbr2 : Below w.heap.size w V := b_then hbr hbV
        clear hV hown hbr hbV hc0
        iterate 3 go_step
        refine wpList_append_own _ rfl _ _ 37 rfl w.heap.size 23 i0 (.agg #[.int .i64 0, .int .i64 0, .int .i64 0]) 3 24 Tryd.underlying37 hi hz0 hz1 hz2 rfl (by decide) _ 0 _ rfl (hownV.alloc _) ⟨V.heap.size, 0, none⟩ 1 1 [.int .i64 x, .int .i64 x, .int .i64 m] rfl rfl
          (World.news_of_block (cs := #[.int .i64 x, .int .i64 x, .int .i64 m]) (t := 23) (fr := (0, 0)) (heap_alloc_new V _)) (by simp [Value.oneCell']) (by unfold maxLen; omega) (by omega) (by simp; omega) ?_
        intro v' w4 hown' hgrow _
        have hgrow2 : (V.alloc (.cells #[.int .i64 x, .int .i64 x, .int .i64 m] 23)).grownBy w4 ((.slice none 0 0) : Value).ownBlock := hgrow
        have hbr4 : Below w.heap.size w w4 := hbr2.trans (((Below.refl _ V).alloc hsV _).grown hgrow2 (by simp; omega) (own_block hownV))
        clear hgrow hgrow2 hownV hbr2
        rw [HK.out] at hown'
        obtain ⟨g, cp, rfl⟩ := ownsRow_succ hown'
        go_wp2_with fail
        go_roundw
        case rel => exact ⟨1, by omega, by go_num, Lib.hid (.inr ⟨0, 0, 1, [], g, cp, HO.out, rfl, rfl, by simp, hown'⟩), hbr4⟩
        case measure => simp [intOf]; omega
      · obtain ⟨p, rfl⟩ : ∃ p, i = p + 1 := ⟨i - 1, by have := hO.lt; omega⟩
        rw [Nat.add_sub_cancel] at hown
        obtain ⟨y, hy⟩ : ∃ y, ds.getD p 0 = y := ⟨_, rfl⟩
        obtain ⟨d0, hd0⟩ : ∃ d0, ds.getD k 0 = d0 := ⟨_, rfl⟩
        obtain ⟨mf, hmf7, hmf, -⟩ := wkF_all HASC.out (wk d0)
        have hyb : 0 ≤ y ∧ y ≤ 99999 := by rw [← hy]; exact HASC.out.bd _ (getD_mem (by omega))
        have hcy := HCR.out p (by omega)
        have hyx : wk y ≤ wk x := by rw [← hy, ← HX.out]; exact HASC.out.le (by omega) hlt
        have hlast := hO.last
        have hn1 := hO.one
        have hn57 := hO.max
        rw [Nat.add_sub_cancel, hy, hd0] at hlast
        rw [hy, hd0, hmf] at hown
        rw [hy] at hcy
        have HY := Lib.hid hy
        have HD0 := Lib.hid hd0
        have HMF := Lib.hid hmf
        have HO := Lib.hid hO
        have hcs : wr.cell? ⟨g, l.length * 3 + 1, none⟩ = some (.int .i64 y) := by rw [hown.cellAt _ (by omega), flat3_at1]
        have hcd : wr.cell? ⟨g, l.length * 3 + 2, none⟩ = some (.int .i64 mf) := by rw [hown.cellAt _ (by omega), flat3_at2]
        have hfs := hown.frozenAt (l.length * 3 + 1)
        have hwy : 0 ≤ wk y ∧ wk y ≤ 14300 := by unfold wk; omega
        have HST : Hid ((wr.setCell ⟨g, l.length * 3 + 1, none⟩ (.int .i64 x)).ownsRow w.heap.size 23 3 (.slice (some ⟨g, 0, none⟩) (l.length + 1) cp) (l.length + 1) (flat3 (l ++ [(d0, x, (mf : Int))])) ∧ Below w.heap.size w (wr.setCell ⟨g, l.length * 3 + 1, none⟩ (.int .i64 x))) :=
          Lib.hid ⟨by have := (hown.stored (l.length * 3 + 1) (.int .i64 x)).1; rwa [flat3_set] at this, hbr.setCell (hown.lt g rfl).1 _⟩
        have HLAST := Lib.hid hlast
        clear hy hd0 hmf HR hO hlast
        by_cases hA : wk y = wk x
        · have hAb : (wk y == wk x) = true := by simpa using hA
          have HO2 : Hid (Open ds j k n l (p + 1 + 1)) := Lib.hid (HO.out.day hlt (by rw [Nat.add_sub_cancel, HY.out, HX.out]; exact hA))
          clear hA hcd hown
          go_wp2_with (first
            | (go_at_call 64; refine (qWk_any _ _ (by omega) (by omega)).mono ?_; rintro e w' ⟨rfl, rfl⟩)
            | (go_at_call 65; refine (qWeekMask_v b off cap ds _ _ HCR.out HASC.out hl).mono ?_; rintro e w' ⟨rfl, rfl⟩; rw [HMZ.out]))
          go_roundw
          case rel => exact ⟨p + 1 + 1, by omega, by go_num, Lib.hid (.inr ⟨j, k, n, l, g, cp, HO2.out, rfl, rfl, by omega, by rw [Nat.add_sub_cancel, HX.out, HD0.out, HMF.out]; exact HST.out.1⟩), HST.out.2⟩
          case measure => simp [intOf]; omega
        · have hAb : (wk y == wk x) = false := by simpa using hA
          by_cases hB : wk y = wk x - 1
          · have hBb : (wk y == wk x - 1) = true := by simpa using hB
            by_cases hM : mf = m
            · have hM2 := hM.symm
              clear hM
              subst hM2
              by_cases hn : n < 57
              · have hnI : (n : Int) < 57 := by omega
                have HO2 : Hid (Open ds j k (n + 1) l (p + 1 + 1)) := Lib.hid (HO.out.week hlt (by rw [Nat.add_sub_cancel, HY.out, HX.out]; exact hB) (by rw [HX.out, HD0.out, HMZ.out, HMF.out]) hn)
                clear hA hB hown
                go_wp2_with (first
                  | (go_at_call 64; refine (qWk_any _ _ (by omega) (by omega)).mono ?_; rintro e w' ⟨rfl, rfl⟩)
                  | (go_at_call 65; refine (qWeekMask_v b off cap ds _ _ HCR.out HASC.out hl).mono ?_; rintro e w' ⟨rfl, rfl⟩; rw [HMZ.out]))
                go_roundw
                case rel => exact ⟨p + 1 + 1, by omega, by go_num, Lib.hid (.inr ⟨j, k, n + 1, l, g, cp, HO2.out, rfl, by go_num, by omega, by rw [Nat.add_sub_cancel, HX.out, HD0.out, HMF.out]; exact HST.out.1⟩), HST.out.2⟩
                case measure => simp [intOf]; omega
              · have hnI : ¬ (n : Int) < 57 := by omega
                have HS : Hid (JStep ds (wkF ds) k l (p + 1) (l ++ [(d0, y, (m : Int))])) := Lib.hid (by
                  have := HO.out.close HASC.out (fun _ => by rw [Nat.add_sub_cancel, HY.out, HX.out]; omega) (Or.inl (by omega))
                  rwa [Nat.add_sub_cancel, HY.out, HD0.out, HMF.out] at this)
                have HO2 : Hid (Open ds (j + 1) (p + 1) 1 (l ++ [(d0, y, (m : Int))]) (p + 1 + 1)) := Lib.hid (Open.new (.step HO.out.done HS.out) (HS.out.bd HASC.out HO.out.bd) hlt)
                have HK : Hid (flat3 (l ++ [(d0, y, (m : Int))]) ++ [.int .i64 x, .int .i64 x, .int .i64 m] = flat3 ((l ++ [(d0, y, (m : Int))]) ++ [(ds.getD (p + 1) 0, ds.getD (p + 1 + 1 - 1) 0, wkF ds (wk (ds.getD (p + 1) 0)))])) := Lib.hid (by rw [Nat.add_sub_cancel, HX.out, HMZ.out, flat3_snoc (l ++ [_])])
                go_wp2_with (first
                  | (go_at_call 64; refine (qWk_any _ _ (by omega) (by omega)).mono ?_; rintro e w' ⟨rfl, rfl⟩)
                  | (go_at_call 65; refine (qWeekMask_v b off cap ds _ _ HCR.out HASC.out hl).mono ?_; rintro e w' ⟨rfl, rfl⟩; rw [HMZ.out]))
                refine quiet_tail_mv (v0 := (.slice (some ⟨g, 0, none⟩) (l.length + 1) cp)) 11 (by kernel_rfl) (by kernel_rfl) rfl (Or.inl ⟨by rfl, fun w => by go_simp⟩) (fun _ _ _ h => h) ?_
                simp only [List.take_succ_cons, List.take_zero, List.drop_succ_cons, List.drop_zero]
                simp only [Act.put, List.setIfInBounds_toArray, List.set_cons_succ, List.set_cons_zero]
                repeat (go_big_quiet_step (fail))
                refine wpQuiet_nil ?_
                intro V hV
                have hbV : Below w'.heap.size w' V := by obtain ⟨q, rfl⟩ := hV; exact ⟨rfl, rfl, rfl, Nat.le_refl _, fun _ _ => rfl⟩
                have hownV := own_below hown hbV
                have hsV : w.heap.size ≤ V.heap.size := Nat.le_trans hbr.size hbV.size
                have hbr2 : Below w.heap.size w V := b_then hbr hbV
                clear hV hown hbr hbV hc0 hcs hcd hfs hcy
                iterate 3 go_step
                refine wpList_append_own _ rfl _ _ 37 rfl w.heap.size 23 i0 (.agg #[.int .i64 0, .int .i64 0, .int .i64 0]) 3 24 Tryd.underlying37 hi hz0 hz1 hz2 rfl (by decide) _ (l.length + 1) _ rfl (hownV.alloc _) ⟨V.heap.size, 0, none⟩ 1 1 [.int .i64 x, .int .i64 x, .int .i64 m] rfl rfl
                  (World.news_of_block (cs := #[.int .i64 x, .int .i64 x, .int .i64 m]) (t := 23) (fr := (0, 0)) (heap_alloc_new V _)) (by simp [Value.oneCell']) (by unfold maxLen; omega) (by omega) (by simp; omega) ?_
                intro v' w4 hown' hgrow _
                have hgrow2 : (V.alloc (.cells #[.int .i64 x, .int .i64 x, .int .i64 m] 23)).grownBy w4 ((.slice (some ⟨g, 0, none⟩) (l.length + 1) cp) : Value).ownBlock := hgrow
                have hbr4 : Below w.heap.size w w4 := hbr2.trans (((Below.refl _ V).alloc hsV _).grown hgrow2 (by simp; omega) (own_block hownV))
                clear hgrow hgrow2 hownV hbr2
                rw [HK.out] at hown'
                obtain ⟨g2, cp2, rfl⟩ := ownsRow_succ hown'
                go_wp2_with fail
                go_roundw
                case rel => exact ⟨p + 1 + 1, by omega, by go_num, Lib.hid (.inr ⟨j + 1, p + 1, 1, l ++ [(d0, y, (m : Int))], g2, cp2, HO2.out, by simp, rfl, by simp; omega, by simpa using hown'⟩), hbr4⟩
                case measure => simp [intOf]; omega
            · have hMb : ((mf : Int) == (m : Int)) = false := by rw [beq_eq_false_iff_ne]; omega
              have HS : Hid (JStep ds (wkF ds) k l (p + 1) (l ++ [(d0, y, (mf : Int))])) := Lib.hid (by
                have := HO.out.close HASC.out (fun _ => by rw [Nat.add_sub_cancel, HY.out, HX.out]; omega) (Or.inr fun _ => Or.inr (by rw [HX.out, HD0.out, HMZ.out, HMF.out]; omega))
                rwa [Nat.add_sub_cancel, HY.out, HD0.out, HMF.out] at this)
              have HO2 : Hid (Open ds (j + 1) (p + 1) 1 (l ++ [(d0, y, (mf : Int))]) (p + 1 + 1)) := Lib.hid (Open.new (.step HO.out.done HS.out) (HS.out.bd HASC.out HO.out.bd) hlt)
              have HK : Hid (flat3 (l ++ [(d0, y, (mf : Int))]) ++ [.int .i64 x, .int .i64 x, .int .i64 m] = flat3 ((l ++ [(d0, y, (mf : Int))]) ++ [(ds.getD (p + 1) 0, ds.getD (p + 1 + 1 - 1) 0, wkF ds (wk (ds.getD (p + 1) 0)))])) := Lib.hid (by rw [Nat.add_sub_cancel, HX.out, HMZ.out, flat3_snoc (l ++ [_])])
              go_wp2_with (first
                | (go_at_call 64; refine (qWk_any _ _ (by omega) (by omega)).mono ?_; rintro e w' ⟨rfl, rfl⟩)
                | (go_at_call 65; refine (qWeekMask_v b off cap ds _ _ HCR.out HASC.out hl).mono ?_; rintro e w' ⟨rfl, rfl⟩; rw [HMZ.out]))
              refine quiet_tail_mv (v0 := (.slice (some ⟨g, 0, none⟩) (l.length + 1) cp)) 11 (by kernel_rfl) (by kernel_rfl) rfl (Or.inl ⟨by rfl, fun w => by go_simp⟩) (fun _ _ _ h => h) ?_
              simp only [List.take_succ_cons, List.take_zero, List.drop_succ_cons, List.drop_zero]
              simp only [Act.put, List.setIfInBounds_toArray, List.set_cons_succ, List.set_cons_zero]
              repeat (go_big_quiet_step (fail))
              refine wpQuiet_nil ?_
              intro V hV
              have hbV : Below w'.heap.size w' V := by obtain ⟨q, rfl⟩ := hV; exact ⟨rfl, rfl, rfl, Nat.le_refl _, fun _ _ => rfl⟩
              have hownV := own_below hown hbV
              have hsV : w.heap.size ≤ V.heap.size := Nat.le_trans hbr.size hbV.size
              have hbr2 : Below w.heap.size w V := b_then hbr hbV
              clear hV hown hbr hbV hc0 hcs hcd hfs hcy
              iterate 3 go_step
              refine wpList_append_own _ rfl _ _ 37 rfl w.heap.size 23 i0 (.agg #[.int .i64 0, .int .i64 0, .int .i64 0]) 3 24 Tryd.underlying37 hi hz0 hz1 hz2 rfl (by decide) _ (l.length + 1) _ rfl (hownV.alloc _) ⟨V.heap.size, 0, none⟩ 1 1 [.int .i64 x, .int .i64 x, .int .i64 m] rfl rfl
                (World.news_of_block (cs := #[.int .i64 x, .int .i64 x, .int .i64 m]) (t := 23) (fr := (0, 0)) (heap_alloc_new V _)) (by simp [Value.oneCell']) (by unfold maxLen; omega) (by omega) (by simp; omega) ?_
              intro v' w4 hown' hgrow _
              have hgrow2 : (V.alloc (.cells #[.int .i64 x, .int .i64 x, .int .i64 m] 23)).grownBy w4 ((.slice (some ⟨g, 0, none⟩) (l.length + 1) cp) : Value).ownBlock := hgrow
              have hbr4 : Below w.heap.size w w4 := hbr2.trans (((Below.refl _ V).alloc hsV _).grown hgrow2 (by simp; omega) (own_block hownV))
              clear hgrow hgrow2 hownV hbr2
              rw [HK.out] at hown'
              obtain ⟨g2, cp2, rfl⟩ := ownsRow_succ hown'
              go_wp2_with fail
              go_roundw
              case rel => exact ⟨p + 1 + 1, by omega, by go_num, Lib.hid (.inr ⟨j + 1, p + 1, 1, l ++ [(d0, y, (mf : Int))], g2, cp2, HO2.out, by simp, rfl, by simp; omega, by simpa using hown'⟩), hbr4⟩
              case measure => simp [intOf]; omega
          · have hBb : (wk y == wk x - 1) = false := by simpa using hB
            have HS : Hid (JStep ds (wkF ds) k l (p + 1) (l ++ [(d0, y, (mf : Int))])) := Lib.hid (by
              have := HO.out.close HASC.out (fun _ => by rw [Nat.add_sub_cancel, HY.out, HX.out]; omega) (Or.inr fun _ => Or.inl (by have := HLAST.out; rw [HX.out, HD0.out]; omega))
              rwa [Nat.add_sub_cancel, HY.out, HD0.out, HMF.out] at this)
            have HO2 : Hid (Open ds (j + 1) (p + 1) 1 (l ++ [(d0, y, (mf : Int))]) (p + 1 + 1)) := Lib.hid (Open.new (.step HO.out.done HS.out) (HS.out.bd HASC.out HO.out.bd) hlt)
            have HK : Hid (flat3 (l ++ [(d0, y, (mf : Int))]) ++ [.int .i64 x, .int .i64 x, .int .i64 m] = flat3 ((l ++ [(d0, y, (mf : Int))]) ++ [(ds.getD (p + 1) 0, ds.getD (p + 1 + 1 - 1) 0, wkF ds (wk (ds.getD (p + 1) 0)))])) := Lib.hid (by rw [Nat.add_sub_cancel, HX.out, HMZ.out, flat3_snoc (l ++ [_])])
            go_wp2_with (first
              | (go_at_call 64; refine (qWk_any _ _ (by omega) (by omega)).mono ?_; rintro e w' ⟨rfl, rfl⟩)
              | (go_at_call 65; refine (qWeekMask_v b off cap ds _ _ HCR.out HASC.out hl).mono ?_; rintro e w' ⟨rfl, rfl⟩; rw [HMZ.out]))
            refine quiet_tail_mv (v0 := (.slice (some ⟨g, 0, none⟩) (l.length + 1) cp)) 11 (by kernel_rfl) (by kernel_rfl) rfl (Or.inl ⟨by rfl, fun w => by go_simp⟩) (fun _ _ _ h => h) ?_
            simp only [List.take_succ_cons, List.take_zero, List.drop_succ_cons, List.drop_zero]
            simp only [Act.put, List.setIfInBounds_toArray, List.set_cons_succ, List.set_cons_zero]
            repeat (go_big_quiet_step (fail))
            refine wpQuiet_nil ?_
            intro V hV
            have hbV : Below w'.heap.size w' V := by obtain ⟨q, rfl⟩ := hV; exact ⟨rfl, rfl, rfl, Nat.le_refl _, fun _ _ => rfl⟩
            have hownV := own_below hown hbV
            have hsV : w.heap.size ≤ V.heap.size := Nat.le_trans hbr.size hbV.size
            have hbr2 : Below w.heap.size w V := b_then hbr hbV
            clear hV hown hbr hbV hc0 hcs hcd hfs hcy
            iterate 3 go_step
            refine wpList_append_own _ rfl _ _ 37 rfl w.heap.size 23 i0 (.agg #[.int .i64 0, .int .i64 0, .int .i64 0]) 3 24 Tryd.underlying37 hi hz0 hz1 hz2 rfl (by decide) _ (l.length + 1) _ rfl (hownV.alloc _) ⟨V.heap.size, 0, none⟩ 1 1 [.int .i64 x, .int .i64 x, .int .i64 m] rfl rfl
              (World.news_of_block (cs := #[.int .i64 x, .int .i64 x, .int .i64 m]) (t := 23) (fr := (0, 0)) (heap_alloc_new V _)) (by simp [Value.oneCell']) (by unfold maxLen; omega) (by omega) (by simp; omega) ?_
            intro v' w4 hown' hgrow _
            have hgrow2 : (V.alloc (.cells #[.int .i64 x, .int .i64 x, .int .i64 m] 23)).grownBy w4 ((.slice (some ⟨g, 0, none⟩) (l.length + 1) cp) : Value).ownBlock := hgrow
            have hbr4 : Below w.heap.size w w4 := hbr2.trans (((Below.refl _ V).alloc hsV _).grown hgrow2 (by simp; omega) (own_block hownV))
            clear hgrow hgrow2 hownV hbr2
            rw [HK.out] at hown'
            obtain ⟨g2, cp2, rfl⟩ := ownsRow_succ hown'
            go_wp2_with fail
            go_roundw
            case rel => exact ⟨p + 1 + 1, by omega, by go_num, Lib.hid (.inr ⟨j + 1, p + 1, 1, l ++ [(d0, y, (mf : Int))], g2, cp2, HO2.out, by simp, rfl, by simp; omega, by simpa using hown'⟩), hbr4⟩
            case measure => simp [intOf]; omega
    · have hin : i = ds.length := by omega
      subst hin
      rcases HR.out with ⟨h0, -, -⟩ | ⟨j, k, n, l, g, cp, hO, rfl, rfl, hln, hown⟩
      · omega
      · have HS := Lib.hid (hO.close HASC.out (fun h => absurd h (by omega)) (Or.inr fun h => absurd h (by omega)))
        have HO := Lib.hid hO
        clear hO HR
        go_wp2_with fail
        go_ret
        exact ⟨_, j + 1, _, rfl, .step HO.out.done HS.out, by simpa using hown, hbr⟩
end Go.Proofs.YtbpoljebkhccjaaDoor
