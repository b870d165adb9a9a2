/- The walk of CalendarJoins. -/
import Derived.Test.YtbpoljebkhccjaaDoorAwake
import Derived.Test.YtbpoljebkhccjaaDoorRefJoin
import Derived.Test.YtbpoljebkhccjaaDoorJoinE
import Derived.Test.YtbpoljebkhccjaaDoorRefDaysC
import Derived.Test.YtbpoljebkhccjaaDoorSamePer
import Derived.WideShapes
namespace Go.Proofs.YtbpoljebkhccjaaDoor
open Go Go.RowKit
/-- A value that is a slice of integers: one of length 0, or one whose cells hold them. -/
def SlI (w : World) (v : Value) (ds : List Int) : Prop :=
  (∃ A c, v = .slice A 0 c ∧ ds = []) ∨ ∃ b off cap, v = .slice (some ⟨b, off, none⟩) ds.length cap ∧ b < w.heap.size ∧ 0 < ds.length ∧ ∀ j, j < ds.length → w.cell? ⟨b, off + j, none⟩ = some (.int .i64 (ds.getD j 0))
theorem infoInt3 : (Tryd.prog.info? 3).map (fun i => (i.zero, i.size, i.bytes)) = some (some (.int .i64 0), 1, 8) := by kernel_rfl
set_option maxRecDepth 100000 in
theorem qJoin_zero (A : Option Addr) (c : Nat) (w : World) :
    Calls Tryd.prog 23 #[.slice A 0 c] w fun r w' => r = .returned (.slice none 0 0) ∧ w' = w := by
  go_enter Tryd.func23, Tryd.ntmps23
  go_wp2_with fail
  go_loopw [3, 4, 5] (fun v3 v4 v5 wr => v3 = .slice none 0 0 ∧ v5 = .int .i64 0 ∧ wr = w) (fun _ _ _ _ => 0)
  case atStart => exact ⟨rfl, rfl, rfl⟩
  case round =>
    obtain ⟨rfl, rfl, rfl⟩ := hrel
    go_wp2_with fail
    go_ret
    exact ⟨rfl, rfl⟩
set_option maxRecDepth 100000 in
set_option maxHeartbeats 4000000 in
theorem Joins_true (v : Value) (ds : List Int) (w : World) (hs : SlI w v ds) (hl : Ev.Reads lst w) :
    Calls Tryd.prog 4 #[v] w (IsTrue w) := by
  have HL := Lib.hid hl
  clear hl
  obtain ⟨i0, hi, hz0, hz1, hz2⟩ := info_parts infoInt3
  rcases hs with ⟨A, c, rfl, rfl⟩ | ⟨b, off, cap, rfl, hb, hpos, hc⟩
  · go_enter Tryd.func4, Tryd.ntmps4
    go_wp2_with fail
    refine (awake_true _ HL.out).mono ?_
    rintro e w1 ⟨rfl, hb1⟩
    cases A with
    | none =>
      go_wp2_with fail
      refine (Join_zero _ _ _).mono ?_
      rintro e w2 ⟨rfl, hb2⟩
      have hbx := b_then hb1 (b_then (below_alloc w1 (.cells #[] 3)) hb2)
      clear hb1 hb2
      go_wp2_with fail
      refine (qCheckDays_zero _ _ _).mono ?_
      rintro e w3 ⟨rfl, rfl⟩
      go_wp2_with fail
      refine (qJoin_zero _ _ _).mono ?_
      rintro e w4 ⟨rfl, rfl⟩
      go_wp2_with fail
      refine (SamePeriods_zero _ _ _ _ _).mono ?_
      rintro e w5 ⟨rfl, q, rfl⟩
      go_wp2_with fail
      go_ret
      exact ⟨rfl, b_drewN hbx q⟩
    | some a =>
      go_wp2_with fail
      refine (Join_zero _ _ _).mono ?_
      rintro e w2 ⟨rfl, hb2⟩
      have hbx := b_then hb1 (b_then (below_alloc w1 (.cells #[] 3)) hb2)
      clear hb1 hb2
      go_wp2_with fail
      refine (qCheckDays_zero _ _ _).mono ?_
      rintro e w3 ⟨rfl, rfl⟩
      go_wp2_with fail
      refine (qJoin_zero _ _ _).mono ?_
      rintro e w4 ⟨rfl, rfl⟩
      go_wp2_with fail
      refine (SamePeriods_zero _ _ _ _ _).mono ?_
      rintro e w5 ⟨rfl, q, rfl⟩
      go_wp2_with fail
      go_ret
      exact ⟨rfl, b_drewN hbx q⟩
  · have HC := Lib.hid hc
    clear hc
    go_enter Tryd.func4, Tryd.ntmps4
    go_wp2_with fail
    refine (awake_true _ HL.out).mono ?_
    rintro e w1 ⟨rfl, hb1⟩
    by_cases hlen : ds.length ≤ 120 ∨ ds.length = 513 ∨ ds.length = 514
    · have HN : Hid (∀ (j : Nat) (u : Value), (ds.map (Value.int .i64))[j]? = some u → (w1.alloc (.cells #[] 3)).cell? ((⟨b, off, none⟩ : Addr).add j) = some u) := Lib.hid fun j u hu => by
        have hj : j < ds.length := by
          have := (List.getElem?_eq_some_iff.1 hu).1
          simpa using this
        have e : u = .int .i64 (ds.getD j 0) := by
          rw [List.getElem?_map, List.getElem?_eq_getElem hj] at hu
          simp only [Option.map_some, Option.some.injEq] at hu
          rw [← hu]; simp [hj]
        rw [e, Go.WideShapes.add_plain]
        exact b_old (below_alloc w1 _) ((hb1.cell (by exact hb)).trans (HC.out j hj))
      have HO1 : Hid (∀ u ∈ ds.map (Value.int .i64), u.oneCell' = true) := Lib.hid fun u hu => by
        obtain ⟨x, -, rfl⟩ := List.mem_map.1 hu
        rfl
      have h514' : ¬ (514 : Int) < ds.length := by omega
      rcases Nat.lt_or_ge 120 ds.length with h1 | h1
      · have h1' : (120 : Int) < ds.length := by omega
        have h512 : ¬ (ds.length : Int) ≤ 512 := by omega
        go_wp2_with (first
          | (refine wpList_append_own _ rfl _ _ 36 rfl w1.heap.size 3 i0 (.int .i64 0) 1 8 Tryd.underlying36 hi hz0 hz1 hz2 rfl (by decide) _ 0 [] rfl (World.ownsRow_lit w1 #[] 0 (Nat.le_refl _) (by unfold maxLen; omega) rfl) ⟨b, off, none⟩ ds.length cap (ds.map (Value.int .i64)) rfl (by simp) HN.out HO1.out (by unfold maxLen; omega) (by omega) (by simp) ?_)
          | fail)
        intro v' w4 hown hgrow _
        have hbr4 : Below w1.heap.size w1 w4 := ((Below.refl _ w1).alloc (Nat.le_refl _) _).grown hgrow (by simp) (by intro k hk; simp only [Value.ownBlock, Option.some.injEq] at hk; omega)
        have hb4 := b_then hb1 hbr4
        clear hgrow hbr4 hb1
        obtain ⟨g, cp, rfl⟩ := ownsRow_succ (k := ds.length - 1) (by rw [Nat.sub_add_cancel hpos]; exact hown)
        rw [Nat.sub_add_cancel hpos] at hown ⊢
        have HCV : Hid (∀ j, j < ds.length → w4.cell? ⟨g, 0 + j, none⟩ = some (.int .i64 (ds.getD j 0))) := Lib.hid fun j hj => by
          rw [Nat.zero_add, hown.cellAt j (by omega)]
          simp [hj]
        have HFV : Hid (∀ j, j < ds.length → w4.frozen? ⟨g, 0 + j, none⟩ = false) := Lib.hid fun j _ => hown.frozenAt _
        have hg4 := own_lt hown g rfl
        have hcp : ds.length ≤ cp := by
          rcases hown.2 with ⟨h, -⟩ | ⟨g', cap', cur, h, -, -, h2, -⟩
          · cases h
          · simp only [Value.slice.injEq] at h
            omega
        clear hown
        have HC4 : Hid (∀ w5, Below w4.heap.size w4 w5 → ∀ j, j < ds.length → w5.cell? ⟨b, off + j, none⟩ = some (.int .i64 (ds.getD j 0))) := Lib.hid fun w5 h5 j hj => (h5.cell (by have := hb4.size; exact Nat.lt_of_lt_of_le hb this)).trans ((hb4.cell (by exact hb)).trans (HC.out j hj))
        go_wp2_with fail
        by_cases he : ascErr ds = 0
        · have HE := Lib.hid he
          have HASC := Lib.hid (asc_of he)
          refine (Join_ok g 0 cp ds _ hg4 HCV.out HFV.out he hcp).mono ?_
          rintro e w5 ⟨v, j, l, rfl, hj, hown5, hb5⟩
          have HJ := Lib.hid hj
          have hb45 := b_then hb4 hb5
          clear he hj HCV HFV
          go_wp2_with fail
          refine (qCheckDays_v b off cap ds _ (Nat.lt_of_lt_of_le hb hb45.size) (HC4.out _ hb5) (by omega)).mono ?_
          rintro e w6 ⟨rfl, hb6⟩
          rw [HE.out]
          have hown6 := own_below hown5 hb6
          have hb46 := b_then hb5 hb6
          clear hown5 hb5
          have hb06 := b_then hb45 hb6
          clear hb45 hb6
          go_wp2_with fail
          refine (qJoin_v b off cap ds _ (Nat.lt_of_lt_of_le hb hb06.size) (HC4.out _ hb46) HASC.out.1 HASC.out.2 hpos).mono ?_
          rintro e w7 ⟨v2, j2, l2, rfl, hj2, hown7, hb7⟩
          obtain rfl : l = l2 := HJ.out.end hj2
          have hown67 := own_below hown6 hb7
          have hb07 := b_then hb06 hb7
          have hll : l.length ≤ 1000 := Nat.le_trans (JoinTo.len HASC.out.1 HJ.out) (by have := HASC.out.2; omega)
          clear hj2 hown6 hb06 hb46 hb7
          go_wp2_with fail
          refine (SamePeriods_same l _ _ _ _ _ hown67 hown7 hll).mono ?_
          rintro e w8 ⟨rfl, q, rfl⟩
          go_wp2_with fail
          go_ret
          exact ⟨rfl, b_drewN hb07 q⟩
        · have hEb : (ascErr ds != 0) = true := by simpa using he
          refine (Join_err g 0 cp ds _ hg4 HCV.out (by omega) he).mono ?_
          rintro e w5 ⟨rfl, hb5⟩
          have hb45 := b_then hb4 hb5
          have HB5 := Lib.hid (HC4.out _ hb5)
          clear he HCV HFV HC4 hb5
          go_wp2_with fail
          refine (qCheckDays_v b off cap ds _ (Nat.lt_of_lt_of_le hb hb45.size) HB5.out (by omega)).mono ?_
          rintro e w6 ⟨rfl, hb6⟩
          have hb06 := b_then hb45 hb6
          clear hb45 hb6 HB5
          generalize ascErr ds = E at *
          go_wp2_with fail
          go_ret
          exact ⟨rfl, hb06⟩
      · have h1' : ¬ (120 : Int) < ds.length := by omega
        go_wp2_with (first
          | (refine wpList_append_own _ rfl _ _ 36 rfl w1.heap.size 3 i0 (.int .i64 0) 1 8 Tryd.underlying36 hi hz0 hz1 hz2 rfl (by decide) _ 0 [] rfl (World.ownsRow_lit w1 #[] 0 (Nat.le_refl _) (by unfold maxLen; omega) rfl) ⟨b, off, none⟩ ds.length cap (ds.map (Value.int .i64)) rfl (by simp) HN.out HO1.out (by unfold maxLen; omega) (by omega) (by simp) ?_)
          | fail)
        intro v' w4 hown hgrow _
        have hbr4 : Below w1.heap.size w1 w4 := ((Below.refl _ w1).alloc (Nat.le_refl _) _).grown hgrow (by simp) (by intro k hk; simp only [Value.ownBlock, Option.some.injEq] at hk; omega)
        have hb4 := b_then hb1 hbr4
        clear hgrow hbr4 hb1
        obtain ⟨g, cp, rfl⟩ := ownsRow_succ (k := ds.length - 1) (by rw [Nat.sub_add_cancel hpos]; exact hown)
        rw [Nat.sub_add_cancel hpos] at hown ⊢
        have HCV : Hid (∀ j, j < ds.length → w4.cell? ⟨g, 0 + j, none⟩ = some (.int .i64 (ds.getD j 0))) := Lib.hid fun j hj => by
          rw [Nat.zero_add, hown.cellAt j (by omega)]
          simp [hj]
        have HFV : Hid (∀ j, j < ds.length → w4.frozen? ⟨g, 0 + j, none⟩ = false) := Lib.hid fun j _ => hown.frozenAt _
        have hg4 := own_lt hown g rfl
        have hcp : ds.length ≤ cp := by
          rcases hown.2 with ⟨h, -⟩ | ⟨g', cap', cur, h, -, -, h2, -⟩
          · cases h
          · simp only [Value.slice.injEq] at h
            omega
        clear hown
        have HC4 : Hid (∀ w5, Below w4.heap.size w4 w5 → ∀ j, j < ds.length → w5.cell? ⟨b, off + j, none⟩ = some (.int .i64 (ds.getD j 0))) := Lib.hid fun w5 h5 j hj => (h5.cell (by have := hb4.size; exact Nat.lt_of_lt_of_le hb this)).trans ((hb4.cell (by exact hb)).trans (HC.out j hj))
        go_wp2_with fail
        by_cases he : ascErr ds = 0
        · have HE := Lib.hid he
          have HASC := Lib.hid (asc_of he)
          refine (Join_ok g 0 cp ds _ hg4 HCV.out HFV.out he hcp).mono ?_
          rintro e w5 ⟨v, j, l, rfl, hj, hown5, hb5⟩
          have HJ := Lib.hid hj
          have hb45 := b_then hb4 hb5
          clear he hj HCV HFV
          go_wp2_with fail
          refine (qCheckDays_v b off cap ds _ (Nat.lt_of_lt_of_le hb hb45.size) (HC4.out _ hb5) (by omega)).mono ?_
          rintro e w6 ⟨rfl, hb6⟩
          rw [HE.out]
          have hown6 := own_below hown5 hb6
          have hb46 := b_then hb5 hb6
          clear hown5 hb5
          have hb06 := b_then hb45 hb6
          clear hb45 hb6
          go_wp2_with fail
          refine (qJoin_v b off cap ds _ (Nat.lt_of_lt_of_le hb hb06.size) (HC4.out _ hb46) HASC.out.1 HASC.out.2 hpos).mono ?_
          rintro e w7 ⟨v2, j2, l2, rfl, hj2, hown7, hb7⟩
          obtain rfl : l = l2 := HJ.out.end hj2
          have hown67 := own_below hown6 hb7
          have hb07 := b_then hb06 hb7
          have hll : l.length ≤ 1000 := Nat.le_trans (JoinTo.len HASC.out.1 HJ.out) (by have := HASC.out.2; omega)
          clear hj2 hown6 hb06 hb46 hb7
          go_wp2_with fail
          refine (SamePeriods_same l _ _ _ _ _ hown67 hown7 hll).mono ?_
          rintro e w8 ⟨rfl, q, rfl⟩
          go_wp2_with fail
          go_ret
          exact ⟨rfl, b_drewN hb07 q⟩
        · have hEb : (ascErr ds != 0) = true := by simpa using he
          refine (Join_err g 0 cp ds _ hg4 HCV.out (by omega) he).mono ?_
          rintro e w5 ⟨rfl, hb5⟩
          have hb45 := b_then hb4 hb5
          have HB5 := Lib.hid (HC4.out _ hb5)
          clear he HCV HFV HC4 hb5
          go_wp2_with fail
          refine (qCheckDays_v b off cap ds _ (Nat.lt_of_lt_of_le hb hb45.size) HB5.out (by omega)).mono ?_
          rintro e w6 ⟨rfl, hb6⟩
          have hb06 := b_then hb45 hb6
          clear hb45 hb6 HB5
          generalize ascErr ds = E at *
          go_wp2_with fail
          go_ret
          exact ⟨rfl, hb06⟩
    · rcases Nat.lt_or_ge 514 ds.length with h1 | h1
      · have h1' : (514 : Int) < ds.length := by omega
        have h2' : (120 : Int) < ds.length := by omega
        have h512 : ¬ (ds.length : Int) ≤ 512 := by omega
        go_wp2_with fail
        refine (awake_true _ (reads_below HL.out hb1)).mono ?_
        rintro e w2 ⟨rfl, hb2⟩
        go_wp2_with fail
        go_ret
        exact ⟨rfl, b_then hb1 hb2⟩
      · have h2' : (120 : Int) < ds.length := by omega
        have h512 : (ds.length : Int) ≤ 512 := by omega
        go_wp2_with fail
        refine (awake_true _ (reads_below HL.out hb1)).mono ?_
        rintro e w2 ⟨rfl, hb2⟩
        go_wp2_with fail
        go_ret
        exact ⟨rfl, b_then hb1 hb2⟩
end Go.Proofs.YtbpoljebkhccjaaDoor
