/- Contracts of package calendar: Equivalent of a day of a season, in a season of its kind. -/
import Derived.Test.YtoaimgfekbnijaaDoorNext
namespace Go.Proofs.YtoaimgfekbnijaaDoor
open Go.RowKit
theorem toList_self (s : ByteArray) : (s.toList == s.toList) = true := by simp
def equiRes (F T p : Int) : Value := if F + p ≤ T then .tuple #[.int .i64 (F + p), .int .i64 0] else .tuple #[.int .i64 0, .int .i64 7]
set_option maxRecDepth 100000 in
set_option maxHeartbeats 1000000 in
theorem Equi_ok (d y0 y : Int) (s : ByteArray) (w : World) (ht : HeldTab w) (hs : HeldSea w) (h1 : 2000 ≤ y) (h2 : y ≤ 2272) (h3 : 2000 ≤ y0) (h4 : y0 ≤ 2272) (hk : s = bS ∨ s = bW) (hd1 : fDay y0 s ≤ d) (hd2 : d ≤ lDay y0 s) :
    Calls Tryd.prog 37 #[.int .i64 d, .agg #[.int .i64 y, .string s]] w fun r w' => r = .returned (equiRes (fDay y s) (lDay y s) (d - fDay y0 s)) ∧ Below w.heap.size w w' := by
  have hkz : kindErr s = 0 := by rcases hk with rfl | rfl; exact kind_bS; exact kind_bW
  have HE : Hid (seasonErr y s = 0) := Lib.hid (sea_zero h1 h2 hkz)
  have f0 := seaF h3 h4 hk
  have f1 := seaF h1 h2 hk
  have hF0 := f0.lo; have hT0 := f0.hi; have hl0 := f0.l2
  have hF := f1.lo; have hT := f1.hi; have hl1 := f1.l2; have hm1 := f1.l1; have hm0 := f0.l1
  have HSO := Lib.hid (fun w ht hs => SeasonOf_in d y0 s w ht hs h3 h4 hk hd1 hd2)
  have HT := Lib.hid ht; have HS := Lib.hid hs
  have hse := toList_self s
  clear ht hs hk hkz f0 f1
  obtain ⟨W, HW, hb0, hc0, hc1⟩ : ∃ W, Hid (w.alloc (.cells #[.int .i64 y, .string s] 61) = W) ∧ Below w.heap.size w W ∧ W.cell? ⟨w.heap.size, 0, none⟩ = some (.int .i64 y) ∧ W.cell? ⟨w.heap.size, 1, none⟩ = some (.string s) := ⟨_, Lib.hid rfl, below_alloc w _, by simp, by simp⟩
  go_enter Tryd.func37, Tryd.ntmps37
  go_wp2_with fail
  rw [HW.out]
  refine (HSO.out _ (HT.out.below hb0) (HS.out.below hb0)).mono ?_
  rintro e w1 ⟨rfl, hb1⟩
  have k0 := b_old hb1 hc0
  have k1 := b_old hb1 hc1
  have hb01 := b_then hb0 hb1
  clear hb1 hc0 hc1
  go_wp2_with fail
  obtain ⟨V, hV, hbV, c0, c1, o0, o1⟩ : ∃ V, w1.alloc (.cells #[.int .i64 y0, .string s] 61) = V ∧ Below w.heap.size w V ∧ V.cell? ⟨w.heap.size, 0, none⟩ = some (.int .i64 y) ∧ V.cell? ⟨w.heap.size, 1, none⟩ = some (.string s) ∧ V.cell? ⟨w1.heap.size, 0, none⟩ = some (.int .i64 y0) ∧ V.cell? ⟨w1.heap.size, 1, none⟩ = some (.string s) :=
    ⟨_, rfl, b_then hb01 (below_alloc _ _), b_old (below_alloc _ _) k0, b_old (below_alloc _ _) k1, by simp, by simp⟩
  rw [hV]
  clear hV k0 k1 hb01
  have k0 : ∀ x : KeptW V, x.v.cell? ⟨w.heap.size, 0, none⟩ = some (.int .i64 y) := fun x => x.cell c0
  have k1 : ∀ x : KeptW V, x.v.cell? ⟨w.heap.size, 1, none⟩ = some (.string s) := fun x => x.cell c1
  have l0 : ∀ x : KeptW V, x.v.cell? ⟨w1.heap.size, 0, none⟩ = some (.int .i64 y0) := fun x => x.cell o0
  have l1 : ∀ x : KeptW V, x.v.cell? ⟨w1.heap.size, 1, none⟩ = some (.string s) := fun x => x.cell o1
  have hne : Nonempty (KeptW V) := ⟨⟨V, Below.refl _ _⟩⟩
  refine tail_kept 9 (by kernel_rfl) (by kernel_rfl) ?_
  simp only [List.take_succ_cons, List.take_zero, List.drop_succ_cons, List.drop_zero]
  iterate 2 (go_big_quiet_step (fail))
  go_big_quiet_step (exact KeptW.calls (CheckSeason_any _ _ _))
  iterate 5 (go_big_quiet_step (fail))
  go_big_quiet_step (exact KeptW.calls_same (unless_t _ _))
  refine wpQuiet_nil ?_
  rintro _ ⟨x, rfl⟩
  have m0 := k0 x; have m1 := k1 x; have n0 := l0 x; have n1 := l1 x
  have hbx := b_then hbV x.below
  clear k0 k1 l0 l1 c0 c1 o0 o1 hbV
  go_wp2_with fail
  refine (fe_new [_, _, _] _ _ _ _ _ rfl rfl (by simp)).mono ?_
  rintro e w2 ⟨rfl, hw⟩
  have hb2 : Below x.v.heap.size x.v w2 := by rw [hw]; exact below_alloc _ _
  have k0 := b_old hb2 m0; have k1 := b_old hb2 m1; have l0 := b_old hb2 n0; have l1 := b_old hb2 n1
  have hb02 := b_then hbx hb2
  rw [HE.out, show fst [0, 0, 0] = 0 from rfl]
  clear hw hb2 m0 m1 n0 n1 hbx
  go_wp2_with fail
  refine (firstDay_any _ _ _ (HT.out.below hb02) (by omega) (by omega)).mono ?_
  rintro e w3 ⟨rfl, hb3⟩
  have m0 := b_old hb3 k0; have m1 := b_old hb3 k1
  have hb03 := b_then hb02 hb3
  clear hb3 k0 k1 l0 l1 hb02
  go_wp2_with fail
  refine (firstDay_any _ _ _ (HT.out.below hb03) (by omega) (by omega)).mono ?_
  rintro e w4 ⟨rfl, hb4⟩
  have k0 := b_old hb4 m0; have k1 := b_old hb4 m1
  have hb04 := b_then hb03 hb4
  clear hb4 m0 m1 hb03
  go_wp2_with fail
  refine (lastDay_any _ _ _ (HT.out.below hb04) (by omega) (by omega)).mono ?_
  rintro e w5 ⟨rfl, hb5⟩
  have hb05 := b_then hb04 hb5
  clear hb5 k0 k1 hb04
  by_cases hq : fDay y s + (d - fDay y0 s) ≤ lDay y s
  · have HR : Hid (equiRes (fDay y s) (lDay y s) (d - fDay y0 s) = .tuple #[.int .i64 (fDay y s + (d - fDay y0 s)), .int .i64 0]) := Lib.hid (if_pos hq)
    go_wp2_with fail
    go_ret2
    exact ⟨by rw [HR.out]; rfl, hb05⟩
  · have HR : Hid (equiRes (fDay y s) (lDay y s) (d - fDay y0 s) = .tuple #[.int .i64 0, .int .i64 7]) := Lib.hid (if_neg hq)
    go_wp2_with fail
    go_ret2
    exact ⟨by rw [HR.out]; rfl, hb05⟩
end Go.Proofs.YtoaimgfekbnijaaDoor
