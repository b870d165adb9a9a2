/- Contracts: a zone of the program as one of the reference. -/
import Derived.Test.YtijnabgehlkghaaGreatDoorZoneC
namespace Go.Proofs.YtijnabgehlkghaaGreatDoor
open Go Go.RowKit
structure ZC (w W : World) (o : Int) (v : Value) (c : Nat) (l : List (Int × Int)) (wr : World) : Prop where
  c0 : wr.cell? ⟨w.heap.size + 2, 0, none⟩ = some (.int .i64 o)
  c1 : wr.cell? ⟨w.heap.size + 2, 1, none⟩ = some v
  f1 : wr.frozen? ⟨w.heap.size + 2, 1, none⟩ = false
  own : wr.ownsRow (w.heap.size + 3) 126 2 v c (flat2 l)
  res : Res 2 (w.heap.size + 1) W wr
  hs : w.heap.size + 3 ≤ wr.heap.size
theorem ZC.step {w W wr w4 : World} {o : Int} {v v1 : Value} {c : Nat} {l : List (Int × Int)} {ob ob2 : Obj} {a b : Int} (h : ZC w W o v c l wr) (hg : ((wr.alloc ob).alloc ob2).grownBy w4 v.ownBlock) (ho : w4.ownsRow (w.heap.size + 3) 126 2 v1 (c + 1) (flat2 l ++ [.int .i64 a, .int .i64 b])) :
    ZC w W o v1 (c + 1) (l ++ [(a, b)]) (w4.setCell ⟨w.heap.size + 2, 1, none⟩ v1) ∧ w4.cell? ⟨w.heap.size + 2, 1, none⟩ = some v ∧ w4.frozen? ⟨w.heap.size + 2, 1, none⟩ = false := by
  have hb4 : Below (w.heap.size + 3) wr w4 := (((Below.refl _ _).alloc h.hs ob).alloc (by have := h.hs; simp; omega) ob2).grown hg (by have := h.hs; simp; omega) (own_block h.own)
  have q1 : w4.cell? ⟨w.heap.size + 2, 1, none⟩ = some v := b_keep hb4 (by omega) h.c1
  have q0 : w4.cell? ⟨w.heap.size + 2, 0, none⟩ = some (.int .i64 o) := b_keep hb4 (by omega) h.c0
  have p1 : w4.frozen? ⟨w.heap.size + 2, 1, none⟩ = false := by rw [hb4.frozen (p := ⟨w.heap.size + 2, 1, none⟩) (Nat.lt_succ_self _)]; exact h.f1
  refine ⟨⟨set_other q0 (by simp), set_same q1, by rw [World.frozen?_setCell]; exact p1, ?_, ?_, ?_⟩, q1, p1⟩
  · have e : flat2 (l ++ [(a, b)]) = flat2 l ++ [.int .i64 a, .int .i64 b] := by simp [flat2]
    rw [e]
    exact ownsRow_setCell_below (a := ⟨w.heap.size + 2, 1, none⟩) ho (Nat.lt_succ_self _) _
  · exact h.res.up ((hb4.mono (Nat.le_succ _)).setCell (p := ⟨w.heap.size + 2, 1, none⟩) (Nat.le_refl _) v1)
  · rw [set_size]; exact Nat.le_trans h.hs hb4.size
/-- Three blocks of two cells are made. -/
theorem three_new (w : World) (a0 a1 b0 b1 c0 c1 : Value) (T1 T2 T3 : TypeId) : ∃ W, Hid (((w.alloc (.cells #[a0, a1] T1)).alloc (.cells #[b0, b1] T2)).alloc (.cells #[c0, c1] T3) = W) ∧ Below w.heap.size w W ∧ Res 2 (w.heap.size + 1) W W ∧ W.cell? ⟨w.heap.size, 0, none⟩ = some a0 ∧ W.cell? ⟨w.heap.size, 1, none⟩ = some a1 ∧ W.cell? ⟨w.heap.size + 2, 0, none⟩ = some c0 ∧ W.cell? ⟨w.heap.size + 2, 1, none⟩ = some c1 ∧ W.frozen? ⟨w.heap.size + 2, 1, none⟩ = false ∧ w.heap.size + 3 ≤ W.heap.size := by
  refine ⟨_, Lib.hid rfl, ?_, ?_, ?_, ?_, ?_, ?_, ?_, ?_⟩
  · exact (below_alloc2 w _ _).alloc (by rw [World.size_alloc, World.size_alloc]; omega) _
  · have hb := below_alloc ((w.alloc (.cells #[a0, a1] T1)).alloc (.cells #[b0, b1] T2)) (.cells #[c0, c1] T3)
    have q0 : ((w.alloc (.cells #[a0, a1] T1)).alloc (.cells #[b0, b1] T2)).cell? ⟨w.heap.size + 1, 0, none⟩ = some b0 := by simp
    have q1 : ((w.alloc (.cells #[a0, a1] T1)).alloc (.cells #[b0, b1] T2)).cell? ⟨w.heap.size + 1, 1, none⟩ = some b1 := by simp
    have p0 : ((w.alloc (.cells #[a0, a1] T1)).alloc (.cells #[b0, b1] T2)).frozen? ⟨w.heap.size + 1, 0, none⟩ = false := by simp
    have p1 : ((w.alloc (.cells #[a0, a1] T1)).alloc (.cells #[b0, b1] T2)).frozen? ⟨w.heap.size + 1, 1, none⟩ = false := by simp
    exact ⟨fun i hi => by
      match i, hi with
      | 0, _ => exact ⟨b0, b_old hb q0⟩
      | 1, _ => exact ⟨b1, b_old hb q1⟩, fun i hi => by
      match i, hi with
      | 0, _ => exact b_frozen hb q0 p0
      | 1, _ => exact b_frozen hb q1 p1, Below.refl _ _⟩
  · exact b_old (below_alloc _ _) (show ((w.alloc (.cells #[a0, a1] T1)).alloc (.cells #[b0, b1] T2)).cell? ⟨w.heap.size, 0, none⟩ = some a0 by simp)
  · exact b_old (below_alloc _ _) (show ((w.alloc (.cells #[a0, a1] T1)).alloc (.cells #[b0, b1] T2)).cell? ⟨w.heap.size, 1, none⟩ = some a1 by simp)
  all_goals (have hsz : ((w.alloc (.cells #[a0, a1] T1)).alloc (.cells #[b0, b1] T2)).heap.size = w.heap.size + 2 := by rw [World.size_alloc, World.size_alloc])
  · have := cell_fresh ((w.alloc (.cells #[a0, a1] T1)).alloc (.cells #[b0, b1] T2)) [c0, c1] T3 0 c0 rfl
    rw [hsz] at this; exact this
  · have := cell_fresh ((w.alloc (.cells #[a0, a1] T1)).alloc (.cells #[b0, b1] T2)) [c0, c1] T3 1 c1 rfl
    rw [hsz] at this; exact this
  · have : (((w.alloc (.cells #[a0, a1] T1)).alloc (.cells #[b0, b1] T2)).alloc (.cells #[c0, c1] T3)).frozen? ⟨((w.alloc (.cells #[a0, a1] T1)).alloc (.cells #[b0, b1] T2)).heap.size, 1, none⟩ = false := by
      generalize (w.alloc (.cells #[a0, a1] T1)).alloc (.cells #[b0, b1] T2) = V
      simp
    rw [hsz] at this; exact this
  · rw [World.size_alloc, World.size_alloc, World.size_alloc]; omega
set_option maxRecDepth 100000 in
set_option maxHeartbeats 2000000 in
theorem zone_some (o : Int) (cs : List (Int × Int)) (n g p : Nat) (w : World) (hc : ChAt w g 0 cs) (hl : cs.length = n) (h0 : 1 ≤ n) (hn : n ≤ 1000) :
    Calls Tryz.prog 53 #[.agg #[.int .i64 o, .slice (some ⟨g, 0, none⟩) n p]] w fun r w' => ∃ v, r = .returned (.agg #[.int .i64 o, v]) ∧ w'.ownsRow w.heap.size 126 2 v n (flat2 cs) ∧ Below w.heap.size w w' := by
  obtain ⟨i0, hi, hz0, hz1, hz2⟩ := info_parts infoQChg
  obtain ⟨W, HW, hb0, R0, a0, a1, c0, c1, f1, hsz⟩ := three_new w (.int .i64 o) (.slice (some ⟨g, 0, none⟩) n p) (.int .i64 0) (.slice none 0 0) (.int .i64 o) (.slice none 0 0) 79 82 82
  have hg0 := cell_in (hc.m 0 (by omega))
  have HG : Hid (g < w.heap.size) := Lib.hid hg0
  clear hg0
  have HC := Lib.hid (hc.below hb0)
  clear hc
  go_enter Tryz.func53, Tryz.ntmps53
  go_wp2_with fail
  rw [HW.out]
  go_loopw [5, 12] (fun _ i wr => ∃ (k : Nat) (v : Value), k ≤ n ∧ i = .int .i64 k ∧ ZC w W o v k (cs.take k) wr) (fun _ i _ => n - (intOf i).toNat)
  case atStart => exact ⟨0, .slice none 0 0, Nat.zero_le _, rfl, ⟨c0, c1, f1, by rw [List.take_zero]; exact World.ownsRow_nil _ _ _ _, R0, hsz⟩⟩
  case round =>
    obtain ⟨k, v, hk, rfl, hz⟩ := hrel
    have d0 := hz.c0
    have d1 := hz.c1
    by_cases hlt : k < n
    · have hbr : Below (w.heap.size + 1) W wr := hz.res.below
      have xm := HC.out.m k (by omega)
      have xo := HC.out.o k (by omega)
      simp only [Nat.zero_add] at xm xo
      have hg : g < w.heap.size + 1 := Nat.lt_succ_of_lt HG.out
      have ym := b_keep hbr hg xm
      have yo := b_keep hbr hg xo
      have HT : Hid (cs.take (k + 1) = cs.take k ++ [((cs.getD k (0, 0)).1, (cs.getD k (0, 0)).2)]) := Lib.hid (by
        rw [List.take_add_one, List.getElem?_eq_getElem (by omega), List.getD_eq_getElem?_getD, List.getElem?_eq_getElem (by omega)]; rfl)
      clear xm xo hg
      generalize (cs.getD k (0, 0)).1 = m at *
      generalize (cs.getD k (0, 0)).2 = x at *
      have HN1 : Hid (∀ (V : World) (m1 m2 : Int) (N : Nat), (∃ V0 : World, V.heap = (V0.alloc (.cells #[.int .i64 m1, .int .i64 m2] 126)).heap ∧ V0.heap.size = N) → ∀ (j : Nat) (u : Value), ([.int .i64 m1, .int .i64 m2] : List Value)[j]? = some u → V.cell? ((⟨N, 0, none⟩ : Addr).add j) = some u) :=
        Lib.hid (fun V m1 m2 N ⟨V0, hV, hN⟩ => by subst hN; exact news_heap (World.news_of_block (cs := #[.int .i64 m1, .int .i64 m2]) (t := 126) (fr := (0, 0)) (heap_alloc_new V0 _)) hV)
      have hs := hz.hs
      have dA : ∀ ob, (wr.alloc ob).cell? ⟨w.heap.size + 2, 1, none⟩ = some v := fun ob => b_old (below_alloc _ _) d1
      go_wp2_with (at_builtin; refine Hid.out ?_)
      refine Lib.hid ?_
      refine wpList_append_own _ rfl _ _ 80 rfl (w.heap.size + 3) 126 i0 (.agg #[.int .i64 0, .int .i64 0]) 2 16 Tryz.underlying80 hi hz0 hz1 hz2 rfl (by decide) v k _ rfl ((hz.own.alloc _).alloc _) ⟨wr.heap.size + 1, 0, none⟩ 1 1 [.int .i64 m, .int .i64 x] rfl rfl
        (HN1.out _ _ _ _ ⟨_, rfl, by simp⟩) (by simp [Value.oneCell']) (by unfold maxLen; omega) (by omega) (by simp; omega) ?_
      intro v1 w4 hown1 hgrow1 _
      obtain ⟨g1, cap, rfl⟩ := ownsRow_succ hown1
      obtain ⟨hz5, q1, p1⟩ := hz.step hgrow1 hown1
      rw [← HT.out] at hz5
      clear hown1 hgrow1 hz
      go_wp2_with fail
      go_roundw
      case rel => exact ⟨k + 1, _, by omega, by go_num, hz5⟩
      case measure => simp [intOf]; omega
    · have HK : Hid (k = n) := Lib.hid (by omega)
      have HT : Hid (cs.take k = cs) := Lib.hid (List.take_of_length_le (by omega))
      obtain ⟨x0, y0⟩ := hz.res.cell 0 (by decide)
      obtain ⟨x1, y1⟩ := hz.res.cell 1 (by decide)
      have z0 := hz.res.frozen 0 (by decide)
      have z1 := hz.res.frozen 1 (by decide)
      have hs2 := hz.hs
      have hcnt : k = k - 1 + 1 := by have := HK.out; omega
      have hown := hz.own
      rw [hcnt] at hown
      obtain ⟨g1, cap, rfl⟩ := ownsRow_succ hown
      rw [← hcnt] at hown d1
      have HOW : Hid (((wr.setCell ⟨w.heap.size + 1, 0, none⟩ (.int .i64 o)).setCell ⟨w.heap.size + 1, 1, none⟩ (.slice (some ⟨g1, 0, none⟩) k cap)).ownsRow w.heap.size 126 2 (.slice (some ⟨g1, 0, none⟩) k cap) k (flat2 cs)) :=
        Lib.hid (by
          rw [HT.out] at hown
          exact own_mono (ownsRow_setCell_below (a := ⟨w.heap.size + 1, 1, none⟩) (ownsRow_setCell_below (a := ⟨w.heap.size + 1, 0, none⟩) hown (by show w.heap.size + 1 < _; omega) _) (by show w.heap.size + 1 < _; omega) _) (by omega))
      have hbf : Below w.heap.size w _ := hb0.trans (((hz.res.set 0 (.int .i64 o)).set 1 (.slice (some ⟨g1, 0, none⟩) k cap)).below.mono (Nat.le_succ _))
      clear hown hcnt hz
      go_wp2_with fail
      exact bodyPost_ret (v := .agg #[.int .i64 o, .slice (some ⟨g1, 0, none⟩) k cap]) (by simp [results, Tryz.results53, go_sem, y0, y1]) rfl ⟨_, rfl, by rw [← HK.out]; exact HOW.out, hbf⟩
set_option maxRecDepth 100000 in
theorem zone_zero (w : World) :
    Calls Tryz.prog 53 #[.agg #[.int .i64 0, .slice none 0 0]] w fun r w' => r = .returned (.agg #[.int .i64 0, .slice none 0 0]) ∧ Below w.heap.size w w' := by
  obtain ⟨W, HW, hb0, R0, a0, a1, c0, c1, -, -⟩ := three_new w (.int .i64 0) (.slice none 0 0) (.int .i64 0) (.slice none 0 0) (.int .i64 0) (.slice none 0 0) 79 82 82
  go_enter Tryz.func53, Tryz.ntmps53
  go_wp2_with fail
  rw [HW.out]
  go_loopw [5, 12] (fun _ i wr => i = .int .i64 0 ∧ wr = W) (fun _ _ _ => 0)
  case atStart => exact ⟨rfl, rfl⟩
  case round =>
    obtain ⟨rfl, rfl⟩ := hrel
    obtain ⟨x0, y0⟩ := R0.cell 0 (by decide)
    obtain ⟨x1, y1⟩ := R0.cell 1 (by decide)
    have z0 := R0.frozen 0 (by decide)
    have z1 := R0.frozen 1 (by decide)
    have hbf : Below w.heap.size w _ := hb0.trans (((R0.set 0 (.int .i64 0)).set 1 (.slice none 0 0)).below.mono (Nat.le_succ _))
    go_wp2_with fail
    exact bodyPost_ret (v := .agg #[.int .i64 0, .slice none 0 0]) (by simp [results, Tryz.results53, go_sem, y0, y1]) rfl ⟨rfl, hbf⟩
end Go.Proofs.YtijnabgehlkghaaGreatDoor
