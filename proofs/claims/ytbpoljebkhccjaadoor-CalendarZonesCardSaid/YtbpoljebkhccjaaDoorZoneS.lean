/- Contracts: any zone of the program as one of the reference. -/
import Derived.Test.YtbpoljebkhccjaaDoorZoneR
import Derived.Test.YtbpoljebkhccjaaDoorFlatC
namespace Go.Proofs.YtbpoljebkhccjaaDoor
open Go Go.RowKit
set_option maxRecDepth 100000 in
set_option maxHeartbeats 2000000 in
theorem zone_cells (o : Int) (cs : List (Int × Int)) (n g off p : Nat) (w : World) (hc : ChAt w g off cs) (hl : cs.length = n) (hn : n * 16 ≤ 140737488355328) :
    Calls Tryd.prog 38 #[.agg #[.int .i64 o, .slice (some ⟨g, off, none⟩) n p]] w fun r w' => ∃ v, r = .returned (.agg #[.int .i64 o, v]) ∧ w'.ownsRow w.heap.size 116 2 v n (flat2 cs) ∧ (n = 0 → v = .slice none 0 0) ∧ Below w.heap.size w w' := by
  obtain ⟨i0, hi, hz0, hz1, hz2⟩ := info_parts infoQChg
  obtain ⟨W, HW, hb0, R0, a0, a1, c0, c1, f1, hsz⟩ := three_new w (.int .i64 o) (.slice (some ⟨g, off, none⟩) n p) (.int .i64 0) (.slice none 0 0) (.int .i64 o) (.slice none 0 0) 72 75 75
  have HG : Hid (0 < n → g < w.heap.size) := Lib.hid (fun h => cell_in (hc.m 0 (by omega)))
  have HC := Lib.hid (hc.below hb0)
  clear hc
  go_enter Tryd.func38, Tryd.ntmps38
  go_wp2_with fail
  rw [HW.out]
  go_loopw [5, 12] (fun _ i wr => ∃ (k : Nat) (v : Value), k ≤ n ∧ i = .int .i64 k ∧ Hid (k = 0 → v = .slice none 0 0) ∧ ZC w W o v k (cs.take k) wr) (fun _ i _ => n - (intOf i).toNat)
  case atStart => exact ⟨0, .slice none 0 0, Nat.zero_le _, rfl, Lib.hid (fun _ => rfl), ⟨c0, c1, f1, by rw [List.take_zero]; exact World.ownsRow_nil _ _ _ _, R0, hsz⟩⟩
  case round =>
    obtain ⟨k, v, hk, rfl, HV0, hz⟩ := hrel
    have d0 := hz.c0
    have d1 := hz.c1
    by_cases hlt : k < n
    · have hbr : Below (w.heap.size + 1) W wr := hz.res.below
      have xm := HC.out.m k (by omega)
      have xo := HC.out.o k (by omega)
      have hg : g < w.heap.size + 1 := Nat.lt_succ_of_lt (HG.out (by omega))
      have ym := b_keep hbr hg xm
      have yo := b_keep hbr hg xo
      have HT : Hid (cs.take (k + 1) = cs.take k ++ [((cs.getD k (0, 0)).1, (cs.getD k (0, 0)).2)]) := Lib.hid (by
        rw [List.take_add_one, List.getElem?_eq_getElem (by omega), List.getD_eq_getElem?_getD, List.getElem?_eq_getElem (by omega)]; rfl)
      clear xm xo hg
      generalize (cs.getD k (0, 0)).1 = m at *
      generalize (cs.getD k (0, 0)).2 = x at *
      have HN1 : Hid (∀ (V : World) (m1 m2 : Int) (N : Nat), (∃ V0 : World, V.heap = (V0.alloc (.cells #[.int .i64 m1, .int .i64 m2] 116)).heap ∧ V0.heap.size = N) → ∀ (j : Nat) (u : Value), ([.int .i64 m1, .int .i64 m2] : List Value)[j]? = some u → V.cell? ((⟨N, 0, none⟩ : Addr).add j) = some u) :=
        Lib.hid (fun V m1 m2 N ⟨V0, hV, hN⟩ => by subst hN; exact news_heap (World.news_of_block (cs := #[.int .i64 m1, .int .i64 m2]) (t := 116) (fr := (0, 0)) (heap_alloc_new V0 _)) hV)
      have hs := hz.hs
      have dA : ∀ ob, (wr.alloc ob).cell? ⟨w.heap.size + 2, 1, none⟩ = some v := fun ob => b_old (below_alloc _ _) d1
      go_wp2_with (at_builtin; refine Hid.out ?_)
      refine Lib.hid ?_
      refine wpList_append_own _ rfl _ _ 73 rfl (w.heap.size + 3) 116 i0 (.agg #[.int .i64 0, .int .i64 0]) 2 16 Tryd.underlying73 hi hz0 hz1 hz2 rfl (by decide) v k _ rfl ((hz.own.alloc _).alloc _) ⟨wr.heap.size + 1, 0, none⟩ 1 1 [.int .i64 m, .int .i64 x] rfl rfl
        (HN1.out _ _ _ _ ⟨_, rfl, by simp⟩) (by simp [Value.oneCell']) (by unfold maxLen; omega) (by omega) (by simp; omega) ?_
      intro v1 w4 hown1 hgrow1 _
      obtain ⟨g1, cap, rfl⟩ := ownsRow_succ hown1
      obtain ⟨hz5, q1, p1⟩ := hz.step hgrow1 hown1
      rw [← HT.out] at hz5
      clear hown1 hgrow1 hz
      go_wp2_with fail
      go_roundw
      case rel => exact ⟨k + 1, _, by omega, by go_num, Lib.hid (fun h => absurd h (Nat.succ_ne_zero _)), hz5⟩
      case measure => simp [intOf]; omega
    · have HK : Hid (k = n) := Lib.hid (by omega)
      have HT : Hid (cs.take k = cs) := Lib.hid (List.take_of_length_le (by omega))
      obtain ⟨x0, y0⟩ := hz.res.cell 0 (by decide)
      obtain ⟨x1, y1⟩ := hz.res.cell 1 (by decide)
      have z0 := hz.res.frozen 0 (by decide)
      have z1 := hz.res.frozen 1 (by decide)
      have hs2 := hz.hs
      have hown := hz.own
      have HOW : Hid (((wr.setCell ⟨w.heap.size + 1, 0, none⟩ (.int .i64 o)).setCell ⟨w.heap.size + 1, 1, none⟩ v).ownsRow w.heap.size 116 2 v n (flat2 cs)) :=
        Lib.hid (by
          rw [HT.out, HK.out] at hown
          exact own_mono (ownsRow_setCell_below (a := ⟨w.heap.size + 1, 1, none⟩) (ownsRow_setCell_below (a := ⟨w.heap.size + 1, 0, none⟩) hown (by show w.heap.size + 1 < _; omega) _) (by show w.heap.size + 1 < _; omega) _) (by omega))
      have hbf : Below w.heap.size w _ := hb0.trans (((hz.res.set 0 (.int .i64 o)).set 1 v).below.mono (Nat.le_succ _))
      have hvs : ∃ A c2, v = .slice A k c2 := by
        rcases Nat.eq_zero_or_pos k with h | h
        · exact ⟨none, 0, by rw [h]; exact HV0.out h⟩
        · have hcnt : k = k - 1 + 1 := by omega
          rw [hcnt] at hown
          obtain ⟨g1, cap, e⟩ := ownsRow_succ hown
          exact ⟨_, _, by rw [e, ← hcnt]⟩
      have HVN : Hid (n = 0 → v = .slice none 0 0) := Lib.hid (fun h => HV0.out (by have := HK.out; omega))
      obtain ⟨A, c2, rfl⟩ := hvs
      clear hown hz HV0
      go_wp2_with fail
      exact bodyPost_ret (v := .agg #[.int .i64 o, .slice A k c2]) (by simp [results, Tryd.results38, go_sem, y0, y1]) rfl ⟨_, rfl, HOW.out, HVN.out, hbf⟩
set_option maxRecDepth 100000 in
theorem zone_nil (o : Int) (A : Option Addr) (c : Nat) (w : World) :
    Calls Tryd.prog 38 #[.agg #[.int .i64 o, .slice A 0 c]] w fun r w' => r = .returned (.agg #[.int .i64 o, .slice none 0 0]) ∧ Below w.heap.size w w' := by
  obtain ⟨W, HW, hb0, R0, a0, a1, c0, c1, -, -⟩ := three_new w (.int .i64 o) (.slice A 0 c) (.int .i64 0) (.slice none 0 0) (.int .i64 o) (.slice none 0 0) 72 75 75
  go_enter Tryd.func38, Tryd.ntmps38
  go_wp2_with fail
  rw [HW.out]
  go_loopw [5, 12] (fun _ i wr => i = .int .i64 0 ∧ wr = W) (fun _ _ _ => 0)
  case atStart => exact ⟨rfl, rfl⟩
  case round =>
    obtain ⟨rfl, rfl⟩ := hrel
    obtain ⟨x0, y0⟩ := R0.cell 0 (by decide)
    obtain ⟨x1, y1⟩ := R0.cell 1 (by decide)
    have z0 := R0.frozen 0 (by decide)
    have z1 := R0.frozen 1 (by decide)
    have hbf : Below w.heap.size w _ := hb0.trans (((R0.set 0 (.int .i64 o)).set 1 (.slice none 0 0)).below.mono (Nat.le_succ _))
    go_wp2_with fail
    exact bodyPost_ret (v := .agg #[.int .i64 o, .slice none 0 0]) (by simp [results, Tryd.results38, go_sem, y0, y1]) rfl ⟨rfl, hbf⟩
theorem zone_v (o : Int) (v : Value) (cs : List (Int × Int)) (w : World) (h : SlV w v cs) (hn : cs.length * 16 ≤ 140737488355328) :
    Calls Tryd.prog 38 #[.agg #[.int .i64 o, v]] w fun r w' => ∃ v2, r = .returned (.agg #[.int .i64 o, v2]) ∧ SlV w' v2 cs ∧ Below w.heap.size w w' := by
  rcases h with ⟨A, c, rfl, rfl⟩ | ⟨b, off, cap, rfl, hc⟩
  · exact (zone_nil o A c w).mono fun e w' ⟨he, hb⟩ => ⟨_, he, .inl ⟨none, 0, rfl, rfl⟩, hb⟩
  · refine (zone_cells o cs cs.length b off cap w hc rfl hn).mono ?_
    rintro e w' ⟨v2, he, hown, h0, hb⟩
    refine ⟨v2, he, ?_, hb⟩
    rcases hl : cs with _ | ⟨x, r⟩
    · exact .inl ⟨none, 0, h0 (by rw [hl]; rfl), rfl⟩
    · have hl2 : cs.length = r.length + 1 := by rw [hl]; rfl
      rw [hl2] at hown
      obtain ⟨g, c2, rfl⟩ := ownsRow_succ hown
      rw [hl] at hown
      exact .inr ⟨g, 0, c2, by simp, chAt_own hown (by simp)⟩
end Go.Proofs.YtbpoljebkhccjaaDoor
