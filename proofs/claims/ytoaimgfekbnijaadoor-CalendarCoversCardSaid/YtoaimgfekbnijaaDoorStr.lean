/- Contracts of package calendar: stretches. -/
import Derived.Test.YtoaimgfekbnijaaDoorZone
import Derived.OwnWalk
import Derived.Laws.AppendOwn
import Derived.Deep.DeepCutAuto
import Derived.Deep.AppendLies
import Derived.Laws.Rows
namespace Go.Proofs.YtoaimgfekbnijaaDoor
open Go.RowKit
def strs (f o : Int) : List (Int × Int) → List (Int × Int × Int)
  | [] => [(f, 143999999, o)]
  | c :: r => (f, c.1 - 1, o) :: strs c.1 c.2 r
def flat3 (l : List (Int × Int × Int)) : List Value := (l.map fun s => [Value.int .i64 s.1, Value.int .i64 s.2.1, Value.int .i64 s.2.2]).flatten
theorem infoStr : (Tryd.prog.info? 121).map (fun i => (i.zero, i.size, i.bytes)) = some (some (.agg #[.int .i64 0, .int .i64 0, .int .i64 0]), 3, 24) := by kernel_rfl
def StrRes (w : World) (o : Int) (cs : List (Int × Int)) (r : Ending) (w' : World) : Prop :=
  ∃ v, r = .returned v ∧ w'.ownsRow (w.heap.size + 2) 121 3 v (cs.length + 1) (flat3 (strs 0 o cs)) ∧ Below w.heap.size w w'
theorem strs_drop (f o : Int) (cs : List (Int × Int)) (k : Nat) (h : k < cs.length) (m p : Int) (hm : (cs.getD k (0, 0)).1 = m) (hp : (cs.getD k (0, 0)).2 = p) : strs f o (cs.drop k) = (f, m - 1, o) :: strs m p (cs.drop (k + 1)) := by
  subst hm hp
  rw [List.drop_eq_getElem_cons h]
  simp only [List.getD_eq_getElem?_getD, List.getElem?_eq_getElem h, Option.getD_some]
  rfl
theorem flat3_snoc (l : List (Int × Int × Int)) (a b c : Int) : flat3 (l ++ [(a, b, c)]) = flat3 l ++ [.int .i64 a, .int .i64 b, .int .i64 c] := by simp [flat3]
/-- Where an owned row's block begins. -/
theorem own_block {w : World} {base : Nat} {e : TypeId} {size : Nat} {v : Value} {n : Nat} {xs : List Value} (h : w.ownsRow base e size v n xs) : ∀ k, v.ownBlock = some k → base ≤ k := by
  intro k hk
  rcases h.2 with ⟨hv, _⟩ | ⟨g, cap, cur, hv, hb, _⟩
  · subst hv; simp [Value.ownBlock] at hk
  · subst hv; simp only [Value.ownBlock, Option.some.injEq] at hk; omega
theorem own_lt {w : World} {base : Nat} {e : TypeId} {size : Nat} {v : Value} {n : Nat} {xs : List Value} (h : w.ownsRow base e size v n xs) : ∀ k, v.ownBlock = some k → k < w.heap.size := by
  intro k hk
  rcases h.2 with ⟨hv, _⟩ | ⟨g, cap, cur, hv, _, hg, _⟩
  · subst hv; simp [Value.ownBlock] at hk
  · subst hv; simp only [Value.ownBlock, Option.some.injEq] at hk; subst hk; exact (Array.getElem?_eq_some_iff.1 hg).1
set_option maxRecDepth 100000 in
set_option maxHeartbeats 1000000 in
theorem stretches_some (o : Int) (b off cap : Nat) (cs : List (Int × Int)) (w : World) (hc : ChAt w b off cs) (hn : cs.length ≤ 64) (hr : ∀ i, i < cs.length → 0 ≤ (cs.getD i (0, 0)).1 ∧ (cs.getD i (0, 0)).1 ≤ 143999999) :
    Calls Tryd.prog 84 #[.agg #[.int .i64 o, .slice (some ⟨b, off, none⟩) cs.length cap]] w (StrRes w o cs) := by
  obtain ⟨i0, hi, hz0, hz1, hz2⟩ := info_parts infoStr
  have HR := Lib.hid hr; clear hr
  obtain ⟨W, HW, hb0, n0, n2, R0, hsz⟩ : ∃ W, Hid ((w.alloc (.cells #[.int .i64 o, .slice (some ⟨b, off, none⟩) cs.length cap] 72)).alloc (.cells #[.int .i64 0, .int .i64 0, .int .i64 o] 121) = W) ∧ Below w.heap.size w W ∧
      W.cell? ⟨w.heap.size + 1, 0, none⟩ = some (.int .i64 0) ∧ W.cell? ⟨w.heap.size + 1, 2, none⟩ = some (.int .i64 o) ∧ Res 3 (w.heap.size + 1) W W ∧ W.heap.size = w.heap.size + 2 := ⟨_, Lib.hid rfl, below_alloc2 w _ _, by simp, by simp, ⟨fun i hi => by
        match i, hi with
        | 0, _ => exact ⟨.int .i64 0, by simp⟩
        | 1, _ => exact ⟨.int .i64 0, by simp⟩
        | 2, _ => exact ⟨.int .i64 o, by simp⟩, fun i hi => by
        match i, hi with
        | 0, _ => simp
        | 1, _ => simp
        | 2, _ => simp, Below.refl _ _⟩, by simp⟩
  have HSZ := Lib.hid hsz
  have hsz1 : w.heap.size + 2 ≤ W.heap.size := by omega
  clear hsz
  go_enter Tryd.func84, Tryd.ntmps84
  go_wp2_with fail
  rw [HW.out]
  have hcV := hc.below hb0
  go_loopw [3, 13] (fun v i wr => ∃ (k : Nat) (f p : Int) (l : List (Int × Int × Int)), k ≤ cs.length ∧ i = .int .i64 k ∧ wr.ownsRow (w.heap.size + 2) 121 3 v k (flat3 l) ∧ Hid (strs 0 o cs = l ++ strs f p (cs.drop k)) ∧ Res 3 (w.heap.size + 1) W wr ∧
      wr.cell? ⟨w.heap.size + 1, 0, none⟩ = some (.int .i64 f) ∧ wr.cell? ⟨w.heap.size + 1, 2, none⟩ = some (.int .i64 p) ∧ w.heap.size + 2 ≤ wr.heap.size) (fun _ i _ => cs.length - (intOf i).toNat)
  case atStart => exact ⟨0, 0, o, [], Nat.zero_le _, rfl, World.ownsRow_nil _ _ _ _, Lib.hid (by simp), R0, n0, n2, hsz1⟩
  case round =>
    obtain ⟨k, f, p, l, hk, rfl, hown, HF, R, m0, m2, hs⟩ := hrel
    have hm1 := R.cell 1 (by decide)
    obtain ⟨u1, m1⟩ := hm1
    have mf0 := R.frozen 0 (by decide)
    have mf1 := R.frozen 1 (by decide)
    have mf2 := R.frozen 2 (by decide)
    by_cases hlt : k < cs.length
    · have hm : wr.cell? ⟨b, off + k * 2, none⟩ = _ := (R.below.cell (p := ⟨b, off + k * 2, none⟩) (by have := cell_in (hc.m k hlt); simp at this ⊢; omega)).trans (hcV.m k hlt)
      have hoo : wr.cell? ⟨b, off + k * 2 + 1, none⟩ = _ := (R.below.cell (p := ⟨b, off + k * 2 + 1, none⟩) (by have := cell_in (hc.o k hlt); simp at this ⊢; omega)).trans (hcV.o k hlt)
      obtain ⟨r1, r2⟩ := HR.out k hlt
      have HD0 : Hid (∀ m q, (cs.getD k (0, 0)).1 = m → (cs.getD k (0, 0)).2 = q → strs 0 o cs = (l ++ [(f, m - 1, p)]) ++ strs m q (cs.drop (k + 1))) := Lib.hid (fun m q h1 h2 => by rw [HF.out, strs_drop f p cs k hlt m q h1 h2, List.append_assoc]; rfl)
      generalize hmv : (cs.getD k (0, 0)).1 = m at *
      generalize hov : (cs.getD k (0, 0)).2 = q at *
      have HD := Lib.hid (HD0.out m q rfl rfl)
      clear HD0 HF hmv hov
      go_upto_region 6 with (fail)
      obtain ⟨V, hV, hbV, d0, d1, hVs⟩ : ∃ V, wr.alloc (.cells #[.int .i64 m, .int .i64 q] 83) = V ∧ Below wr.heap.size wr V ∧ V.cell? ⟨wr.heap.size, 0, none⟩ = some (.int .i64 m) ∧ V.cell? ⟨wr.heap.size, 1, none⟩ = some (.int .i64 q) ∧ V.heap.size = wr.heap.size + 1 := ⟨_, rfl, below_alloc wr _, by simp, by simp, by simp⟩
      have hownV : V.ownsRow (w.heap.size + 2) 121 3 u3 k (flat3 l) := by rw [← hV]; exact hown.alloc _
      rw [hV]
      have e0 := b_old hbV m0
      have e1 := b_old hbV m1
      have e2 := b_old hbV m2
      have ef0 := b_frozen hbV m0 mf0
      have ef1 := b_frozen hbV m1 mf1
      have ef2 := b_frozen hbV m2 mf2
      have RV := R.more (by omega) hbV
      have HVS := Lib.hid hVs
      clear hV m0 m1 m2 mf0 mf1 mf2 hVs
      go_upto_region 7 with (fail)
      obtain ⟨V2, hV2, g0, g1, g2, gd0, gd1, hown2, R2, gsz⟩ : ∃ V2, V.setCell ⟨w.heap.size + 1, 1, none⟩ (.int .i64 (m - 1)) = V2 ∧ V2.cell? ⟨w.heap.size + 1, 0, none⟩ = some (.int .i64 f) ∧ V2.cell? ⟨w.heap.size + 1, 1, none⟩ = some (.int .i64 (m - 1)) ∧ V2.cell? ⟨w.heap.size + 1, 2, none⟩ = some (.int .i64 p) ∧
          V2.cell? ⟨wr.heap.size, 0, none⟩ = some (.int .i64 m) ∧ V2.cell? ⟨wr.heap.size, 1, none⟩ = some (.int .i64 q) ∧ V2.ownsRow (w.heap.size + 2) 121 3 u3 k (flat3 l) ∧ Res 3 (w.heap.size + 1) W V2 ∧ V2.heap.size = V.heap.size :=
        ⟨_, rfl, set_other e0 (by simp), set_same e1, set_other e2 (by simp), set_other d0 (by intro e; simp at e), set_other d1 (by intro e; simp at e), ownsRow_setCell_below hownV (Nat.lt_succ_self _) _, RV.set _ _, set_size _ _ _⟩
      rw [hV2]
      have q0 := R2.frozen 0 (by decide)
      have q1 := R2.frozen 1 (by decide)
      have q2 := R2.frozen 2 (by decide)
      have GSZ := Lib.hid gsz
      have hne : some wr.heap.size ≠ u3.ownBlock := fun e => absurd (own_lt hown _ e.symm) (Nat.lt_irrefl _)
      have hlt2 : wr.heap.size < V2.heap.size := by have := HVS.out; omega
      have hs2 : w.heap.size + 2 ≤ V2.heap.size := by have := HVS.out; omega
      clear hV2 e0 e1 e2 ef0 ef1 ef2 d0 d1 gsz hownV RV R hown
      have hkk : k + 1 ≤ maxLen := by unfold maxLen; omega
      iterate 10 go_step
      refine wpList_append_own _ rfl _ _ 118 rfl (w.heap.size + 2) 121 i0 (.agg #[.int .i64 0, .int .i64 0, .int .i64 0]) 3 24 Tryd.underlying118 hi hz0 hz1 hz2 rfl (by decide) _ k _ rfl (hown2.alloc _) ⟨V2.heap.size, 0, none⟩ 1 1 [.int .i64 f, .int .i64 (m - 1), .int .i64 p] rfl rfl
        (World.news_of_block (cs := #[.int .i64 f, .int .i64 (m - 1), .int .i64 p]) (t := 121) (fr := (0, 0)) (heap_alloc_new V2 _)) (by simp [Value.oneCell']) hkk (by omega) (by simp; omega) ?_
      intro v' w1 hown' hgrow _
      have hgrow2 : (V2.alloc (.cells #[.int .i64 f, .int .i64 (m - 1), .int .i64 p] 121)).grownBy w1 u3.ownBlock := hgrow
      have hbV1 : Below (w.heap.size + 2) V2 w1 := ((Below.refl _ V2).alloc hs2 _).grown hgrow2 (by simp; omega) (own_block hown2)
      have R1 := R2.up hbV1
      have j0 : w1.cell? ⟨wr.heap.size, 0, none⟩ = some (.int .i64 m) := (hgrow2.cell_far ⟨wr.heap.size, 0, none⟩ (by simp; omega) hne).trans (b_old (below_alloc _ _) gd0)
      have j1 : w1.cell? ⟨wr.heap.size, 1, none⟩ = some (.int .i64 q) := (hgrow2.cell_far ⟨wr.heap.size, 1, none⟩ (by simp; omega) hne).trans (b_old (below_alloc _ _) gd1)
      obtain ⟨x0, y0⟩ := R1.cell 0 (by decide)
      obtain ⟨x1, y1⟩ := R1.cell 1 (by decide)
      obtain ⟨x2, y2⟩ := R1.cell 2 (by decide)
      have z0 := R1.frozen 0 (by decide)
      have z1 := R1.frozen 1 (by decide)
      have z2 := R1.frozen 2 (by decide)
      have hs3 : w.heap.size + 2 ≤ w1.heap.size := Nat.le_trans hs2 hbV1.size
      clear hgrow hgrow2 g0 g1 g2 gd0 gd1 q0 q1 q2 hown2
      rw [← flat3_snoc] at hown'
      go_wp2_with fail
      go_roundw
      case rel => exact ⟨k + 1, m, q, l ++ [(f, m - 1, p)], by omega, by go_num, ownsRow_setCell_below (ownsRow_setCell_below (ownsRow_setCell_below hown' (Nat.lt_succ_self _) _) (Nat.lt_succ_self _) _) (Nat.lt_succ_self _) _, HD, ((R1.set _ _).set _ _).set _ _,
          set_other (set_other (set_same y0) (by simp)) (by simp), set_same (set_other (set_other y2 (by simp)) (by simp)), by rw [set_size, set_size, set_size]; exact hs3⟩
      case measure => simp [intOf]; omega
    · obtain rfl : k = cs.length := by omega
      have HE : Hid (strs 0 o cs = l ++ [(f, 143999999, p)]) := Lib.hid (by rw [HF.out, List.drop_of_length_le (Nat.le_refl _)]; rfl)
      clear HF
      go_upto_region 11 with (fail)
      obtain ⟨V2, hV2, g0, g1, g2, hown2, R2, gsz⟩ : ∃ V2, wr.setCell ⟨w.heap.size + 1, 1, none⟩ (.int .i64 143999999) = V2 ∧ V2.cell? ⟨w.heap.size + 1, 0, none⟩ = some (.int .i64 f) ∧ V2.cell? ⟨w.heap.size + 1, 1, none⟩ = some (.int .i64 143999999) ∧ V2.cell? ⟨w.heap.size + 1, 2, none⟩ = some (.int .i64 p) ∧
          V2.ownsRow (w.heap.size + 2) 121 3 u3 cs.length (flat3 l) ∧ Res 3 (w.heap.size + 1) W V2 ∧ V2.heap.size = wr.heap.size :=
        ⟨_, rfl, set_other m0 (by simp), set_same m1, set_other m2 (by simp), ownsRow_setCell_below hown (Nat.lt_succ_self _) _, R.set _ _, set_size _ _ _⟩
      rw [hV2]
      have q0 := R2.frozen 0 (by decide)
      have q1 := R2.frozen 1 (by decide)
      have q2 := R2.frozen 2 (by decide)
      have hs2 : w.heap.size + 2 ≤ V2.heap.size := by omega
      clear hV2 m0 m1 m2 mf0 mf1 mf2 gsz hown R
      have hkk : cs.length + 1 ≤ maxLen := by unfold maxLen; omega
      iterate 10 go_step
      refine wpList_append_own _ rfl _ _ 118 rfl (w.heap.size + 2) 121 i0 (.agg #[.int .i64 0, .int .i64 0, .int .i64 0]) 3 24 Tryd.underlying118 hi hz0 hz1 hz2 rfl (by decide) _ cs.length _ rfl (hown2.alloc _) ⟨V2.heap.size, 0, none⟩ 1 1 [.int .i64 f, .int .i64 143999999, .int .i64 p] rfl rfl
        (World.news_of_block (cs := #[.int .i64 f, .int .i64 143999999, .int .i64 p]) (t := 121) (fr := (0, 0)) (heap_alloc_new V2 _)) (by simp [Value.oneCell']) hkk (by omega) (by simp; omega) ?_
      intro v' w1 hown' hgrow _
      have hgrow2 : (V2.alloc (.cells #[.int .i64 f, .int .i64 143999999, .int .i64 p] 121)).grownBy w1 u3.ownBlock := hgrow
      have hbV1 : Below (w.heap.size + 2) V2 w1 := ((Below.refl _ V2).alloc hs2 _).grown hgrow2 (by simp; omega) (own_block hown2)
      have hfin : Below w.heap.size w w1 := hb0.trans ((R2.below.mono (by omega)).trans (hbV1.mono (by omega)))
      clear hgrow hgrow2 g0 g1 g2 q0 q1 q2 hown2 hbV1 R2 R0
      rw [← flat3_snoc] at hown'
      go_wp2_with fail
      go_ret
      exact ⟨v', rfl, by rw [HE.out]; exact hown', hfin⟩
end Go.Proofs.YtoaimgfekbnijaaDoor
