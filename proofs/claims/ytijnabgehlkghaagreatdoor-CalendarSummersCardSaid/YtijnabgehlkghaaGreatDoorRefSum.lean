/- Contracts: the reference's Summer. -/
import Derived.Test.YtijnabgehlkghaaGreatDoorSumErr
import Derived.Test.YtijnabgehlkghaaGreatDoorRef1
import Derived.Deep.RegionLaw
namespace Go.Proofs.YtijnabgehlkghaaGreatDoor
open Go Go.RowKit
theorem qLastSun_any (y : Int) (m : Nat) (w : World) (h1 : 2000 ≤ y) (h2 : y ≤ 2300) (m1 : 1 ≤ m) (m2 : m ≤ 12) :
    Calls Tryz.prog 100 #[.int .i64 y, .int .i64 m] w fun r w' => r = .returned (.int .i64 (Cal.ls y m)) ∧ w' = w := by
  have hdn := Cal.dn_bd y m 31 h1 h2 m2 (by omega) (by omega)
  have hlo : 30 ≤ Cal.dn y m 31 := by
    have a := Cal.db_bd y h1 (by omega)
    have b := Cal.cum_bd y (m - 1) (by omega)
    unfold Cal.dn; omega
  have HL : Hid (Cal.ls y m = Cal.dn y m 31 - (Cal.wd (Cal.dn y m 31) - 6 + 7) % 7) := Lib.hid rfl
  go_enter Tryz.func100, Tryz.ntmps100
  go_wp2_with fail
  refine (qDay_any y 31 m _ h1 h2 m1 m2 (by omega) (by omega)).mono ?_
  rintro e w1 ⟨rfl, hw⟩
  rw [hw]
  clear hw
  generalize Cal.dn y m 31 = n at *
  go_wp2_with fail
  go_loop [5] (fun i => ∃ j : Nat, (j : Int) ≤ (Cal.wd n - 6 + 7) % 7 ∧ i = .int .i64 (n - j)) (fun i => (intOf i).toNat)
  case atStart => exact ⟨0, by have := Cal.wd_bd n; omega, by simp⟩
  case round =>
    obtain ⟨j, hj, rfl⟩ := hrel
    have hw := Cal.wd_bd n
    by_cases hlt : (j : Int) < (Cal.wd n - 6 + 7) % 7
    · have hne : (Cal.wd (n - j) != 6) = true := by rw [bne_iff_ne]; unfold Cal.wd at *; omega
      go_wp2_with fail
      refine (qWeekday_any (n - j) _ (by omega) (by omega)).mono ?_
      rintro e w2 ⟨rfl, hw2⟩
      rw [hw2]
      clear hw2
      go_wp2_with fail
      go_round
      case rel => exact ⟨j + 1, by omega, by go_num⟩
      case measure => simp [intOf]; omega
    · have hj2 : (j : Int) = (Cal.wd n - 6 + 7) % 7 := by omega
      have hne : Cal.wd (n - j) = 6 := by unfold Cal.wd at *; omega
      have HE : Hid (n - (j : Int) = n - (Cal.wd n - 6 + 7) % 7) := Lib.hid (by rw [hj2])
      have hj6 : (j : Int) ≤ 6 := by omega
      clear hj2 hj hlt
      go_wp2_with fail
      refine (qWeekday_any (n - j) _ (by omega) (by omega)).mono ?_
      rintro e w2 ⟨rfl, hw2⟩
      rw [hw2, hne]
      clear hw2
      go_wp2_with fail
      go_ret
      exact ⟨ret_int (by rw [HL.out, HE.out]), rfl⟩
theorem step_append_own {P : Program} {w : World} {ops : Array Oper} {o : Oper} {a : Act} {K : Act → World → Prop} {Q : Exit → Act → World → Prop} {E : Prop} (hg : o.guard = none) (s x : Operand) (t : TypeId)
    (ho : o.op = .call { callee := .builtin .append, args := #[s, x], argTypes := #[t, t] })
    (base : Nat) (e : TypeId) (i : TypeInfo) (z : Value) (size bytes : Nat) (ht : P.underlying t = some (.slice e)) (hi : P.info? e = some i) (hz : i.zero = some z)
    (hsize : i.size = size) (hby : i.bytes = bytes) (hzs : z.cells.size = size) (hsz : 0 < size)
    (v : Value) (n : Nat) (xs : List Value) (hs : a.eval s = v) (hown : w.ownsRow base e size v n xs)
    (ad : Addr) (m c : Nat) (news : List Value) (hx : a.eval x = .slice (some ad) m c) (hl : news.length = m * size) (hnews : ∀ j u, news[j]? = some u → w.cell? (ad.add j) = some u) (h1 : ∀ u ∈ news, u.oneCell' = true)
    (h63 : n + m ≤ maxLen) (hbytes : (n + m) * bytes ≤ 140737488355328) (hbase : base ≤ w.heap.size)
    (h : ∀ v' w', w'.ownsRow base e size v' (n + m) (xs ++ news) → w.grownBy w' v.ownBlock → (v' = .slice none 0 0 ↔ v = .slice none 0 0 ∧ m = 0) → K (a.put o.dst v') w') :
    if Region.wanted o (yielded ops a.tmps) = true then Oper.wp P o a w K Q else E := by
  have hw : Region.wanted o (yielded ops a.tmps) = true := by simp [Region.wanted, hg]
  rw [if_pos hw]
  exact wp_append_own w s x t ho base e i z size bytes ht hi hz hsize hby hzs hsz v n xs hs hown ad m c news hx hl hnews h1 h63 hbytes hbase h
theorem infoQChg : (Tryz.prog.info? 126).map (fun i => (i.zero, i.size, i.bytes)) = some (some (.agg #[.int .i64 0, .int .i64 0]), 2, 16) := by kernel_rfl
theorem own_heap {w w' : World} {base : Nat} {e : TypeId} {size : Nat} {v : Value} {n : Nat} {xs : List Value} (h : w.ownsRow base e size v n xs) (he : w'.heap = w.heap) : w'.ownsRow base e size v n xs := by
  unfold World.ownsRow at *
  rw [he]; exact h
theorem news_heap {w w' : World} {a : Addr} {l : List Value} (h : ∀ (j : Nat) (u : Value), l[j]? = some u → w.cell? (a.add j) = some u) (he : w'.heap = w.heap) : ∀ (j : Nat) (u : Value), l[j]? = some u → w'.cell? (a.add j) = some u := fun j u hj => by
  have := h j u hj
  unfold World.cell? at *
  rw [he]; exact this
/-- The reference's zone on the way. -/
structure ZB (w W : World) (o : Int) (v : Value) (c : Nat) (l : List (Int × Int)) (wr : World) : Prop where
  c0 : wr.cell? ⟨w.heap.size + 1, 0, none⟩ = some (.int .i64 o)
  c1 : wr.cell? ⟨w.heap.size + 1, 1, none⟩ = some v
  f1 : wr.frozen? ⟨w.heap.size + 1, 1, none⟩ = false
  own : wr.ownsRow (w.heap.size + 2) 126 2 v c (flat2 l)
  res : Res 2 w.heap.size W wr
  hs : w.heap.size + 2 ≤ wr.heap.size
theorem ZB.step {w W wr w4 : World} {o : Int} {v v1 : Value} {c : Nat} {l : List (Int × Int)} {ob : Obj} {a b : Int} (h : ZB w W o v c l wr) (hg : (wr.alloc ob).drew.grownBy w4 v.ownBlock) (ho : w4.ownsRow (w.heap.size + 2) 126 2 v1 (c + 1) (flat2 l ++ [.int .i64 a, .int .i64 b])) :
    ZB w W o v1 (c + 1) (l ++ [(a, b)]) (w4.setCell ⟨w.heap.size + 1, 1, none⟩ v1) ∧ w4.cell? ⟨w.heap.size + 1, 1, none⟩ = some v ∧ w4.frozen? ⟨w.heap.size + 1, 1, none⟩ = false := by
  have hb4 : Below (w.heap.size + 2) wr w4 := ((Below.refl _ _).alloc h.hs ob).drew.grown hg (by have := h.hs; show _ ≤ (wr.alloc ob).heap.size; simp; omega) (own_block h.own)
  have q1 : w4.cell? ⟨w.heap.size + 1, 1, none⟩ = some v := b_keep hb4 (by omega) h.c1
  have q0 : w4.cell? ⟨w.heap.size + 1, 0, none⟩ = some (.int .i64 o) := b_keep hb4 (by omega) h.c0
  have p1 : w4.frozen? ⟨w.heap.size + 1, 1, none⟩ = false := by rw [hb4.frozen (p := ⟨w.heap.size + 1, 1, none⟩) (Nat.lt_succ_self _)]; exact h.f1
  refine ⟨⟨set_other q0 (by simp), set_same q1, by rw [World.frozen?_setCell]; exact p1, ?_, ?_, ?_⟩, q1, p1⟩
  · have e : flat2 (l ++ [(a, b)]) = flat2 l ++ [.int .i64 a, .int .i64 b] := by simp [flat2]
    rw [e]
    exact ownsRow_setCell_below (a := ⟨w.heap.size + 1, 1, none⟩) ho (Nat.lt_succ_self _) _
  · exact h.res.up ((hb4.mono (Nat.le_succ _)).setCell (p := ⟨w.heap.size + 1, 1, none⟩) (Nat.le_refl _) v1)
  · rw [set_size]; exact Nat.le_trans h.hs hb4.size
set_option maxRecDepth 100000 in
set_option maxHeartbeats 2000000 in
theorem qSummer_ok (o y : Int) (n : Nat) (w : World) (h1 : -720 ≤ o) (h2 : o ≤ 780) (h3 : 2000 ≤ y) (h5 : y + n - 1 ≤ 2272) (h6 : n ≤ 32) (h0 : 1 ≤ n) :
    Calls Tryz.prog 64 #[.int .i64 o, .int .i64 y, .int .i64 (y + n - 1)] w fun r w' => ∃ v, r = .returned (.agg #[.int .i64 o, v]) ∧ w'.ownsRow w.heap.size 126 2 v (2 * n) (flat2 (sumCs o y n)) ∧ Below w.heap.size w w' := by
  obtain ⟨i0, hi, hz0, hz1, hz2⟩ := info_parts infoQChg
  obtain ⟨W, HW, hb0, R0, c0, c1, f1, hsz⟩ : ∃ W, Hid ((w.alloc (.cells #[.int .i64 0, .slice none 0 0] 82)).alloc (.cells #[.int .i64 o, .slice none 0 0] 82) = W) ∧ Below w.heap.size w W ∧ Res 2 w.heap.size W W ∧ W.cell? ⟨w.heap.size + 1, 0, none⟩ = some (.int .i64 o) ∧ W.cell? ⟨w.heap.size + 1, 1, none⟩ = some (.slice none 0 0) ∧ W.frozen? ⟨w.heap.size + 1, 1, none⟩ = false ∧ w.heap.size + 2 ≤ W.heap.size :=
    ⟨_, Lib.hid rfl, below_alloc2 w _ _, ⟨fun i hi => by
        match i, hi with
        | 0, _ => exact ⟨.int .i64 0, by simp⟩
        | 1, _ => exact ⟨.slice none 0 0, by simp⟩, fun i hi => by
        match i, hi with
        | 0, _ => simp
        | 1, _ => simp, Below.refl _ _⟩, by simp, by simp, by simp, by simp⟩
  go_enter Tryz.func64, Tryz.ntmps64
  go_wp2_with fail
  rw [HW.out]
  go_loopw [8] (fun i wr => ∃ (k : Nat) (v : Value), k ≤ n ∧ i = .int .i64 (y + k) ∧ ZB w W o v (2 * k) (sumCs o y k) wr) (fun i _ => (y + n - intOf i).toNat)
  case atStart => exact ⟨0, .slice none 0 0, Nat.zero_le _, by simp, ⟨c0, c1, f1, World.ownsRow_nil _ _ _ _, R0, hsz⟩⟩
  case round =>
    obtain ⟨k, v, hk, rfl, hz⟩ := hrel
    by_cases hlt : k < n
    · have d1 := hz.c1
      have dA : ∀ ob, (wr.alloc ob).cell? ⟨w.heap.size + 1, 1, none⟩ = some v := fun ob => b_old (below_alloc _ _) d1
      have hlt2 : y + (k : Int) ≤ y + n - 1 := by omega
      have l3 := ls_bd (y + k) 3 (by omega) (by omega) (by omega)
      have l10 := ls_bd (y + k) 10 (by omega) (by omega) (by omega)
      have e1 : IntKind.i64.wrap (1440 * Cal.ls (y + k) 3) = 1440 * Cal.ls (y + k) 3 := IntWalk.i64_in _ ⟨by omega, by omega⟩
      have e2 : IntKind.i64.wrap (1440 * Cal.ls (y + k) 3 + 60) = cm (y + k) 3 := IntWalk.i64_in _ ⟨by omega, by omega⟩
      have e3 : IntKind.i64.wrap (o + 60) = o + 60 := IntWalk.i64_in _ ⟨by omega, by omega⟩
      have e4 : IntKind.i64.wrap (1440 * Cal.ls (y + k) 10) = 1440 * Cal.ls (y + k) 10 := IntWalk.i64_in _ ⟨by omega, by omega⟩
      have e5 : IntKind.i64.wrap (1440 * Cal.ls (y + k) 10 + 60) = cm (y + k) 10 := IntWalk.i64_in _ ⟨by omega, by omega⟩
      clear l3 l10
      have HS : Hid (sumCs o y (k + 1) = sumCs o y k ++ [(cm (y + k) 3, o + 60)] ++ [(cm (y + k) 10, o)]) := Lib.hid (by simp [sumCs])
      have HN1 : Hid (∀ (V : World) (m1 m2 : Int) (N : Nat), (∃ V0 : World, V.heap = (V0.alloc (.cells #[.int .i64 m1, .int .i64 m2] 126)).heap ∧ V0.heap.size = N) → ∀ (j : Nat) (u : Value), ([.int .i64 m1, .int .i64 m2] : List Value)[j]? = some u → V.cell? ((⟨N, 0, none⟩ : Addr).add j) = some u) :=
        Lib.hid (fun V m1 m2 N ⟨V0, hV, hN⟩ => by subst hN; exact news_heap (World.news_of_block (cs := #[.int .i64 m1, .int .i64 m2]) (t := 126) (fr := (0, 0)) (heap_alloc_new V0 _)) hV)
      go_upto_region 5 with (fail)
      go_region_law (first
        | (go_simp; go_at_call 100; refine (qLastSun_any _ 3 _ (by omega) (by omega) (by omega) (by omega)).mono ?_; rintro e w' ⟨rfl, rfl⟩)
        | (refine step_append_own rfl (.tmp 18) (.tmp 26) 80 rfl (w.heap.size + 2) 126 i0 (.agg #[.int .i64 0, .int .i64 0]) 2 16 Tryz.underlying80 hi hz0 hz1 hz2 rfl (by decide) v (2 * k) (flat2 (sumCs o y k)) (by simp [Act.eval]) (own_heap (hz.own.alloc _) rfl) ⟨wr.heap.size, 0, none⟩ 1 1 [.int .i64 (cm (y + k) 3), .int .i64 (o + 60)] (by simp [Act.eval]) rfl
            (HN1.out _ _ _ _ ⟨wr, rfl, rfl⟩) (by simp [Value.oneCell']) (by unfold maxLen; omega) (by omega) (by simp; have := hz.hs; omega) ?_
           intro v1 w4 hown1 hgrow1 _
           obtain ⟨g, cap, rfl⟩ := ownsRow_succ hown1
           obtain ⟨hz5, q1, p1⟩ := hz.step hgrow1 hown1
           clear hown1 hgrow1))
      all_goals go_upto_region 6 with (fail)
      all_goals go_name_world V5 hV5
      all_goals rw [hV5] at hz5
      all_goals have d5 := hz5.c1
      all_goals have dB : ∀ ob, (V5.alloc ob).cell? ⟨w.heap.size + 1, 1, none⟩ = some (.slice (some ⟨g, 0, none⟩) (2 * k + 1) cap) := fun ob => b_old (below_alloc _ _) d5
      all_goals clear hV5 q1 p1
      all_goals go_region_law (first
        | (go_simp; go_at_call 100; refine (qLastSun_any _ 10 _ (by omega) (by omega) (by omega) (by omega)).mono ?_; rintro e w' ⟨rfl, rfl⟩)
        | (refine step_append_own rfl (.tmp 30) (.tmp 37) 80 rfl (w.heap.size + 2) 126 i0 (.agg #[.int .i64 0, .int .i64 0]) 2 16 Tryz.underlying80 hi hz0 hz1 hz2 rfl (by decide) (.slice (some ⟨g, 0, none⟩) (2 * k + 1) cap) (2 * k + 1) (flat2 (sumCs o y k ++ [(cm (y + k) 3, o + 60)])) (by simp [Act.eval]) (own_heap (hz5.own.alloc _) rfl) ⟨V5.heap.size, 0, none⟩ 1 1 [.int .i64 (cm (y + k) 10), .int .i64 o] (by simp [Act.eval]) rfl
            (HN1.out _ _ _ _ ⟨V5, rfl, rfl⟩) (by simp [Value.oneCell']) (by unfold maxLen; omega) (by omega) (by simp; have := hz5.hs; omega) ?_
           intro v2 w6 hown2 hgrow2 _
           obtain ⟨g2, cap2, rfl⟩ := ownsRow_succ hown2
           obtain ⟨hz6, q1, p1⟩ := hz5.step hgrow2 hown2
           clear hown2 hgrow2))
      all_goals go_wp2_with fail
      all_goals rw [← HS.out] at hz6
      all_goals go_roundw
      all_goals first
        | exact ⟨k + 1, _, by omega, by go_num, hz6⟩
        | (simp [intOf]; omega)
    · have HK : Hid (k = n) := Lib.hid (by omega)
      have d0 := hz.c0
      have d1 := hz.c1
      obtain ⟨x0, y0⟩ := hz.res.cell 0 (by decide)
      obtain ⟨x1, y1⟩ := hz.res.cell 1 (by decide)
      have z0 := hz.res.frozen 0 (by decide)
      have z1 := hz.res.frozen 1 (by decide)
      have hlt2 : ¬ y + (k : Int) ≤ y + n - 1 := by omega
      have hs2 := hz.hs
      have hcnt : 2 * k = 2 * k - 1 + 1 := by have := HK.out; omega
      have hown := hz.own
      rw [hcnt] at hown
      obtain ⟨g, cap, rfl⟩ := ownsRow_succ hown
      rw [← hcnt] at hown d1
      have HOW : Hid (((wr.setCell ⟨w.heap.size, 0, none⟩ (.int .i64 o)).setCell ⟨w.heap.size, 1, none⟩ (.slice (some ⟨g, 0, none⟩) (2 * k) cap)).ownsRow w.heap.size 126 2 (.slice (some ⟨g, 0, none⟩) (2 * k) cap) (2 * k) (flat2 (sumCs o y k))) :=
        Lib.hid (own_mono (ownsRow_setCell_below (a := ⟨w.heap.size, 1, none⟩) (ownsRow_setCell_below (a := ⟨w.heap.size, 0, none⟩) hown (by show w.heap.size < _; omega) _) (by show w.heap.size < _; omega) _) (by omega))
      have hbf : Below w.heap.size w _ := hb0.trans ((hz.res.set 0 (.int .i64 o)).set 1 (.slice (some ⟨g, 0, none⟩) (2 * k) cap)).below
      clear hown hcnt hz
      go_wp2_with fail
      exact bodyPost_ret (v := .agg #[.int .i64 o, .slice (some ⟨g, 0, none⟩) (2 * k) cap]) (by simp [results, Tryz.results64, go_sem, y0, y1]) rfl ⟨_, rfl, by rw [← HK.out]; exact HOW.out, hbf⟩
end Go.Proofs.YtijnabgehlkghaaGreatDoor
