/- The walk of GroundPairs. -/
import Derived.Test.YtkjhnemfebgcnaaGreatDoorRmGPairE
namespace Go.Proofs.YtkjhnemfebgcnaaGreatDoor
open Go Go.RowKit Go.ChangeMaps Go.MapKept Ev
theorem cells_new (w : World) (l : List Value) (T : TypeId) : ∃ W, Hid (w.alloc (.cells l.toArray T) = W) ∧ Below w.heap.size w W ∧ Hid (∀ i v, l[i]? = some v → W.cell? ⟨w.heap.size, i, none⟩ = some v) ∧ W.heap.size = w.heap.size + 1 :=
  ⟨_, Lib.hid rfl, below_alloc _ _, Lib.hid (fun i v h => cell_fresh w l T i v h), by simp⟩
theorem set5 (w : World) (b : Nat) (x0 x1 x2 x3 x4 v0 v1 v2 v3 v4 : Value) (h0 : w.cell? ⟨b, 0, none⟩ = some x0) (h1 : w.cell? ⟨b, 1, none⟩ = some x1) (h2 : w.cell? ⟨b, 2, none⟩ = some x2) (h3 : w.cell? ⟨b, 3, none⟩ = some x3) (h4 : w.cell? ⟨b, 4, none⟩ = some x4) :
    ∃ W, Hid ((((((w.setCell ⟨b, 0, none⟩ v0).setCell ⟨b, 1, none⟩ v1).setCell ⟨b, 2, none⟩ v2).setCell ⟨b, 3, none⟩ v3).setCell ⟨b, 4, none⟩ v4) = W) ∧ (∀ B w0, Below B w0 w → B ≤ b → Below B w0 W) ∧ (W.cell? ⟨b, 0, none⟩ = some v0 ∧ W.cell? ⟨b, 1, none⟩ = some v1 ∧ W.cell? ⟨b, 2, none⟩ = some v2 ∧ W.cell? ⟨b, 3, none⟩ = some v3 ∧ W.cell? ⟨b, 4, none⟩ = some v4) := by
  refine ⟨_, Lib.hid rfl, fun B w0 h hb => ((((h.setCell (p := ⟨b, 0, none⟩) hb v0).setCell (p := ⟨b, 1, none⟩) hb v1).setCell (p := ⟨b, 2, none⟩) hb v2).setCell (p := ⟨b, 3, none⟩) hb v3).setCell (p := ⟨b, 4, none⟩) hb v4, ?_⟩
  have n : ∀ i j : Nat, i ≠ j → (⟨b, i, none⟩ : Addr) ≠ ⟨b, j, none⟩ := fun i j h e => h (by injection e)
  refine ⟨?_, ?_, ?_, ?_, ?_⟩
  · exact set_other (set_other (set_other (set_other (set_same h0) (n 1 0 (by decide))) (n 2 0 (by decide))) (n 3 0 (by decide))) (n 4 0 (by decide))
  · exact set_other (set_other (set_other (set_same (set_other h1 (n 0 1 (by decide)))) (n 2 1 (by decide))) (n 3 1 (by decide))) (n 4 1 (by decide))
  · exact set_other (set_other (set_same (set_other (set_other h2 (n 0 2 (by decide))) (n 1 2 (by decide)))) (n 3 2 (by decide))) (n 4 2 (by decide))
  · exact set_other (set_same (set_other (set_other (set_other h3 (n 0 3 (by decide))) (n 1 3 (by decide))) (n 2 3 (by decide)))) (n 4 3 (by decide))
  · exact set_same (set_other (set_other (set_other (set_other h4 (n 0 4 (by decide))) (n 1 4 (by decide))) (n 2 4 (by decide))) (n 3 4 (by decide)))
theorem lfirst_any (es : List Int) (b c : Nat) (w : World) (hc : ∀ i, i < es.length → w.cell? ⟨b, i, none⟩ = some (.int .i64 (es.getD i 0))) (hl : es.length ≤ 100) :
    Calls Tryz.prog 34 #[.slice (some ⟨b, 0, none⟩) es.length c] w fun r w' => r = .returned (.int .i64 (fst es)) ∧ w' = w := by
  go_enter Tryz.func34, Tryz.ntmps34
  go_wp2_with fail
  refine (qFirst_any es _ c _ hc hl).mono ?_
  rintro e w1 ⟨rfl, rfl⟩
  go_wp2_with fail
  go_ret
  exact ⟨rfl, rfl⟩
theorem fz_new (w : World) (l : List Value) (T : TypeId) (i : Nat) : (w.alloc (.cells l.toArray T)).frozen? ⟨w.heap.size, i, none⟩ = false := by simp
theorem two_mov (a d : MovV) (w : World) (T : TypeId) (n : Nat) (hn : n = w.heap.size) : RowsAt MovV.cells 7 (w.alloc (.cells #[.int .i64 a.moment, .string a.kind, .string a.terminal, .int .i64 a.seats, .int .i64 a.size, .int .i64 a.noise, .string a.name, .int .i64 d.moment, .string d.kind, .string d.terminal, .int .i64 d.seats, .int .i64 d.size, .int .i64 d.noise, .string d.name] T)) n 0 [a, d] := by
  subst hn
  refine ⟨fun i hi t v hv => ?_⟩
  refine cell_fresh w _ T _ v ?_
  have ht : t < 7 := (Array.getElem?_eq_some_iff.1 hv).1
  simp only [List.length_cons, List.length_nil] at hi
  obtain rfl | rfl : i = 0 ∨ i = 1 := by omega
  · rw [← hv]
    match t, ht with
    | 0, _ => rfl
    | 1, _ => rfl
    | 2, _ => rfl
    | 3, _ => rfl
    | 4, _ => rfl
    | 5, _ => rfl
    | 6, _ => rfl
  · rw [← hv]
    match t, ht with
    | 0, _ => rfl
    | 1, _ => rfl
    | 2, _ => rfl
    | 3, _ => rfl
    | 4, _ => rfl
    | 5, _ => rfl
    | 6, _ => rfl
theorem two_turn {W : World} {b : Nat} {t u : TurnV} (h : ∀ i v, ([.string t.name, .int .i64 t.start, .int .i64 t.fin, .int .i64 t.size, .string t.terminal, .string u.name, .int .i64 u.start, .int .i64 u.fin, .int .i64 u.size, .string u.terminal] : List Value)[i]? = some v → W.cell? ⟨b, i, none⟩ = some v) :
    RowsAt TurnV.cells 5 W b 0 [t, u] ∧ RowsAt TurnV.cells 5 W b 0 [t] ∧ RowsAt TurnV.cells 5 W b 5 [u] := by
  refine ⟨⟨fun i hi k v hv => ?_⟩, ⟨fun i hi k v hv => ?_⟩, ⟨fun i hi k v hv => ?_⟩⟩
  all_goals
    have hk : k < 5 := (Array.getElem?_eq_some_iff.1 hv).1
    simp only [List.length_cons, List.length_nil] at hi
    refine h _ v ?_
    rw [← hv]
  · obtain rfl | rfl : i = 0 ∨ i = 1 := by omega
    · match k, hk with
      | 0, _ => rfl
      | 1, _ => rfl
      | 2, _ => rfl
      | 3, _ => rfl
      | 4, _ => rfl
    · match k, hk with
      | 0, _ => rfl
      | 1, _ => rfl
      | 2, _ => rfl
      | 3, _ => rfl
      | 4, _ => rfl
  · obtain rfl : i = 0 := by omega
    match k, hk with
    | 0, _ => rfl
    | 1, _ => rfl
    | 2, _ => rfl
    | 3, _ => rfl
    | 4, _ => rfl
  · obtain rfl : i = 0 := by omega
    match k, hk with
    | 0, _ => rfl
    | 1, _ => rfl
    | 2, _ => rfl
    | 3, _ => rfl
    | 4, _ => rfl
set_option maxRecDepth 100000 in
set_option maxHeartbeats 8000000 in
theorem Pairs_true (a d : MovV) (x y : Int) (s : StandV) (t u : TurnV) (w : World) (hr : Reads lst4 w) :
    Calls Tryz.prog 4 #[.agg #[.int .i64 a.moment, .string a.kind, .string a.terminal, .int .i64 a.seats, .int .i64 a.size, .int .i64 a.noise, .string a.name, .int .i64 d.moment, .string d.kind, .string d.terminal, .int .i64 d.seats, .int .i64 d.size, .int .i64 d.noise, .string d.name, .int .i64 x, .int .i64 y], .agg s.cells, .agg #[.string t.name, .int .i64 t.start, .int .i64 t.fin, .int .i64 t.size, .string t.terminal, .string u.name, .int .i64 u.start, .int .i64 u.fin, .int .i64 u.size, .string u.terminal]] w fun r w' => r = .returned (.bool true) ∧ Below w.heap.size w w' := by
  have HR := Lib.hid hr
  clear hr
  obtain ⟨W, HW, hb0, HM, hsz⟩ := cells_new w [.int .i64 a.moment, .string a.kind, .string a.terminal, .int .i64 a.seats, .int .i64 a.size, .int .i64 a.noise, .string a.name, .int .i64 d.moment, .string d.kind, .string d.terminal, .int .i64 d.seats, .int .i64 d.size, .int .i64 d.noise, .string d.name, .int .i64 x, .int .i64 y] 52
  obtain ⟨W1, HW1, hb1, HS, hsz1⟩ := cells_new W s.cells.toList 54
  obtain ⟨W2, HW2, hb2, HT, hsz2⟩ := cells_new W1 [.string t.name, .int .i64 t.start, .int .i64 t.fin, .int .i64 t.size, .string t.terminal, .string u.name, .int .i64 u.start, .int .i64 u.fin, .int .i64 u.size, .string u.terminal] 57
  rw [hsz] at hsz1 HS
  rw [hsz1] at hsz2 HT
  have hbx := b_then hb1 hb2
  have hB0 := b_then hb0 hbx
  have HM := Lib.hid (fun i v h => b_old hbx (HM.out i v h))
  have HS := Lib.hid (fun i v h => b_old hb2 (HS.out i v h))
  have HTW := Lib.hid (two_turn HT.out)
  have HTA := Lib.hid (fun wk (hk : Below W2.heap.size W2 wk) => (show SlArg TurnV.cells 5 wk (.slice (some ⟨w.heap.size + 1 + 1, 0, none⟩) 2 2) [t, u] from .inr ⟨by simp, _, 0, 2, rfl, HTW.out.1.below hk, by simp, by have := hk.size; omega⟩))
  have HT1 := Lib.hid (fun wk (hk : Below W2.heap.size W2 wk) => (show SlArg TurnV.cells 5 wk (.slice (some ⟨w.heap.size + 1 + 1, 0, none⟩) 1 2) [t] from .inr ⟨by simp, _, 0, 2, rfl, HTW.out.2.1.below hk, by simp, by have := hk.size; omega⟩))
  have HU1 := Lib.hid (fun wk (hk : Below W2.heap.size W2 wk) => (show SlArg TurnV.cells 5 wk (.slice (some ⟨w.heap.size + 1 + 1, 5, none⟩) 1 1) [u] from .inr ⟨by simp, _, 5, 1, rfl, HTW.out.2.2.below hk, by simp, by have := hk.size; omega⟩))
  have HPA := Lib.hid (fun w => Pair_any a d x y w)
  have HPE := Lib.hid (fun w => rCheckPair_any a d x y w)
  have HPP := Lib.hid (fun w => rPair_any a d w)
  have HPO : Hid (pairOut a d x y = if pairErr a d x y = 0 then pairT a d else zeroT) := Lib.hid rfl
  have HMV := Lib.hid (fun w T n hn => ShortMovements_some 2 [a, d] n 0 2 _ (two_mov a d w T n hn) (by simp))
  have HOS := Lib.hid (fun v w hv => OwnStand_any [s] v w w hv (Below.refl _ _) (by simp))
  have HSS := Lib.hid (fun v w hv => ShortStands_any 1 (by decide) [s] v w w hv (Below.refl _ _) (by simp))
  have HOT := Lib.hid (fun v w hv => OwnTurn_any [t, u] v w w hv (Below.refl _ _) (by simp))
  have HST := Lib.hid (fun v w hv => ShortTurns_any 2 (by decide) [t, u] v w w hv (Below.refl _ _) (by simp))
  have HONE := Lib.hid (fun w T n hn => one_sl StandV.cells 3 s w T n 1 hn (by decide))
  have HSI := Lib.hid (fun h1 h2 w => Suits_any s t h1 h2 w)
  have HOV := Lib.hid (fun h1 h2 w => Overlap_any t u x h1 h2 w)
  have HSE : Hid (suitsErr s t = fst [standsErr [s], turnsErr [t]]) := Lib.hid rfl
  have HSO : Hid (suitsOut s t = if suitsErr s t = 0 then suitsV s t else false) := Lib.hid rfl
  have HOE : Hid (overErr t u x = fst [turnsErr [t], turnsErr [u], rng x 0 240]) := Lib.hid rfl
  have HOO : Hid (overOut t u x = if overErr t u x = 0 then overlapV t u x else false) := Lib.hid rfl
  have HRS := Lib.hid (fun w => refSuits_any s t w)
  have HRO := Lib.hid (fun (w : World) (h : overErr t u x = 0) => by
    have h1 := fst_zero h
    have h2 := fst_zero h1.2
    have h3 := rng_bd (fst_zero h2.2).1
    exact refOverlap_any t u x w (turnsErr_bd h1.1) (turnsErr_bd h2.1) h3.1 h3.2)
  have HQS := Lib.hid (fun v w hv => refStands_any [s] v w w hv (Below.refl _ _) (by simp))
  have HQT := Lib.hid (fun v w hv => refTurns_any [t] v w w hv (Below.refl _ _) (by simp))
  have HQU := Lib.hid (fun v w hv => refTurns_any [u] v w w hv (Below.refl _ _) (by simp))
  have HCT := Lib.hid (fun v w hv => OwnTurn_any [t] v w w hv (Below.refl _ _) (by simp))
  have HCU := Lib.hid (fun v w hv => OwnTurn_any [u] v w w hv (Below.refl _ _) (by simp))
  clear hb1 hb2 hbx hb0
  generalize standsErr [s] = e1 at *
  generalize turnsErr [t] = e2 at *
  generalize turnsErr [u] = e3 at *
  generalize suitsErr s t = se at *
  generalize suitsOut s t = so at *
  generalize suitsV s t = sv at *
  generalize overErr t u x = oe at *
  generalize overOut t u x = oo at *
  generalize overlapV t u x = ov at *
  generalize pairErr a d x y = pe at *
  generalize pairOut a d x y = po at *
  generalize pairT a d = pt at *
  obtain ⟨pn, pa, pq, pz, ptm⟩ := pt
  obtain ⟨on, oa, oq, oz, ot⟩ := po
  obtain ⟨am, ak, ater, asts, az, an, aname⟩ := a
  obtain ⟨dm, dk, dt, ds, dz, dn, dname⟩ := d
  obtain ⟨sn, ss, st⟩ := s
  obtain ⟨tn, ta, te, tz, tt⟩ := t
  obtain ⟨un, ua, ue, uz, ut⟩ := u
  simp only [StandV.cells, TurnV.cells, MovV.cells] at *
  go_enter Tryz.func4, Tryz.ntmps4
  go_wp2_with fail
  rw [HW.out, HW1.out, HW2.out]
  refine (awake4_true _ (reads_belowC HR.out hB0)).mono ?_
  rintro e w3 ⟨rfl, hq3⟩
  have m0 := b_old hq3 (HM.out 0 _ rfl)
  have m1 := b_old hq3 (HM.out 1 _ rfl)
  have m2 := b_old hq3 (HM.out 2 _ rfl)
  have m3 := b_old hq3 (HM.out 3 _ rfl)
  have m4 := b_old hq3 (HM.out 4 _ rfl)
  have m5 := b_old hq3 (HM.out 5 _ rfl)
  have m6 := b_old hq3 (HM.out 6 _ rfl)
  have m7 := b_old hq3 (HM.out 7 _ rfl)
  have m8 := b_old hq3 (HM.out 8 _ rfl)
  have m9 := b_old hq3 (HM.out 9 _ rfl)
  have m10 := b_old hq3 (HM.out 10 _ rfl)
  have m11 := b_old hq3 (HM.out 11 _ rfl)
  have m12 := b_old hq3 (HM.out 12 _ rfl)
  have m13 := b_old hq3 (HM.out 13 _ rfl)
  have hB3 := b_then hB0 hq3
  go_wp2_with fail
  refine (HMV.out _ _ _ rfl).mono ?_
  rintro e w4 ⟨⟨b1, rfl, -⟩, hb4⟩
  have hq4 := b_then hq3 (b_then (below_alloc _ _) hb4)
  clear hb4 hq3 hB3
  clear m0 m1 m2 m3 m4 m5 m6 m7 m8 m9 m10 m11 m12 m13
  cases b1
  · go_wp2_with fail
    refine (awake4_true _ (reads_belowC HR.out (b_then hB0 hq4))).mono ?_
    rintro e wz ⟨rfl, hbz⟩
    go_wp2_with fail
    go_ret
    exact ⟨rfl, b_then (b_then hB0 hq4) hbz⟩
  have s0 := b_old hq4 (HS.out 0 _ rfl)
  have s1 := b_old hq4 (HS.out 1 _ rfl)
  have s2 := b_old hq4 (HS.out 2 _ rfl)
  go_wp2_with fail
  refine (HOS.out _ _ (HONE.out _ _ _ rfl)).mono ?_
  rintro e w5 ⟨⟨v5, rfl, hown5⟩, hb5⟩
  have hv5 := slArg_own (f := StandV.cells) (k := 3) (fun _ => rfl) (by decide) hown5
  have hq5 := b_then hq4 (b_then (below_alloc _ _) hb5)
  clear hb5 hq4 hown5
  clear s0 s1 s2
  go_wp2_with fail
  refine (HSS.out _ _ hv5).mono ?_
  rintro e w6 ⟨⟨b2, rfl, hs2⟩, hb6⟩
  have HS2 := Lib.hid hs2
  have hq6 := b_then hq5 hb6
  clear hb6 hq5 hs2 hv5
  cases b2
  · go_wp2_with fail
    refine (awake4_true _ (reads_belowC HR.out (b_then hB0 hq6))).mono ?_
    rintro e wz ⟨rfl, hbz⟩
    go_wp2_with fail
    go_ret
    exact ⟨rfl, b_then (b_then hB0 hq6) hbz⟩
  go_wp2_with fail
  refine (HOT.out _ _ (HTA.out _ hq6)).mono ?_
  rintro e w7 ⟨⟨v7, rfl, hown7⟩, hb7⟩
  have hv7 := slArg_own (f := TurnV.cells) (k := 5) (fun _ => rfl) (by decide) hown7
  have hq7 := b_then hq6 hb7
  clear hb7 hq6 hown7
  go_wp2_with fail
  refine (HST.out _ _ hv7).mono ?_
  rintro e w8 ⟨⟨b3, rfl, hs3⟩, hb8⟩
  have HS3 := Lib.hid hs3
  have hq8 := b_then hq7 hb8
  clear hb8 hq7 hs3 hv7
  cases b3
  · go_wp2_with fail
    refine (awake4_true _ (reads_belowC HR.out (b_then hB0 hq8))).mono ?_
    rintro e wz ⟨rfl, hbz⟩
    go_wp2_with fail
    go_ret
    exact ⟨rfl, b_then (b_then hB0 hq8) hbz⟩
  have ns : sn.size ≤ maxLen := by have := ((HS2.out (by first | rfl | trivial)).2 0 (by simp)).1; simp at this; unfold maxLen; omega
  have nt : tn.size ≤ maxLen := by have := ((HS3.out (by first | rfl | trivial)).2 0 (by simp)).1; simp at this; unfold maxLen; omega
  have nu : un.size ≤ maxLen := by have := ((HS3.out (by first | rfl | trivial)).2 1 (by simp)).1; simp at this; unfold maxLen; omega
  have HSI := Lib.hid (fun w => HSI.out ns nt w)
  have HOV := Lib.hid (fun w => HOV.out nt nu w)
  clear ns nt nu HS2 HS3
  have m0 := b_old hq8 (HM.out 0 _ rfl)
  have m1 := b_old hq8 (HM.out 1 _ rfl)
  have m2 := b_old hq8 (HM.out 2 _ rfl)
  have m3 := b_old hq8 (HM.out 3 _ rfl)
  have m4 := b_old hq8 (HM.out 4 _ rfl)
  have m5 := b_old hq8 (HM.out 5 _ rfl)
  have m6 := b_old hq8 (HM.out 6 _ rfl)
  have m7 := b_old hq8 (HM.out 7 _ rfl)
  have m8 := b_old hq8 (HM.out 8 _ rfl)
  have m9 := b_old hq8 (HM.out 9 _ rfl)
  have m10 := b_old hq8 (HM.out 10 _ rfl)
  have m11 := b_old hq8 (HM.out 11 _ rfl)
  have m12 := b_old hq8 (HM.out 12 _ rfl)
  have m13 := b_old hq8 (HM.out 13 _ rfl)
  have m14 := b_old hq8 (HM.out 14 _ rfl)
  have m15 := b_old hq8 (HM.out 15 _ rfl)
  go_wp2_with fail
  refine (HPA.out _).mono ?_
  rintro e w9 ⟨rfl, hb9⟩
  have hq9 := b_then hq8 hb9
  clear hb9
  clear m0 m1 m2 m3 m4 m5 m6 m7 m8 m9 m10 m11 m12 m13 m14 m15
  obtain ⟨W9, HW9, hbz9, HZ9, hsz9⟩ := cells_new w9 [.string on, .int .i64 oa, .int .i64 oq, .int .i64 oz, .string ot] 56
  have hqz := b_then hq9 hbz9
  go_upto_region 4 with fail
  rw [HW9.out]
  have m0 := b_old hqz (HM.out 0 _ rfl)
  have m1 := b_old hqz (HM.out 1 _ rfl)
  have m2 := b_old hqz (HM.out 2 _ rfl)
  have m3 := b_old hqz (HM.out 3 _ rfl)
  have m4 := b_old hqz (HM.out 4 _ rfl)
  have m5 := b_old hqz (HM.out 5 _ rfl)
  have m6 := b_old hqz (HM.out 6 _ rfl)
  have m7 := b_old hqz (HM.out 7 _ rfl)
  have m8 := b_old hqz (HM.out 8 _ rfl)
  have m9 := b_old hqz (HM.out 9 _ rfl)
  have m10 := b_old hqz (HM.out 10 _ rfl)
  have m11 := b_old hqz (HM.out 11 _ rfl)
  have m12 := b_old hqz (HM.out 12 _ rfl)
  have m13 := b_old hqz (HM.out 13 _ rfl)
  have m14 := b_old hqz (HM.out 14 _ rfl)
  have m15 := b_old hqz (HM.out 15 _ rfl)
  go_wp2_with fail
  refine (HPE.out _).mono ?_
  rintro e w10 ⟨rfl, hb10⟩
  have hq10 := b_then hqz hb10
  clear m0 m1 m2 m3 m4 m5 m6 m7 m8 m9 m10 m11 m12 m13 m14 m15
  obtain ⟨W10, HW10, hbz10, HZ10, hsz10⟩ := cells_new w10 [.string ⟨#[]⟩, .int .i64 0, .int .i64 0, .int .i64 0, .string ⟨#[]⟩] 61
  have hqx := b_then hq10 hbz10
  have hz10 := b_then hb10 hbz10
  go_upto_region 6 with fail
  rw [HW10.out]
  by_cases hp : pe = 0
  · have HPO := HPO.out
    rw [if_pos hp] at HPO
    simp only [TurnV.mk.injEq] at HPO
    obtain ⟨rfl, rfl, rfl, rfl, rfl⟩ := HPO
    subst hp
    have m0 := b_old hqx (HM.out 0 _ rfl)
    have m1 := b_old hqx (HM.out 1 _ rfl)
    have m2 := b_old hqx (HM.out 2 _ rfl)
    have m3 := b_old hqx (HM.out 3 _ rfl)
    have m4 := b_old hqx (HM.out 4 _ rfl)
    have m5 := b_old hqx (HM.out 5 _ rfl)
    have m6 := b_old hqx (HM.out 6 _ rfl)
    have m7 := b_old hqx (HM.out 7 _ rfl)
    have m8 := b_old hqx (HM.out 8 _ rfl)
    have m9 := b_old hqx (HM.out 9 _ rfl)
    have m10 := b_old hqx (HM.out 10 _ rfl)
    have m11 := b_old hqx (HM.out 11 _ rfl)
    have m12 := b_old hqx (HM.out 12 _ rfl)
    have m13 := b_old hqx (HM.out 13 _ rfl)
    go_wp2_with fail
    refine (HPP.out _).mono ?_
    rintro e w11 ⟨rfl, hb11⟩
    have y0 := b_old hb11 (HZ10.out 0 _ rfl)
    have g0 := b_frozen hb11 (HZ10.out 0 _ rfl) (show W10.frozen? ⟨w10.heap.size, 0, none⟩ = false by rw [← HW10.out]; exact fz_new w10 _ _ 0)
    have y1 := b_old hb11 (HZ10.out 1 _ rfl)
    have g1 := b_frozen hb11 (HZ10.out 1 _ rfl) (show W10.frozen? ⟨w10.heap.size, 1, none⟩ = false by rw [← HW10.out]; exact fz_new w10 _ _ 1)
    have y2 := b_old hb11 (HZ10.out 2 _ rfl)
    have g2 := b_frozen hb11 (HZ10.out 2 _ rfl) (show W10.frozen? ⟨w10.heap.size, 2, none⟩ = false by rw [← HW10.out]; exact fz_new w10 _ _ 2)
    have y3 := b_old hb11 (HZ10.out 3 _ rfl)
    have g3 := b_frozen hb11 (HZ10.out 3 _ rfl) (show W10.frozen? ⟨w10.heap.size, 3, none⟩ = false by rw [← HW10.out]; exact fz_new w10 _ _ 3)
    have y4 := b_old hb11 (HZ10.out 4 _ rfl)
    have g4 := b_frozen hb11 (HZ10.out 4 _ rfl) (show W10.frozen? ⟨w10.heap.size, 4, none⟩ = false by rw [← HW10.out]; exact fz_new w10 _ _ 4)
    obtain ⟨W11, HW11, hset, c0, c1, c2, c3, c4⟩ := set5 w11 w10.heap.size _ _ _ _ _ (.string on) (.int .i64 oa) (.int .i64 oq) (.int .i64 oz) (.string ot) y0 y1 y2 y3 y4
    clear m0 m1 m2 m3 m4 m5 m6 m7 m8 m9 m10 m11 m12 m13
    go_upto_region 8 with fail
    rw [HW11.out]
    have hq11 := hset _ _ (b_then hqx hb11) (by have h1 := hqz.size; have h2 := hb10.size; omega)
    have hz11 := hset _ _ (b_then hz10 hb11) hb10.size
    have z0 := b_old hz11 (HZ9.out 0 _ rfl)
    have z1 := b_old hz11 (HZ9.out 1 _ rfl)
    have z2 := b_old hz11 (HZ9.out 2 _ rfl)
    have z3 := b_old hz11 (HZ9.out 3 _ rfl)
    have z4 := b_old hz11 (HZ9.out 4 _ rfl)
    have s0 := b_old hq11 (HS.out 0 _ rfl)
    have s1 := b_old hq11 (HS.out 1 _ rfl)
    have s2 := b_old hq11 (HS.out 2 _ rfl)
    have t0 := b_old hq11 (HT.out 0 _ rfl)
    have t1 := b_old hq11 (HT.out 1 _ rfl)
    have t2 := b_old hq11 (HT.out 2 _ rfl)
    have t3 := b_old hq11 (HT.out 3 _ rfl)
    have t4 := b_old hq11 (HT.out 4 _ rfl)
    go_wp2_with fail
    refine (HSI.out _).mono ?_
    rintro e w12 ⟨rfl, hb12⟩
    have hq12 := b_then hq11 hb12
    clear s0 s1 s2
    clear t0 t1 t2 t3 t4
    have s0 := b_old hq12 (HS.out 0 _ rfl)
    have s1 := b_old hq12 (HS.out 1 _ rfl)
    have s2 := b_old hq12 (HS.out 2 _ rfl)
    go_upto_region 11 with fail
    refine HL.held_ways (fun o => o.dst == some 84 || o.dst == some 85 || o.dst == some 86 || o.dst == some 88 || o.dst == some 89 || o.dst == some 90 || o.dst == some 91) (fun o p => (o.dst == some 85 && p.dst == some 84) || (o.dst == some 86 && p.dst == some 85) || (o.dst == some 89 && p.dst == some 88) || (o.dst == some 91 && p.dst == some 90)) (fun o v x => (o.dst = some 84 → ∃ b c, v = .slice (some ⟨b, 0, none⟩) 1 c ∧ SlArg StandV.cells 3 x v [⟨sn, ss, st⟩]) ∧ (o.dst = some 85 → SlArg StandV.cells 3 x v [⟨sn, ss, st⟩]) ∧ (o.dst = some 86 → v = .int .i64 e1) ∧ (o.dst = some 88 → SlArg TurnV.cells 5 x v [⟨tn, ta, te, tz, tt⟩]) ∧ (o.dst = some 89 → v = .int .i64 e2) ∧ (o.dst = some 90 → ∃ b c, v = .slice (some ⟨b, 0, none⟩) 2 c ∧ x.cell? ⟨b, 0, none⟩ = some (.int .i64 e1) ∧ x.cell? ⟨b, 1, none⟩ = some (.int .i64 e2)) ∧ (o.dst = some 91 → v = .int .i64 (fst [e1, e2]))) 9 [[2, 1], [3, 2], [6, 5], [8, 7]] (by kernel_rfl) (by kernel_rfl) (by kernel_rfl) (fun _ v x y hx hy => ⟨fun ho => ?_, fun ho => (hx.2.1 ho).below hy, hx.2.2.1, fun ho => (hx.2.2.2.1 ho).below hy, hx.2.2.2.2.1, fun ho => ?_, hx.2.2.2.2.2.2⟩) ?_
    · obtain ⟨b, c, h1, h2⟩ := hx.1 ho; exact ⟨b, c, h1, h2.below hy⟩
    · obtain ⟨b, c, h1, h2, h3⟩ := hx.2.2.2.2.2.1 ho; exact ⟨b, c, h1, b_old hy h2, b_old hy h3⟩
    simp only [List.take_succ_cons, List.take_zero, List.drop_succ_cons, List.drop_zero]
    refine HL.hold_run 1 (by kernel_rfl) (fun u1 hu1 => ?_)
    simp only [List.take_succ_cons, List.take_zero, List.drop_succ_cons, List.drop_zero]
    have k0 : ∀ x : KeptW u1, x.v.cell? ⟨w.heap.size + 1, 0, none⟩ = _ := fun x => x.cell (b_old hu1 s0)
    have k1 : ∀ x : KeptW u1, x.v.cell? ⟨w.heap.size + 1, 1, none⟩ = _ := fun x => x.cell (b_old hu1 s1)
    have k2 : ∀ x : KeptW u1, x.v.cell? ⟨w.heap.size + 1, 2, none⟩ = _ := fun x => x.cell (b_old hu1 s2)
    have hne : Nonempty (KeptW u1) := ⟨⟨u1, Below.refl _ _⟩⟩
    iterate 1 (go_big_quiet_step (fail))
    refine wpQuiet_nil ?_
    clear hne k0 k1 k2
    intro K1 hK1
    refine HL.hold_at rfl (by first | rfl | kernel_rfl) (fun x hux _ => ?_) ?_
    · refine HN.heldUpon_made (o := .cells #[.string sn, .int .i64 ss, .string st] 54) (v := .slice (some ⟨x.heap.size, 0, none⟩) 1 1) (by simp [go_sem]) ?_
      exact ⟨(fun _ => ⟨_, _, rfl, HONE.out x _ _ rfl⟩), (fun h => by cases h), (fun h => by cases h), (fun h => by cases h), (fun h => by cases h), (fun h => by cases h), (fun h => by cases h)⟩
    rintro v84 ⟨x84, -, -, hv, -, -, -, -, -, -⟩
    obtain ⟨b84, c84, rfl, -⟩ := hv (by first | rfl | trivial)
    clear hv x84
    simp only [Act.put, List.setIfInBounds_toArray, List.set_cons_succ, List.set_cons_zero]
    refine HL.hold_at rfl (by first | rfl | kernel_rfl) (fun x hux hk => ?_) ?_
    · have hS := (hk.2 (by first | rfl | trivial)).1 (by first | rfl | trivial)
      obtain ⟨_, _, -, hS⟩ := hS
      refine HN.heldUpon_enter (f := 16) (args := #[.slice (some ⟨b84, 0, none⟩) 1 c84]) (by simp [go_sem]) ((HOS.out _ x hS).mono ?_)
      rintro e y ⟨⟨u', rfl, hL⟩, hy⟩
      exact ⟨_, rfl, KpW.iff.2 hy, (fun h => by cases h), (fun _ => slArg_own (f := StandV.cells) (k := 3) (fun _ => rfl) (by decide) hL), (fun h => by cases h), (fun h => by cases h), (fun h => by cases h), (fun h => by cases h), (fun h => by cases h)⟩
    rintro v85 ⟨x85, -, -, -, hv, -, -, -, -, -⟩
    obtain ⟨A85, c85, rfl⟩ := (hv (by first | rfl | trivial)).len
    clear hv x85
    simp only [Act.put, List.setIfInBounds_toArray, List.set_cons_succ, List.set_cons_zero]
    refine HL.hold_at rfl (by first | rfl | kernel_rfl) (fun x hux hk => ?_) ?_
    · have hS := (hk.2 (by first | rfl | trivial)).2.1 (by first | rfl | trivial)
      skip
      refine HN.heldUpon_enter (f := 23) (args := #[.slice A85 1 c85]) (by simp [go_sem]) ((HQS.out _ x hS).mono ?_)
      rintro e y ⟨rfl, hy⟩
      exact ⟨_, rfl, KpW.iff.2 hy, (fun h => by cases h), (fun h => by cases h), (fun _ => rfl), (fun h => by cases h), (fun h => by cases h), (fun h => by cases h), (fun h => by cases h)⟩
    rintro v86 ⟨x86, -, -, -, -, hv, -, -, -, -⟩
    obtain rfl := hv (by first | rfl | trivial)
    clear hv x86
    refine HL.hold_run 1 (by kernel_rfl) (fun u2 hu2 => ?_)
    simp only [List.take_succ_cons, List.take_zero, List.drop_succ_cons, List.drop_zero, Act.put, List.setIfInBounds_toArray, List.set_cons_succ, List.set_cons_zero]
    have hne : Nonempty (KeptW u2) := ⟨⟨u2, Below.refl _ _⟩⟩
    iterate 1 (go_big_quiet_step (fail))
    refine wpQuiet_nil ?_
    clear hne
    intro K2 hK2
    refine HL.hold_at rfl (by first | rfl | kernel_rfl) (fun x hux hk => ?_) ?_
    · have hS := HT1.out x (b_then hq12 (KpW.iff.1 hux))
      refine HN.heldUpon_enter (f := 18) (args := #[.slice (some ⟨w.heap.size + 1 + 1, 0, none⟩) 1 2]) (by simp [go_sem]) ((HCT.out _ x hS).mono ?_)
      rintro e y ⟨⟨u', rfl, hL⟩, hy⟩
      exact ⟨_, rfl, KpW.iff.2 hy, (fun h => by cases h), (fun h => by cases h), (fun h => by cases h), (fun _ => slArg_own (f := TurnV.cells) (k := 5) (fun _ => rfl) (by decide) hL), (fun h => by cases h), (fun h => by cases h), (fun h => by cases h)⟩
    rintro v88 ⟨x88, -, -, -, -, -, hv, -, -, -⟩
    obtain ⟨A88, c88, rfl⟩ := (hv (by first | rfl | trivial)).len
    clear hv x88
    simp only [Act.put, List.setIfInBounds_toArray, List.set_cons_succ, List.set_cons_zero]
    refine HL.hold_at rfl (by first | rfl | kernel_rfl) (fun x hux hk => ?_) ?_
    · have hS := (hk.2 (by first | rfl | trivial)).2.2.2.1 (by first | rfl | trivial)
      skip
      refine HN.heldUpon_enter (f := 25) (args := #[.slice A88 1 c88]) (by simp [go_sem]) ((HQT.out _ x hS).mono ?_)
      rintro e y ⟨rfl, hy⟩
      exact ⟨_, rfl, KpW.iff.2 hy, (fun h => by cases h), (fun h => by cases h), (fun h => by cases h), (fun h => by cases h), (fun _ => rfl), (fun h => by cases h), (fun h => by cases h)⟩
    rintro v89 ⟨x89, -, -, -, -, -, -, hv, -, -⟩
    obtain rfl := hv (by first | rfl | trivial)
    clear hv x89
    refine HL.hold_at rfl (by first | rfl | kernel_rfl) (fun x hux _ => ?_) ?_
    · refine HN.heldUpon_made (o := .cells #[.int .i64 e1, .int .i64 e2] 3) (v := .slice (some ⟨x.heap.size, 0, none⟩) 2 2) (by simp [go_sem]) ?_
      exact ⟨(fun h => by cases h), (fun h => by cases h), (fun h => by cases h), (fun h => by cases h), (fun h => by cases h), (fun _ => ⟨_, _, rfl, by simp, by simp⟩), (fun h => by cases h)⟩
    rintro v90 ⟨x90, -, -, -, -, -, -, -, hv, -⟩
    obtain ⟨b90, c90, rfl, -, -⟩ := hv (by first | rfl | trivial)
    clear hv x90
    simp only [Act.put, List.setIfInBounds_toArray, List.set_cons_succ, List.set_cons_zero]
    refine HL.hold_at rfl (by first | rfl | kernel_rfl) (fun x hux hk => ?_) ?_
    · have hS := (hk.2 (by first | rfl | trivial)).2.2.2.2.2.1 (by first | rfl | trivial)
      obtain ⟨b, c, he, h1, h2⟩ := hS
      obtain ⟨rfl, rfl⟩ : b90 = b ∧ c90 = c := by simpa using he
      clear he -- SAME
      refine HN.heldUpon_enter (f := 34) (args := #[.slice (some ⟨b90, 0, none⟩) 2 c90]) (by simp [go_sem]) ((lfirst_any [e1, e2] b90 c90 x (fun i hi => by match i, hi with | 0, _ => exact h1 | 1, _ => exact h2) (by simp)).mono ?_)
      rintro e y ⟨rfl, hy⟩
      exact ⟨_, rfl, KpW.iff.2 (by rw [hy]; exact Below.refl _ _), (fun h => by cases h), (fun h => by cases h), (fun h => by cases h), (fun h => by cases h), (fun h => by cases h), (fun h => by cases h), (fun _ => rfl)⟩
    rintro v91 ⟨x91, -, -, -, -, -, -, -, -, hv⟩
    obtain rfl := hv (by first | rfl | trivial)
    clear hv x91
    intro w14 hb14 hkz
    clear hkz
    clear K1 hK1 K2 hK2
    simp only [Act.put, List.setIfInBounds_toArray, List.set_cons_succ, List.set_cons_zero]
    rw [← HSE.out]
    have hq14 := b_then hq12 hb14
    clear s0 s1 s2
    have s0 := b_old hq14 (HS.out 0 _ rfl)
    have s1 := b_old hq14 (HS.out 1 _ rfl)
    have s2 := b_old hq14 (HS.out 2 _ rfl)
    have t0 := b_old hq14 (HT.out 0 _ rfl)
    have t1 := b_old hq14 (HT.out 1 _ rfl)
    have t2 := b_old hq14 (HT.out 2 _ rfl)
    have t3 := b_old hq14 (HT.out 3 _ rfl)
    have t4 := b_old hq14 (HT.out 4 _ rfl)
    by_cases hs0 : se = 0
    · have HSV := HSO.out
      rw [if_pos hs0] at HSV
      subst hs0
      subst HSV
      go_wp2_with fail
      refine (HRS.out _).mono ?_
      rintro e w15 ⟨rfl, hb15⟩
      have hq15 := b_then hq14 hb15
      clear s0 s1 s2
      clear t0 t1 t2 t3 t4
      have m14 := b_old hq15 (HM.out 14 _ rfl)
      have t0 := b_old hq15 (HT.out 0 _ rfl)
      have t1 := b_old hq15 (HT.out 1 _ rfl)
      have t2 := b_old hq15 (HT.out 2 _ rfl)
      have t3 := b_old hq15 (HT.out 3 _ rfl)
      have t4 := b_old hq15 (HT.out 4 _ rfl)
      have t5 := b_old hq15 (HT.out 5 _ rfl)
      have t6 := b_old hq15 (HT.out 6 _ rfl)
      have t7 := b_old hq15 (HT.out 7 _ rfl)
      have t8 := b_old hq15 (HT.out 8 _ rfl)
      have t9 := b_old hq15 (HT.out 9 _ rfl)
      go_wp2_with fail
      refine (HOV.out _).mono ?_
      rintro e w16 ⟨rfl, hb16⟩
      have hq16 := b_then hq15 hb16
      clear m14 t0 t1 t2 t3 t4 t5 t6 t7 t8 t9
      have m14 := b_old hq16 (HM.out 14 _ rfl)
      go_upto_region 15 with fail
      generalize hxx : x = xx at *
      refine HL.held_ways (fun o => o.dst == some 118 || o.dst == some 119 || o.dst == some 121 || o.dst == some 122 || o.dst == some 126 || o.dst == some 127) (fun o p => (o.dst == some 119 && p.dst == some 118) || (o.dst == some 122 && p.dst == some 121) || (o.dst == some 127 && p.dst == some 126)) (fun o v x => (o.dst = some 118 → SlArg TurnV.cells 5 x v [⟨tn, ta, te, tz, tt⟩]) ∧ (o.dst = some 119 → v = .int .i64 e2) ∧ (o.dst = some 121 → SlArg TurnV.cells 5 x v [⟨un, ua, ue, uz, ut⟩]) ∧ (o.dst = some 122 → v = .int .i64 e3) ∧ (o.dst = some 126 → ∃ b c, v = .slice (some ⟨b, 0, none⟩) 3 c ∧ x.cell? ⟨b, 0, none⟩ = some (.int .i64 e2) ∧ x.cell? ⟨b, 1, none⟩ = some (.int .i64 e3) ∧ x.cell? ⟨b, 2, none⟩ = some (.int .i64 (rng xx 0 240))) ∧ (o.dst = some 127 → v = .int .i64 (fst [e2, e3, rng xx 0 240]))) 11 [[2, 1], [5, 4], [10, 9]] (by kernel_rfl) (by kernel_rfl) (by kernel_rfl) (fun _ v x y hx hy => ⟨fun ho => (hx.1 ho).below hy, hx.2.1, fun ho => (hx.2.2.1 ho).below hy, hx.2.2.2.1, fun ho => ?_, hx.2.2.2.2.2⟩) ?_
      · obtain ⟨b, c, h1, h2, h3, h4⟩ := hx.2.2.2.2.1 ho; exact ⟨b, c, h1, b_old hy h2, b_old hy h3, b_old hy h4⟩
      simp only [List.take_succ_cons, List.take_zero, List.drop_succ_cons, List.drop_zero]
      refine HL.hold_run 1 (by kernel_rfl) (fun u1 hu1 => ?_)
      simp only [List.take_succ_cons, List.take_zero, List.drop_succ_cons, List.drop_zero]
      have hne : Nonempty (KeptW u1) := ⟨⟨u1, Below.refl _ _⟩⟩
      iterate 1 (go_big_quiet_step (fail))
      refine wpQuiet_nil ?_
      clear hne
      intro K1 hK1
      refine HL.hold_at rfl (by first | rfl | kernel_rfl) (fun x hux hk => ?_) ?_
      · have hS := HT1.out x (b_then hq16 (KpW.iff.1 hux))
        refine HN.heldUpon_enter (f := 18) (args := #[.slice (some ⟨w.heap.size + 1 + 1, 0, none⟩) 1 2]) (by simp [go_sem]) ((HCT.out _ x hS).mono ?_)
        rintro e y ⟨⟨u', rfl, hL⟩, hy⟩
        exact ⟨_, rfl, KpW.iff.2 hy, (fun _ => slArg_own (f := TurnV.cells) (k := 5) (fun _ => rfl) (by decide) hL), (fun h => by cases h), (fun h => by cases h), (fun h => by cases h), (fun h => by cases h), (fun h => by cases h)⟩
      rintro v118 ⟨x118, -, -, hv, -, -, -, -, -⟩
      obtain ⟨A118, c118, rfl⟩ := (hv (by first | rfl | trivial)).len
      clear hv x118
      simp only [Act.put, List.setIfInBounds_toArray, List.set_cons_succ, List.set_cons_zero]
      refine HL.hold_at rfl (by first | rfl | kernel_rfl) (fun x hux hk => ?_) ?_
      · have hS := (hk.2 (by first | rfl | trivial)).1 (by first | rfl | trivial)
        skip
        refine HN.heldUpon_enter (f := 25) (args := #[.slice A118 1 c118]) (by simp [go_sem]) ((HQT.out _ x hS).mono ?_)
        rintro e y ⟨rfl, hy⟩
        exact ⟨_, rfl, KpW.iff.2 hy, (fun h => by cases h), (fun _ => rfl), (fun h => by cases h), (fun h => by cases h), (fun h => by cases h), (fun h => by cases h)⟩
      rintro v119 ⟨x119, -, -, -, hv, -, -, -, -⟩
      obtain rfl := hv (by first | rfl | trivial)
      clear hv x119
      refine HL.hold_run 1 (by kernel_rfl) (fun u2 hu2 => ?_)
      simp only [List.take_succ_cons, List.take_zero, List.drop_succ_cons, List.drop_zero, Act.put, List.setIfInBounds_toArray, List.set_cons_succ, List.set_cons_zero]
      have hne : Nonempty (KeptW u2) := ⟨⟨u2, Below.refl _ _⟩⟩
      iterate 1 (go_big_quiet_step (fail))
      refine wpQuiet_nil ?_
      clear hne
      intro K2 hK2
      refine HL.hold_at rfl (by first | rfl | kernel_rfl) (fun x hux hk => ?_) ?_
      · have hS := HU1.out x (b_then hq16 (KpW.iff.1 hux))
        refine HN.heldUpon_enter (f := 18) (args := #[.slice (some ⟨w.heap.size + 1 + 1, 5, none⟩) 1 1]) (by simp [go_sem]) ((HCU.out _ x hS).mono ?_)
        rintro e y ⟨⟨u', rfl, hL⟩, hy⟩
        exact ⟨_, rfl, KpW.iff.2 hy, (fun h => by cases h), (fun h => by cases h), (fun _ => slArg_own (f := TurnV.cells) (k := 5) (fun _ => rfl) (by decide) hL), (fun h => by cases h), (fun h => by cases h), (fun h => by cases h)⟩
      rintro v121 ⟨x121, -, -, -, -, hv, -, -, -⟩
      obtain ⟨A121, c121, rfl⟩ := (hv (by first | rfl | trivial)).len
      clear hv x121
      simp only [Act.put, List.setIfInBounds_toArray, List.set_cons_succ, List.set_cons_zero]
      refine HL.hold_at rfl (by first | rfl | kernel_rfl) (fun x hux hk => ?_) ?_
      · have hS := (hk.2 (by first | rfl | trivial)).2.2.1 (by first | rfl | trivial)
        skip
        refine HN.heldUpon_enter (f := 25) (args := #[.slice A121 1 c121]) (by simp [go_sem]) ((HQU.out _ x hS).mono ?_)
        rintro e y ⟨rfl, hy⟩
        exact ⟨_, rfl, KpW.iff.2 hy, (fun h => by cases h), (fun h => by cases h), (fun h => by cases h), (fun _ => rfl), (fun h => by cases h), (fun h => by cases h)⟩
      rintro v122 ⟨x122, -, -, -, -, -, hv, -, -⟩
      obtain rfl := hv (by first | rfl | trivial)
      clear hv x122
      refine HL.hold_run 3 (by kernel_rfl) (fun u3 hu3 => ?_)
      simp only [List.take_succ_cons, List.take_zero, List.drop_succ_cons, List.drop_zero, Act.put, List.setIfInBounds_toArray, List.set_cons_succ, List.set_cons_zero]
      have k0 : ∀ x : KeptW u3, x.v.cell? ⟨w.heap.size, 14, none⟩ = _ := fun x => x.cell (b_old hu3 m14)
      have hne : Nonempty (KeptW u3) := ⟨⟨u3, Below.refl _ _⟩⟩
      iterate 2 (go_big_quiet_step (fail))
      go_big_quiet_step (exact KeptW.calls_same (rBuf_any _ _))
      refine wpQuiet_nil ?_
      clear hne k0
      intro K3 hK3
      refine HL.hold_at rfl (by first | rfl | kernel_rfl) (fun x hux _ => ?_) ?_
      · refine HN.heldUpon_made (o := .cells #[.int .i64 e2, .int .i64 e3, .int .i64 (rng xx 0 240)] 3) (v := .slice (some ⟨x.heap.size, 0, none⟩) 3 3) (by simp [go_sem]) ?_
        exact ⟨(fun h => by cases h), (fun h => by cases h), (fun h => by cases h), (fun h => by cases h), (fun _ => ⟨_, _, rfl, by simp, by simp, by simp⟩), (fun h => by cases h)⟩
      rintro v126 ⟨x126, -, -, -, -, -, -, hv, -⟩
      obtain ⟨b126, c126, rfl, -, -, -⟩ := hv (by first | rfl | trivial)
      clear hv x126
      simp only [Act.put, List.setIfInBounds_toArray, List.set_cons_succ, List.set_cons_zero]
      refine HL.hold_at rfl (by first | rfl | kernel_rfl) (fun x hux hk => ?_) ?_
      · have hS := (hk.2 (by first | rfl | trivial)).2.2.2.2.1 (by first | rfl | trivial)
        obtain ⟨b, c, he, h1, h2, h3⟩ := hS
        obtain ⟨rfl, rfl⟩ : b126 = b ∧ c126 = c := by simpa using he
        clear he -- SAME
        refine HN.heldUpon_enter (f := 34) (args := #[.slice (some ⟨b126, 0, none⟩) 3 c126]) (by simp [go_sem]) ((lfirst_any [e2, e3, rng xx 0 240] b126 c126 x (fun i hi => by match i, hi with | 0, _ => exact h1 | 1, _ => exact h2 | 2, _ => exact h3) (by simp)).mono ?_)
        rintro e y ⟨rfl, hy⟩
        exact ⟨_, rfl, KpW.iff.2 (by rw [hy]; exact Below.refl _ _), (fun h => by cases h), (fun h => by cases h), (fun h => by cases h), (fun h => by cases h), (fun h => by cases h), (fun _ => rfl)⟩
      rintro v127 ⟨x127, -, -, -, -, -, -, -, hv⟩
      obtain rfl := hv (by first | rfl | trivial)
      clear hv x127
      intro w18 hb18 hkz
      clear hkz
      clear K1 hK1 K2 hK2 K3 hK3
      simp only [Act.put, List.setIfInBounds_toArray, List.set_cons_succ, List.set_cons_zero]
      rw [← HOE.out]
      have hq18 := b_then hq16 hb18
      clear m14
      have m14 := b_old hq18 (HM.out 14 _ rfl)
      have t0 := b_old hq18 (HT.out 0 _ rfl)
      have t1 := b_old hq18 (HT.out 1 _ rfl)
      have t2 := b_old hq18 (HT.out 2 _ rfl)
      have t3 := b_old hq18 (HT.out 3 _ rfl)
      have t4 := b_old hq18 (HT.out 4 _ rfl)
      have t5 := b_old hq18 (HT.out 5 _ rfl)
      have t6 := b_old hq18 (HT.out 6 _ rfl)
      have t7 := b_old hq18 (HT.out 7 _ rfl)
      have t8 := b_old hq18 (HT.out 8 _ rfl)
      have t9 := b_old hq18 (HT.out 9 _ rfl)
      by_cases ho0 : oe = 0
      · have HRV := Lib.hid (fun w => HRO.out w ho0)
        have HOU := HOO.out
        rw [if_pos ho0] at HOU
        clear HRO
        subst ho0
        subst HOU
        go_wp2_with fail
        refine (HRV.out _).mono ?_
        rintro e w19 ⟨rfl, hb19⟩
        go_wp2_with fail
        go_ret
        exact ⟨rfl, b_then (b_then hB0 hq18) hb19⟩
      · have HOU := HOO.out
        rw [if_neg ho0] at HOU
        subst HOU
        go_wp2_with fail
        go_ret
        exact ⟨rfl, b_then hB0 hq18⟩
    · have HSV := HSO.out
      rw [if_neg hs0] at HSV
      subst HSV
      clear s0 s1 s2
      clear t0 t1 t2 t3 t4
      have m14 := b_old hq14 (HM.out 14 _ rfl)
      have t0 := b_old hq14 (HT.out 0 _ rfl)
      have t1 := b_old hq14 (HT.out 1 _ rfl)
      have t2 := b_old hq14 (HT.out 2 _ rfl)
      have t3 := b_old hq14 (HT.out 3 _ rfl)
      have t4 := b_old hq14 (HT.out 4 _ rfl)
      have t5 := b_old hq14 (HT.out 5 _ rfl)
      have t6 := b_old hq14 (HT.out 6 _ rfl)
      have t7 := b_old hq14 (HT.out 7 _ rfl)
      have t8 := b_old hq14 (HT.out 8 _ rfl)
      have t9 := b_old hq14 (HT.out 9 _ rfl)
      go_wp2_with fail
      refine (HOV.out _).mono ?_
      rintro e w16 ⟨rfl, hb16⟩
      have hq16 := b_then hq14 hb16
      clear m14 t0 t1 t2 t3 t4 t5 t6 t7 t8 t9
      have m14 := b_old hq16 (HM.out 14 _ rfl)
      go_upto_region 15 with fail
      generalize hxx : x = xx at *
      refine HL.held_ways (fun o => o.dst == some 118 || o.dst == some 119 || o.dst == some 121 || o.dst == some 122 || o.dst == some 126 || o.dst == some 127) (fun o p => (o.dst == some 119 && p.dst == some 118) || (o.dst == some 122 && p.dst == some 121) || (o.dst == some 127 && p.dst == some 126)) (fun o v x => (o.dst = some 118 → SlArg TurnV.cells 5 x v [⟨tn, ta, te, tz, tt⟩]) ∧ (o.dst = some 119 → v = .int .i64 e2) ∧ (o.dst = some 121 → SlArg TurnV.cells 5 x v [⟨un, ua, ue, uz, ut⟩]) ∧ (o.dst = some 122 → v = .int .i64 e3) ∧ (o.dst = some 126 → ∃ b c, v = .slice (some ⟨b, 0, none⟩) 3 c ∧ x.cell? ⟨b, 0, none⟩ = some (.int .i64 e2) ∧ x.cell? ⟨b, 1, none⟩ = some (.int .i64 e3) ∧ x.cell? ⟨b, 2, none⟩ = some (.int .i64 (rng xx 0 240))) ∧ (o.dst = some 127 → v = .int .i64 (fst [e2, e3, rng xx 0 240]))) 11 [[2, 1], [5, 4], [10, 9]] (by kernel_rfl) (by kernel_rfl) (by kernel_rfl) (fun _ v x y hx hy => ⟨fun ho => (hx.1 ho).below hy, hx.2.1, fun ho => (hx.2.2.1 ho).below hy, hx.2.2.2.1, fun ho => ?_, hx.2.2.2.2.2⟩) ?_
      · obtain ⟨b, c, h1, h2, h3, h4⟩ := hx.2.2.2.2.1 ho; exact ⟨b, c, h1, b_old hy h2, b_old hy h3, b_old hy h4⟩
      simp only [List.take_succ_cons, List.take_zero, List.drop_succ_cons, List.drop_zero]
      refine HL.hold_run 1 (by kernel_rfl) (fun u1 hu1 => ?_)
      simp only [List.take_succ_cons, List.take_zero, List.drop_succ_cons, List.drop_zero]
      have hne : Nonempty (KeptW u1) := ⟨⟨u1, Below.refl _ _⟩⟩
      iterate 1 (go_big_quiet_step (fail))
      refine wpQuiet_nil ?_
      clear hne
      intro K1 hK1
      refine HL.hold_at rfl (by first | rfl | kernel_rfl) (fun x hux hk => ?_) ?_
      · have hS := HT1.out x (b_then hq16 (KpW.iff.1 hux))
        refine HN.heldUpon_enter (f := 18) (args := #[.slice (some ⟨w.heap.size + 1 + 1, 0, none⟩) 1 2]) (by simp [go_sem]) ((HCT.out _ x hS).mono ?_)
        rintro e y ⟨⟨u', rfl, hL⟩, hy⟩
        exact ⟨_, rfl, KpW.iff.2 hy, (fun _ => slArg_own (f := TurnV.cells) (k := 5) (fun _ => rfl) (by decide) hL), (fun h => by cases h), (fun h => by cases h), (fun h => by cases h), (fun h => by cases h), (fun h => by cases h)⟩
      rintro v118 ⟨x118, -, -, hv, -, -, -, -, -⟩
      obtain ⟨A118, c118, rfl⟩ := (hv (by first | rfl | trivial)).len
      clear hv x118
      simp only [Act.put, List.setIfInBounds_toArray, List.set_cons_succ, List.set_cons_zero]
      refine HL.hold_at rfl (by first | rfl | kernel_rfl) (fun x hux hk => ?_) ?_
      · have hS := (hk.2 (by first | rfl | trivial)).1 (by first | rfl | trivial)
        skip
        refine HN.heldUpon_enter (f := 25) (args := #[.slice A118 1 c118]) (by simp [go_sem]) ((HQT.out _ x hS).mono ?_)
        rintro e y ⟨rfl, hy⟩
        exact ⟨_, rfl, KpW.iff.2 hy, (fun h => by cases h), (fun _ => rfl), (fun h => by cases h), (fun h => by cases h), (fun h => by cases h), (fun h => by cases h)⟩
      rintro v119 ⟨x119, -, -, -, hv, -, -, -, -⟩
      obtain rfl := hv (by first | rfl | trivial)
      clear hv x119
      refine HL.hold_run 1 (by kernel_rfl) (fun u2 hu2 => ?_)
      simp only [List.take_succ_cons, List.take_zero, List.drop_succ_cons, List.drop_zero, Act.put, List.setIfInBounds_toArray, List.set_cons_succ, List.set_cons_zero]
      have hne : Nonempty (KeptW u2) := ⟨⟨u2, Below.refl _ _⟩⟩
      iterate 1 (go_big_quiet_step (fail))
      refine wpQuiet_nil ?_
      clear hne
      intro K2 hK2
      refine HL.hold_at rfl (by first | rfl | kernel_rfl) (fun x hux hk => ?_) ?_
      · have hS := HU1.out x (b_then hq16 (KpW.iff.1 hux))
        refine HN.heldUpon_enter (f := 18) (args := #[.slice (some ⟨w.heap.size + 1 + 1, 5, none⟩) 1 1]) (by simp [go_sem]) ((HCU.out _ x hS).mono ?_)
        rintro e y ⟨⟨u', rfl, hL⟩, hy⟩
        exact ⟨_, rfl, KpW.iff.2 hy, (fun h => by cases h), (fun h => by cases h), (fun _ => slArg_own (f := TurnV.cells) (k := 5) (fun _ => rfl) (by decide) hL), (fun h => by cases h), (fun h => by cases h), (fun h => by cases h)⟩
      rintro v121 ⟨x121, -, -, -, -, hv, -, -, -⟩
      obtain ⟨A121, c121, rfl⟩ := (hv (by first | rfl | trivial)).len
      clear hv x121
      simp only [Act.put, List.setIfInBounds_toArray, List.set_cons_succ, List.set_cons_zero]
      refine HL.hold_at rfl (by first | rfl | kernel_rfl) (fun x hux hk => ?_) ?_
      · have hS := (hk.2 (by first | rfl | trivial)).2.2.1 (by first | rfl | trivial)
        skip
        refine HN.heldUpon_enter (f := 25) (args := #[.slice A121 1 c121]) (by simp [go_sem]) ((HQU.out _ x hS).mono ?_)
        rintro e y ⟨rfl, hy⟩
        exact ⟨_, rfl, KpW.iff.2 hy, (fun h => by cases h), (fun h => by cases h), (fun h => by cases h), (fun _ => rfl), (fun h => by cases h), (fun h => by cases h)⟩
      rintro v122 ⟨x122, -, -, -, -, -, hv, -, -⟩
      obtain rfl := hv (by first | rfl | trivial)
      clear hv x122
      refine HL.hold_run 3 (by kernel_rfl) (fun u3 hu3 => ?_)
      simp only [List.take_succ_cons, List.take_zero, List.drop_succ_cons, List.drop_zero, Act.put, List.setIfInBounds_toArray, List.set_cons_succ, List.set_cons_zero]
      have k0 : ∀ x : KeptW u3, x.v.cell? ⟨w.heap.size, 14, none⟩ = _ := fun x => x.cell (b_old hu3 m14)
      have hne : Nonempty (KeptW u3) := ⟨⟨u3, Below.refl _ _⟩⟩
      iterate 2 (go_big_quiet_step (fail))
      go_big_quiet_step (exact KeptW.calls_same (rBuf_any _ _))
      refine wpQuiet_nil ?_
      clear hne k0
      intro K3 hK3
      refine HL.hold_at rfl (by first | rfl | kernel_rfl) (fun x hux _ => ?_) ?_
      · refine HN.heldUpon_made (o := .cells #[.int .i64 e2, .int .i64 e3, .int .i64 (rng xx 0 240)] 3) (v := .slice (some ⟨x.heap.size, 0, none⟩) 3 3) (by simp [go_sem]) ?_
        exact ⟨(fun h => by cases h), (fun h => by cases h), (fun h => by cases h), (fun h => by cases h), (fun _ => ⟨_, _, rfl, by simp, by simp, by simp⟩), (fun h => by cases h)⟩
      rintro v126 ⟨x126, -, -, -, -, -, -, hv, -⟩
      obtain ⟨b126, c126, rfl, -, -, -⟩ := hv (by first | rfl | trivial)
      clear hv x126
      simp only [Act.put, List.setIfInBounds_toArray, List.set_cons_succ, List.set_cons_zero]
      refine HL.hold_at rfl (by first | rfl | kernel_rfl) (fun x hux hk => ?_) ?_
      · have hS := (hk.2 (by first | rfl | trivial)).2.2.2.2.1 (by first | rfl | trivial)
        obtain ⟨b, c, he, h1, h2, h3⟩ := hS
        obtain ⟨rfl, rfl⟩ : b126 = b ∧ c126 = c := by simpa using he
        clear he -- SAME
        refine HN.heldUpon_enter (f := 34) (args := #[.slice (some ⟨b126, 0, none⟩) 3 c126]) (by simp [go_sem]) ((lfirst_any [e2, e3, rng xx 0 240] b126 c126 x (fun i hi => by match i, hi with | 0, _ => exact h1 | 1, _ => exact h2 | 2, _ => exact h3) (by simp)).mono ?_)
        rintro e y ⟨rfl, hy⟩
        exact ⟨_, rfl, KpW.iff.2 (by rw [hy]; exact Below.refl _ _), (fun h => by cases h), (fun h => by cases h), (fun h => by cases h), (fun h => by cases h), (fun h => by cases h), (fun _ => rfl)⟩
      rintro v127 ⟨x127, -, -, -, -, -, -, -, hv⟩
      obtain rfl := hv (by first | rfl | trivial)
      clear hv x127
      intro w18 hb18 hkz
      clear hkz
      clear K1 hK1 K2 hK2 K3 hK3
      simp only [Act.put, List.setIfInBounds_toArray, List.set_cons_succ, List.set_cons_zero]
      rw [← HOE.out]
      have hq18 := b_then hq16 hb18
      clear m14
      have m14 := b_old hq18 (HM.out 14 _ rfl)
      have t0 := b_old hq18 (HT.out 0 _ rfl)
      have t1 := b_old hq18 (HT.out 1 _ rfl)
      have t2 := b_old hq18 (HT.out 2 _ rfl)
      have t3 := b_old hq18 (HT.out 3 _ rfl)
      have t4 := b_old hq18 (HT.out 4 _ rfl)
      have t5 := b_old hq18 (HT.out 5 _ rfl)
      have t6 := b_old hq18 (HT.out 6 _ rfl)
      have t7 := b_old hq18 (HT.out 7 _ rfl)
      have t8 := b_old hq18 (HT.out 8 _ rfl)
      have t9 := b_old hq18 (HT.out 9 _ rfl)
      by_cases ho0 : oe = 0
      · have HRV := Lib.hid (fun w => HRO.out w ho0)
        have HOU := HOO.out
        rw [if_pos ho0] at HOU
        clear HRO
        subst ho0
        subst HOU
        go_wp2_with fail
        refine (HRV.out _).mono ?_
        rintro e w19 ⟨rfl, hb19⟩
        go_wp2_with fail
        go_ret
        exact ⟨rfl, b_then (b_then hB0 hq18) hb19⟩
      · have HOU := HOO.out
        rw [if_neg ho0] at HOU
        subst HOU
        go_wp2_with fail
        go_ret
        exact ⟨rfl, b_then hB0 hq18⟩
  · have HPN := HPO.out
    rw [if_neg hp] at HPN
    simp only [zeroT, TurnV.mk.injEq] at HPN
    obtain ⟨rfl, rfl, rfl, rfl, rfl⟩ := HPN
    go_upto_region 8 with fail
    have z0 := b_old hz10 (HZ9.out 0 _ rfl)
    have c0 := HZ10.out 0 _ rfl
    have z1 := b_old hz10 (HZ9.out 1 _ rfl)
    have c1 := HZ10.out 1 _ rfl
    have z2 := b_old hz10 (HZ9.out 2 _ rfl)
    have c2 := HZ10.out 2 _ rfl
    have z3 := b_old hz10 (HZ9.out 3 _ rfl)
    have c3 := HZ10.out 3 _ rfl
    have z4 := b_old hz10 (HZ9.out 4 _ rfl)
    have c4 := HZ10.out 4 _ rfl
    have s0 := b_old hqx (HS.out 0 _ rfl)
    have s1 := b_old hqx (HS.out 1 _ rfl)
    have s2 := b_old hqx (HS.out 2 _ rfl)
    have t0 := b_old hqx (HT.out 0 _ rfl)
    have t1 := b_old hqx (HT.out 1 _ rfl)
    have t2 := b_old hqx (HT.out 2 _ rfl)
    have t3 := b_old hqx (HT.out 3 _ rfl)
    have t4 := b_old hqx (HT.out 4 _ rfl)
    go_wp2_with fail
    refine (HSI.out _).mono ?_
    rintro e w12 ⟨rfl, hb12⟩
    have hq12 := b_then hqx hb12
    clear s0 s1 s2
    clear t0 t1 t2 t3 t4
    have s0 := b_old hq12 (HS.out 0 _ rfl)
    have s1 := b_old hq12 (HS.out 1 _ rfl)
    have s2 := b_old hq12 (HS.out 2 _ rfl)
    go_upto_region 11 with fail
    refine HL.held_ways (fun o => o.dst == some 84 || o.dst == some 85 || o.dst == some 86 || o.dst == some 88 || o.dst == some 89 || o.dst == some 90 || o.dst == some 91) (fun o p => (o.dst == some 85 && p.dst == some 84) || (o.dst == some 86 && p.dst == some 85) || (o.dst == some 89 && p.dst == some 88) || (o.dst == some 91 && p.dst == some 90)) (fun o v x => (o.dst = some 84 → ∃ b c, v = .slice (some ⟨b, 0, none⟩) 1 c ∧ SlArg StandV.cells 3 x v [⟨sn, ss, st⟩]) ∧ (o.dst = some 85 → SlArg StandV.cells 3 x v [⟨sn, ss, st⟩]) ∧ (o.dst = some 86 → v = .int .i64 e1) ∧ (o.dst = some 88 → SlArg TurnV.cells 5 x v [⟨tn, ta, te, tz, tt⟩]) ∧ (o.dst = some 89 → v = .int .i64 e2) ∧ (o.dst = some 90 → ∃ b c, v = .slice (some ⟨b, 0, none⟩) 2 c ∧ x.cell? ⟨b, 0, none⟩ = some (.int .i64 e1) ∧ x.cell? ⟨b, 1, none⟩ = some (.int .i64 e2)) ∧ (o.dst = some 91 → v = .int .i64 (fst [e1, e2]))) 9 [[2, 1], [3, 2], [6, 5], [8, 7]] (by kernel_rfl) (by kernel_rfl) (by kernel_rfl) (fun _ v x y hx hy => ⟨fun ho => ?_, fun ho => (hx.2.1 ho).below hy, hx.2.2.1, fun ho => (hx.2.2.2.1 ho).below hy, hx.2.2.2.2.1, fun ho => ?_, hx.2.2.2.2.2.2⟩) ?_
    · obtain ⟨b, c, h1, h2⟩ := hx.1 ho; exact ⟨b, c, h1, h2.below hy⟩
    · obtain ⟨b, c, h1, h2, h3⟩ := hx.2.2.2.2.2.1 ho; exact ⟨b, c, h1, b_old hy h2, b_old hy h3⟩
    simp only [List.take_succ_cons, List.take_zero, List.drop_succ_cons, List.drop_zero]
    refine HL.hold_run 1 (by kernel_rfl) (fun u1 hu1 => ?_)
    simp only [List.take_succ_cons, List.take_zero, List.drop_succ_cons, List.drop_zero]
    have k0 : ∀ x : KeptW u1, x.v.cell? ⟨w.heap.size + 1, 0, none⟩ = _ := fun x => x.cell (b_old hu1 s0)
    have k1 : ∀ x : KeptW u1, x.v.cell? ⟨w.heap.size + 1, 1, none⟩ = _ := fun x => x.cell (b_old hu1 s1)
    have k2 : ∀ x : KeptW u1, x.v.cell? ⟨w.heap.size + 1, 2, none⟩ = _ := fun x => x.cell (b_old hu1 s2)
    have hne : Nonempty (KeptW u1) := ⟨⟨u1, Below.refl _ _⟩⟩
    iterate 1 (go_big_quiet_step (fail))
    refine wpQuiet_nil ?_
    clear hne k0 k1 k2
    intro K1 hK1
    refine HL.hold_at rfl (by first | rfl | kernel_rfl) (fun x hux _ => ?_) ?_
    · refine HN.heldUpon_made (o := .cells #[.string sn, .int .i64 ss, .string st] 54) (v := .slice (some ⟨x.heap.size, 0, none⟩) 1 1) (by simp [go_sem]) ?_
      exact ⟨(fun _ => ⟨_, _, rfl, HONE.out x _ _ rfl⟩), (fun h => by cases h), (fun h => by cases h), (fun h => by cases h), (fun h => by cases h), (fun h => by cases h), (fun h => by cases h)⟩
    rintro v84 ⟨x84, -, -, hv, -, -, -, -, -, -⟩
    obtain ⟨b84, c84, rfl, -⟩ := hv (by first | rfl | trivial)
    clear hv x84
    simp only [Act.put, List.setIfInBounds_toArray, List.set_cons_succ, List.set_cons_zero]
    refine HL.hold_at rfl (by first | rfl | kernel_rfl) (fun x hux hk => ?_) ?_
    · have hS := (hk.2 (by first | rfl | trivial)).1 (by first | rfl | trivial)
      obtain ⟨_, _, -, hS⟩ := hS
      refine HN.heldUpon_enter (f := 16) (args := #[.slice (some ⟨b84, 0, none⟩) 1 c84]) (by simp [go_sem]) ((HOS.out _ x hS).mono ?_)
      rintro e y ⟨⟨u', rfl, hL⟩, hy⟩
      exact ⟨_, rfl, KpW.iff.2 hy, (fun h => by cases h), (fun _ => slArg_own (f := StandV.cells) (k := 3) (fun _ => rfl) (by decide) hL), (fun h => by cases h), (fun h => by cases h), (fun h => by cases h), (fun h => by cases h), (fun h => by cases h)⟩
    rintro v85 ⟨x85, -, -, -, hv, -, -, -, -, -⟩
    obtain ⟨A85, c85, rfl⟩ := (hv (by first | rfl | trivial)).len
    clear hv x85
    simp only [Act.put, List.setIfInBounds_toArray, List.set_cons_succ, List.set_cons_zero]
    refine HL.hold_at rfl (by first | rfl | kernel_rfl) (fun x hux hk => ?_) ?_
    · have hS := (hk.2 (by first | rfl | trivial)).2.1 (by first | rfl | trivial)
      skip
      refine HN.heldUpon_enter (f := 23) (args := #[.slice A85 1 c85]) (by simp [go_sem]) ((HQS.out _ x hS).mono ?_)
      rintro e y ⟨rfl, hy⟩
      exact ⟨_, rfl, KpW.iff.2 hy, (fun h => by cases h), (fun h => by cases h), (fun _ => rfl), (fun h => by cases h), (fun h => by cases h), (fun h => by cases h), (fun h => by cases h)⟩
    rintro v86 ⟨x86, -, -, -, -, hv, -, -, -, -⟩
    obtain rfl := hv (by first | rfl | trivial)
    clear hv x86
    refine HL.hold_run 1 (by kernel_rfl) (fun u2 hu2 => ?_)
    simp only [List.take_succ_cons, List.take_zero, List.drop_succ_cons, List.drop_zero, Act.put, List.setIfInBounds_toArray, List.set_cons_succ, List.set_cons_zero]
    have hne : Nonempty (KeptW u2) := ⟨⟨u2, Below.refl _ _⟩⟩
    iterate 1 (go_big_quiet_step (fail))
    refine wpQuiet_nil ?_
    clear hne
    intro K2 hK2
    refine HL.hold_at rfl (by first | rfl | kernel_rfl) (fun x hux hk => ?_) ?_
    · have hS := HT1.out x (b_then hq12 (KpW.iff.1 hux))
      refine HN.heldUpon_enter (f := 18) (args := #[.slice (some ⟨w.heap.size + 1 + 1, 0, none⟩) 1 2]) (by simp [go_sem]) ((HCT.out _ x hS).mono ?_)
      rintro e y ⟨⟨u', rfl, hL⟩, hy⟩
      exact ⟨_, rfl, KpW.iff.2 hy, (fun h => by cases h), (fun h => by cases h), (fun h => by cases h), (fun _ => slArg_own (f := TurnV.cells) (k := 5) (fun _ => rfl) (by decide) hL), (fun h => by cases h), (fun h => by cases h), (fun h => by cases h)⟩
    rintro v88 ⟨x88, -, -, -, -, -, hv, -, -, -⟩
    obtain ⟨A88, c88, rfl⟩ := (hv (by first | rfl | trivial)).len
    clear hv x88
    simp only [Act.put, List.setIfInBounds_toArray, List.set_cons_succ, List.set_cons_zero]
    refine HL.hold_at rfl (by first | rfl | kernel_rfl) (fun x hux hk => ?_) ?_
    · have hS := (hk.2 (by first | rfl | trivial)).2.2.2.1 (by first | rfl | trivial)
      skip
      refine HN.heldUpon_enter (f := 25) (args := #[.slice A88 1 c88]) (by simp [go_sem]) ((HQT.out _ x hS).mono ?_)
      rintro e y ⟨rfl, hy⟩
      exact ⟨_, rfl, KpW.iff.2 hy, (fun h => by cases h), (fun h => by cases h), (fun h => by cases h), (fun h => by cases h), (fun _ => rfl), (fun h => by cases h), (fun h => by cases h)⟩
    rintro v89 ⟨x89, -, -, -, -, -, -, hv, -, -⟩
    obtain rfl := hv (by first | rfl | trivial)
    clear hv x89
    refine HL.hold_at rfl (by first | rfl | kernel_rfl) (fun x hux _ => ?_) ?_
    · refine HN.heldUpon_made (o := .cells #[.int .i64 e1, .int .i64 e2] 3) (v := .slice (some ⟨x.heap.size, 0, none⟩) 2 2) (by simp [go_sem]) ?_
      exact ⟨(fun h => by cases h), (fun h => by cases h), (fun h => by cases h), (fun h => by cases h), (fun h => by cases h), (fun _ => ⟨_, _, rfl, by simp, by simp⟩), (fun h => by cases h)⟩
    rintro v90 ⟨x90, -, -, -, -, -, -, -, hv, -⟩
    obtain ⟨b90, c90, rfl, -, -⟩ := hv (by first | rfl | trivial)
    clear hv x90
    simp only [Act.put, List.setIfInBounds_toArray, List.set_cons_succ, List.set_cons_zero]
    refine HL.hold_at rfl (by first | rfl | kernel_rfl) (fun x hux hk => ?_) ?_
    · have hS := (hk.2 (by first | rfl | trivial)).2.2.2.2.2.1 (by first | rfl | trivial)
      obtain ⟨b, c, he, h1, h2⟩ := hS
      obtain ⟨rfl, rfl⟩ : b90 = b ∧ c90 = c := by simpa using he
      clear he -- SAME
      refine HN.heldUpon_enter (f := 34) (args := #[.slice (some ⟨b90, 0, none⟩) 2 c90]) (by simp [go_sem]) ((lfirst_any [e1, e2] b90 c90 x (fun i hi => by match i, hi with | 0, _ => exact h1 | 1, _ => exact h2) (by simp)).mono ?_)
      rintro e y ⟨rfl, hy⟩
      exact ⟨_, rfl, KpW.iff.2 (by rw [hy]; exact Below.refl _ _), (fun h => by cases h), (fun h => by cases h), (fun h => by cases h), (fun h => by cases h), (fun h => by cases h), (fun h => by cases h), (fun _ => rfl)⟩
    rintro v91 ⟨x91, -, -, -, -, -, -, -, -, hv⟩
    obtain rfl := hv (by first | rfl | trivial)
    clear hv x91
    intro w14 hb14 hkz
    clear hkz
    clear K1 hK1 K2 hK2
    simp only [Act.put, List.setIfInBounds_toArray, List.set_cons_succ, List.set_cons_zero]
    rw [← HSE.out]
    have hq14 := b_then hq12 hb14
    clear s0 s1 s2
    have s0 := b_old hq14 (HS.out 0 _ rfl)
    have s1 := b_old hq14 (HS.out 1 _ rfl)
    have s2 := b_old hq14 (HS.out 2 _ rfl)
    have t0 := b_old hq14 (HT.out 0 _ rfl)
    have t1 := b_old hq14 (HT.out 1 _ rfl)
    have t2 := b_old hq14 (HT.out 2 _ rfl)
    have t3 := b_old hq14 (HT.out 3 _ rfl)
    have t4 := b_old hq14 (HT.out 4 _ rfl)
    by_cases hs0 : se = 0
    · have HSV := HSO.out
      rw [if_pos hs0] at HSV
      subst hs0
      subst HSV
      go_wp2_with fail
      refine (HRS.out _).mono ?_
      rintro e w15 ⟨rfl, hb15⟩
      have hq15 := b_then hq14 hb15
      clear s0 s1 s2
      clear t0 t1 t2 t3 t4
      have m14 := b_old hq15 (HM.out 14 _ rfl)
      have t0 := b_old hq15 (HT.out 0 _ rfl)
      have t1 := b_old hq15 (HT.out 1 _ rfl)
      have t2 := b_old hq15 (HT.out 2 _ rfl)
      have t3 := b_old hq15 (HT.out 3 _ rfl)
      have t4 := b_old hq15 (HT.out 4 _ rfl)
      have t5 := b_old hq15 (HT.out 5 _ rfl)
      have t6 := b_old hq15 (HT.out 6 _ rfl)
      have t7 := b_old hq15 (HT.out 7 _ rfl)
      have t8 := b_old hq15 (HT.out 8 _ rfl)
      have t9 := b_old hq15 (HT.out 9 _ rfl)
      go_wp2_with fail
      refine (HOV.out _).mono ?_
      rintro e w16 ⟨rfl, hb16⟩
      have hq16 := b_then hq15 hb16
      clear m14 t0 t1 t2 t3 t4 t5 t6 t7 t8 t9
      have m14 := b_old hq16 (HM.out 14 _ rfl)
      go_upto_region 15 with fail
      generalize hxx : x = xx at *
      refine HL.held_ways (fun o => o.dst == some 118 || o.dst == some 119 || o.dst == some 121 || o.dst == some 122 || o.dst == some 126 || o.dst == some 127) (fun o p => (o.dst == some 119 && p.dst == some 118) || (o.dst == some 122 && p.dst == some 121) || (o.dst == some 127 && p.dst == some 126)) (fun o v x => (o.dst = some 118 → SlArg TurnV.cells 5 x v [⟨tn, ta, te, tz, tt⟩]) ∧ (o.dst = some 119 → v = .int .i64 e2) ∧ (o.dst = some 121 → SlArg TurnV.cells 5 x v [⟨un, ua, ue, uz, ut⟩]) ∧ (o.dst = some 122 → v = .int .i64 e3) ∧ (o.dst = some 126 → ∃ b c, v = .slice (some ⟨b, 0, none⟩) 3 c ∧ x.cell? ⟨b, 0, none⟩ = some (.int .i64 e2) ∧ x.cell? ⟨b, 1, none⟩ = some (.int .i64 e3) ∧ x.cell? ⟨b, 2, none⟩ = some (.int .i64 (rng xx 0 240))) ∧ (o.dst = some 127 → v = .int .i64 (fst [e2, e3, rng xx 0 240]))) 11 [[2, 1], [5, 4], [10, 9]] (by kernel_rfl) (by kernel_rfl) (by kernel_rfl) (fun _ v x y hx hy => ⟨fun ho => (hx.1 ho).below hy, hx.2.1, fun ho => (hx.2.2.1 ho).below hy, hx.2.2.2.1, fun ho => ?_, hx.2.2.2.2.2⟩) ?_
      · obtain ⟨b, c, h1, h2, h3, h4⟩ := hx.2.2.2.2.1 ho; exact ⟨b, c, h1, b_old hy h2, b_old hy h3, b_old hy h4⟩
      simp only [List.take_succ_cons, List.take_zero, List.drop_succ_cons, List.drop_zero]
      refine HL.hold_run 1 (by kernel_rfl) (fun u1 hu1 => ?_)
      simp only [List.take_succ_cons, List.take_zero, List.drop_succ_cons, List.drop_zero]
      have hne : Nonempty (KeptW u1) := ⟨⟨u1, Below.refl _ _⟩⟩
      iterate 1 (go_big_quiet_step (fail))
      refine wpQuiet_nil ?_
      clear hne
      intro K1 hK1
      refine HL.hold_at rfl (by first | rfl | kernel_rfl) (fun x hux hk => ?_) ?_
      · have hS := HT1.out x (b_then hq16 (KpW.iff.1 hux))
        refine HN.heldUpon_enter (f := 18) (args := #[.slice (some ⟨w.heap.size + 1 + 1, 0, none⟩) 1 2]) (by simp [go_sem]) ((HCT.out _ x hS).mono ?_)
        rintro e y ⟨⟨u', rfl, hL⟩, hy⟩
        exact ⟨_, rfl, KpW.iff.2 hy, (fun _ => slArg_own (f := TurnV.cells) (k := 5) (fun _ => rfl) (by decide) hL), (fun h => by cases h), (fun h => by cases h), (fun h => by cases h), (fun h => by cases h), (fun h => by cases h)⟩
      rintro v118 ⟨x118, -, -, hv, -, -, -, -, -⟩
      obtain ⟨A118, c118, rfl⟩ := (hv (by first | rfl | trivial)).len
      clear hv x118
      simp only [Act.put, List.setIfInBounds_toArray, List.set_cons_succ, List.set_cons_zero]
      refine HL.hold_at rfl (by first | rfl | kernel_rfl) (fun x hux hk => ?_) ?_
      · have hS := (hk.2 (by first | rfl | trivial)).1 (by first | rfl | trivial)
        skip
        refine HN.heldUpon_enter (f := 25) (args := #[.slice A118 1 c118]) (by simp [go_sem]) ((HQT.out _ x hS).mono ?_)
        rintro e y ⟨rfl, hy⟩
        exact ⟨_, rfl, KpW.iff.2 hy, (fun h => by cases h), (fun _ => rfl), (fun h => by cases h), (fun h => by cases h), (fun h => by cases h), (fun h => by cases h)⟩
      rintro v119 ⟨x119, -, -, -, hv, -, -, -, -⟩
      obtain rfl := hv (by first | rfl | trivial)
      clear hv x119
      refine HL.hold_run 1 (by kernel_rfl) (fun u2 hu2 => ?_)
      simp only [List.take_succ_cons, List.take_zero, List.drop_succ_cons, List.drop_zero, Act.put, List.setIfInBounds_toArray, List.set_cons_succ, List.set_cons_zero]
      have hne : Nonempty (KeptW u2) := ⟨⟨u2, Below.refl _ _⟩⟩
      iterate 1 (go_big_quiet_step (fail))
      refine wpQuiet_nil ?_
      clear hne
      intro K2 hK2
      refine HL.hold_at rfl (by first | rfl | kernel_rfl) (fun x hux hk => ?_) ?_
      · have hS := HU1.out x (b_then hq16 (KpW.iff.1 hux))
        refine HN.heldUpon_enter (f := 18) (args := #[.slice (some ⟨w.heap.size + 1 + 1, 5, none⟩) 1 1]) (by simp [go_sem]) ((HCU.out _ x hS).mono ?_)
        rintro e y ⟨⟨u', rfl, hL⟩, hy⟩
        exact ⟨_, rfl, KpW.iff.2 hy, (fun h => by cases h), (fun h => by cases h), (fun _ => slArg_own (f := TurnV.cells) (k := 5) (fun _ => rfl) (by decide) hL), (fun h => by cases h), (fun h => by cases h), (fun h => by cases h)⟩
      rintro v121 ⟨x121, -, -, -, -, hv, -, -, -⟩
      obtain ⟨A121, c121, rfl⟩ := (hv (by first | rfl | trivial)).len
      clear hv x121
      simp only [Act.put, List.setIfInBounds_toArray, List.set_cons_succ, List.set_cons_zero]
      refine HL.hold_at rfl (by first | rfl | kernel_rfl) (fun x hux hk => ?_) ?_
      · have hS := (hk.2 (by first | rfl | trivial)).2.2.1 (by first | rfl | trivial)
        skip
        refine HN.heldUpon_enter (f := 25) (args := #[.slice A121 1 c121]) (by simp [go_sem]) ((HQU.out _ x hS).mono ?_)
        rintro e y ⟨rfl, hy⟩
        exact ⟨_, rfl, KpW.iff.2 hy, (fun h => by cases h), (fun h => by cases h), (fun h => by cases h), (fun _ => rfl), (fun h => by cases h), (fun h => by cases h)⟩
      rintro v122 ⟨x122, -, -, -, -, -, hv, -, -⟩
      obtain rfl := hv (by first | rfl | trivial)
      clear hv x122
      refine HL.hold_run 3 (by kernel_rfl) (fun u3 hu3 => ?_)
      simp only [List.take_succ_cons, List.take_zero, List.drop_succ_cons, List.drop_zero, Act.put, List.setIfInBounds_toArray, List.set_cons_succ, List.set_cons_zero]
      have k0 : ∀ x : KeptW u3, x.v.cell? ⟨w.heap.size, 14, none⟩ = _ := fun x => x.cell (b_old hu3 m14)
      have hne : Nonempty (KeptW u3) := ⟨⟨u3, Below.refl _ _⟩⟩
      iterate 2 (go_big_quiet_step (fail))
      go_big_quiet_step (exact KeptW.calls_same (rBuf_any _ _))
      refine wpQuiet_nil ?_
      clear hne k0
      intro K3 hK3
      refine HL.hold_at rfl (by first | rfl | kernel_rfl) (fun x hux _ => ?_) ?_
      · refine HN.heldUpon_made (o := .cells #[.int .i64 e2, .int .i64 e3, .int .i64 (rng xx 0 240)] 3) (v := .slice (some ⟨x.heap.size, 0, none⟩) 3 3) (by simp [go_sem]) ?_
        exact ⟨(fun h => by cases h), (fun h => by cases h), (fun h => by cases h), (fun h => by cases h), (fun _ => ⟨_, _, rfl, by simp, by simp, by simp⟩), (fun h => by cases h)⟩
      rintro v126 ⟨x126, -, -, -, -, -, -, hv, -⟩
      obtain ⟨b126, c126, rfl, -, -, -⟩ := hv (by first | rfl | trivial)
      clear hv x126
      simp only [Act.put, List.setIfInBounds_toArray, List.set_cons_succ, List.set_cons_zero]
      refine HL.hold_at rfl (by first | rfl | kernel_rfl) (fun x hux hk => ?_) ?_
      · have hS := (hk.2 (by first | rfl | trivial)).2.2.2.2.1 (by first | rfl | trivial)
        obtain ⟨b, c, he, h1, h2, h3⟩ := hS
        obtain ⟨rfl, rfl⟩ : b126 = b ∧ c126 = c := by simpa using he
        clear he -- SAME
        refine HN.heldUpon_enter (f := 34) (args := #[.slice (some ⟨b126, 0, none⟩) 3 c126]) (by simp [go_sem]) ((lfirst_any [e2, e3, rng xx 0 240] b126 c126 x (fun i hi => by match i, hi with | 0, _ => exact h1 | 1, _ => exact h2 | 2, _ => exact h3) (by simp)).mono ?_)
        rintro e y ⟨rfl, hy⟩
        exact ⟨_, rfl, KpW.iff.2 (by rw [hy]; exact Below.refl _ _), (fun h => by cases h), (fun h => by cases h), (fun h => by cases h), (fun h => by cases h), (fun h => by cases h), (fun _ => rfl)⟩
      rintro v127 ⟨x127, -, -, -, -, -, -, -, hv⟩
      obtain rfl := hv (by first | rfl | trivial)
      clear hv x127
      intro w18 hb18 hkz
      clear hkz
      clear K1 hK1 K2 hK2 K3 hK3
      simp only [Act.put, List.setIfInBounds_toArray, List.set_cons_succ, List.set_cons_zero]
      rw [← HOE.out]
      have hq18 := b_then hq16 hb18
      clear m14
      have m14 := b_old hq18 (HM.out 14 _ rfl)
      have t0 := b_old hq18 (HT.out 0 _ rfl)
      have t1 := b_old hq18 (HT.out 1 _ rfl)
      have t2 := b_old hq18 (HT.out 2 _ rfl)
      have t3 := b_old hq18 (HT.out 3 _ rfl)
      have t4 := b_old hq18 (HT.out 4 _ rfl)
      have t5 := b_old hq18 (HT.out 5 _ rfl)
      have t6 := b_old hq18 (HT.out 6 _ rfl)
      have t7 := b_old hq18 (HT.out 7 _ rfl)
      have t8 := b_old hq18 (HT.out 8 _ rfl)
      have t9 := b_old hq18 (HT.out 9 _ rfl)
      by_cases ho0 : oe = 0
      · have HRV := Lib.hid (fun w => HRO.out w ho0)
        have HOU := HOO.out
        rw [if_pos ho0] at HOU
        clear HRO
        subst ho0
        subst HOU
        go_wp2_with fail
        refine (HRV.out _).mono ?_
        rintro e w19 ⟨rfl, hb19⟩
        go_wp2_with fail
        go_ret
        exact ⟨rfl, b_then (b_then hB0 hq18) hb19⟩
      · have HOU := HOO.out
        rw [if_neg ho0] at HOU
        subst HOU
        go_wp2_with fail
        go_ret
        exact ⟨rfl, b_then hB0 hq18⟩
    · have HSV := HSO.out
      rw [if_neg hs0] at HSV
      subst HSV
      clear s0 s1 s2
      clear t0 t1 t2 t3 t4
      have m14 := b_old hq14 (HM.out 14 _ rfl)
      have t0 := b_old hq14 (HT.out 0 _ rfl)
      have t1 := b_old hq14 (HT.out 1 _ rfl)
      have t2 := b_old hq14 (HT.out 2 _ rfl)
      have t3 := b_old hq14 (HT.out 3 _ rfl)
      have t4 := b_old hq14 (HT.out 4 _ rfl)
      have t5 := b_old hq14 (HT.out 5 _ rfl)
      have t6 := b_old hq14 (HT.out 6 _ rfl)
      have t7 := b_old hq14 (HT.out 7 _ rfl)
      have t8 := b_old hq14 (HT.out 8 _ rfl)
      have t9 := b_old hq14 (HT.out 9 _ rfl)
      go_wp2_with fail
      refine (HOV.out _).mono ?_
      rintro e w16 ⟨rfl, hb16⟩
      have hq16 := b_then hq14 hb16
      clear m14 t0 t1 t2 t3 t4 t5 t6 t7 t8 t9
      have m14 := b_old hq16 (HM.out 14 _ rfl)
      go_upto_region 15 with fail
      generalize hxx : x = xx at *
      refine HL.held_ways (fun o => o.dst == some 118 || o.dst == some 119 || o.dst == some 121 || o.dst == some 122 || o.dst == some 126 || o.dst == some 127) (fun o p => (o.dst == some 119 && p.dst == some 118) || (o.dst == some 122 && p.dst == some 121) || (o.dst == some 127 && p.dst == some 126)) (fun o v x => (o.dst = some 118 → SlArg TurnV.cells 5 x v [⟨tn, ta, te, tz, tt⟩]) ∧ (o.dst = some 119 → v = .int .i64 e2) ∧ (o.dst = some 121 → SlArg TurnV.cells 5 x v [⟨un, ua, ue, uz, ut⟩]) ∧ (o.dst = some 122 → v = .int .i64 e3) ∧ (o.dst = some 126 → ∃ b c, v = .slice (some ⟨b, 0, none⟩) 3 c ∧ x.cell? ⟨b, 0, none⟩ = some (.int .i64 e2) ∧ x.cell? ⟨b, 1, none⟩ = some (.int .i64 e3) ∧ x.cell? ⟨b, 2, none⟩ = some (.int .i64 (rng xx 0 240))) ∧ (o.dst = some 127 → v = .int .i64 (fst [e2, e3, rng xx 0 240]))) 11 [[2, 1], [5, 4], [10, 9]] (by kernel_rfl) (by kernel_rfl) (by kernel_rfl) (fun _ v x y hx hy => ⟨fun ho => (hx.1 ho).below hy, hx.2.1, fun ho => (hx.2.2.1 ho).below hy, hx.2.2.2.1, fun ho => ?_, hx.2.2.2.2.2⟩) ?_
      · obtain ⟨b, c, h1, h2, h3, h4⟩ := hx.2.2.2.2.1 ho; exact ⟨b, c, h1, b_old hy h2, b_old hy h3, b_old hy h4⟩
      simp only [List.take_succ_cons, List.take_zero, List.drop_succ_cons, List.drop_zero]
      refine HL.hold_run 1 (by kernel_rfl) (fun u1 hu1 => ?_)
      simp only [List.take_succ_cons, List.take_zero, List.drop_succ_cons, List.drop_zero]
      have hne : Nonempty (KeptW u1) := ⟨⟨u1, Below.refl _ _⟩⟩
      iterate 1 (go_big_quiet_step (fail))
      refine wpQuiet_nil ?_
      clear hne
      intro K1 hK1
      refine HL.hold_at rfl (by first | rfl | kernel_rfl) (fun x hux hk => ?_) ?_
      · have hS := HT1.out x (b_then hq16 (KpW.iff.1 hux))
        refine HN.heldUpon_enter (f := 18) (args := #[.slice (some ⟨w.heap.size + 1 + 1, 0, none⟩) 1 2]) (by simp [go_sem]) ((HCT.out _ x hS).mono ?_)
        rintro e y ⟨⟨u', rfl, hL⟩, hy⟩
        exact ⟨_, rfl, KpW.iff.2 hy, (fun _ => slArg_own (f := TurnV.cells) (k := 5) (fun _ => rfl) (by decide) hL), (fun h => by cases h), (fun h => by cases h), (fun h => by cases h), (fun h => by cases h), (fun h => by cases h)⟩
      rintro v118 ⟨x118, -, -, hv, -, -, -, -, -⟩
      obtain ⟨A118, c118, rfl⟩ := (hv (by first | rfl | trivial)).len
      clear hv x118
      simp only [Act.put, List.setIfInBounds_toArray, List.set_cons_succ, List.set_cons_zero]
      refine HL.hold_at rfl (by first | rfl | kernel_rfl) (fun x hux hk => ?_) ?_
      · have hS := (hk.2 (by first | rfl | trivial)).1 (by first | rfl | trivial)
        skip
        refine HN.heldUpon_enter (f := 25) (args := #[.slice A118 1 c118]) (by simp [go_sem]) ((HQT.out _ x hS).mono ?_)
        rintro e y ⟨rfl, hy⟩
        exact ⟨_, rfl, KpW.iff.2 hy, (fun h => by cases h), (fun _ => rfl), (fun h => by cases h), (fun h => by cases h), (fun h => by cases h), (fun h => by cases h)⟩
      rintro v119 ⟨x119, -, -, -, hv, -, -, -, -⟩
      obtain rfl := hv (by first | rfl | trivial)
      clear hv x119
      refine HL.hold_run 1 (by kernel_rfl) (fun u2 hu2 => ?_)
      simp only [List.take_succ_cons, List.take_zero, List.drop_succ_cons, List.drop_zero, Act.put, List.setIfInBounds_toArray, List.set_cons_succ, List.set_cons_zero]
      have hne : Nonempty (KeptW u2) := ⟨⟨u2, Below.refl _ _⟩⟩
      iterate 1 (go_big_quiet_step (fail))
      refine wpQuiet_nil ?_
      clear hne
      intro K2 hK2
      refine HL.hold_at rfl (by first | rfl | kernel_rfl) (fun x hux hk => ?_) ?_
      · have hS := HU1.out x (b_then hq16 (KpW.iff.1 hux))
        refine HN.heldUpon_enter (f := 18) (args := #[.slice (some ⟨w.heap.size + 1 + 1, 5, none⟩) 1 1]) (by simp [go_sem]) ((HCU.out _ x hS).mono ?_)
        rintro e y ⟨⟨u', rfl, hL⟩, hy⟩
        exact ⟨_, rfl, KpW.iff.2 hy, (fun h => by cases h), (fun h => by cases h), (fun _ => slArg_own (f := TurnV.cells) (k := 5) (fun _ => rfl) (by decide) hL), (fun h => by cases h), (fun h => by cases h), (fun h => by cases h)⟩
      rintro v121 ⟨x121, -, -, -, -, hv, -, -, -⟩
      obtain ⟨A121, c121, rfl⟩ := (hv (by first | rfl | trivial)).len
      clear hv x121
      simp only [Act.put, List.setIfInBounds_toArray, List.set_cons_succ, List.set_cons_zero]
      refine HL.hold_at rfl (by first | rfl | kernel_rfl) (fun x hux hk => ?_) ?_
      · have hS := (hk.2 (by first | rfl | trivial)).2.2.1 (by first | rfl | trivial)
        skip
        refine HN.heldUpon_enter (f := 25) (args := #[.slice A121 1 c121]) (by simp [go_sem]) ((HQU.out _ x hS).mono ?_)
        rintro e y ⟨rfl, hy⟩
        exact ⟨_, rfl, KpW.iff.2 hy, (fun h => by cases h), (fun h => by cases h), (fun h => by cases h), (fun _ => rfl), (fun h => by cases h), (fun h => by cases h)⟩
      rintro v122 ⟨x122, -, -, -, -, -, hv, -, -⟩
      obtain rfl := hv (by first | rfl | trivial)
      clear hv x122
      refine HL.hold_run 3 (by kernel_rfl) (fun u3 hu3 => ?_)
      simp only [List.take_succ_cons, List.take_zero, List.drop_succ_cons, List.drop_zero, Act.put, List.setIfInBounds_toArray, List.set_cons_succ, List.set_cons_zero]
      have k0 : ∀ x : KeptW u3, x.v.cell? ⟨w.heap.size, 14, none⟩ = _ := fun x => x.cell (b_old hu3 m14)
      have hne : Nonempty (KeptW u3) := ⟨⟨u3, Below.refl _ _⟩⟩
      iterate 2 (go_big_quiet_step (fail))
      go_big_quiet_step (exact KeptW.calls_same (rBuf_any _ _))
      refine wpQuiet_nil ?_
      clear hne k0
      intro K3 hK3
      refine HL.hold_at rfl (by first | rfl | kernel_rfl) (fun x hux _ => ?_) ?_
      · refine HN.heldUpon_made (o := .cells #[.int .i64 e2, .int .i64 e3, .int .i64 (rng xx 0 240)] 3) (v := .slice (some ⟨x.heap.size, 0, none⟩) 3 3) (by simp [go_sem]) ?_
        exact ⟨(fun h => by cases h), (fun h => by cases h), (fun h => by cases h), (fun h => by cases h), (fun _ => ⟨_, _, rfl, by simp, by simp, by simp⟩), (fun h => by cases h)⟩
      rintro v126 ⟨x126, -, -, -, -, -, -, hv, -⟩
      obtain ⟨b126, c126, rfl, -, -, -⟩ := hv (by first | rfl | trivial)
      clear hv x126
      simp only [Act.put, List.setIfInBounds_toArray, List.set_cons_succ, List.set_cons_zero]
      refine HL.hold_at rfl (by first | rfl | kernel_rfl) (fun x hux hk => ?_) ?_
      · have hS := (hk.2 (by first | rfl | trivial)).2.2.2.2.1 (by first | rfl | trivial)
        obtain ⟨b, c, he, h1, h2, h3⟩ := hS
        obtain ⟨rfl, rfl⟩ : b126 = b ∧ c126 = c := by simpa using he
        clear he -- SAME
        refine HN.heldUpon_enter (f := 34) (args := #[.slice (some ⟨b126, 0, none⟩) 3 c126]) (by simp [go_sem]) ((lfirst_any [e2, e3, rng xx 0 240] b126 c126 x (fun i hi => by match i, hi with | 0, _ => exact h1 | 1, _ => exact h2 | 2, _ => exact h3) (by simp)).mono ?_)
        rintro e y ⟨rfl, hy⟩
        exact ⟨_, rfl, KpW.iff.2 (by rw [hy]; exact Below.refl _ _), (fun h => by cases h), (fun h => by cases h), (fun h => by cases h), (fun h => by cases h), (fun h => by cases h), (fun _ => rfl)⟩
      rintro v127 ⟨x127, -, -, -, -, -, -, -, hv⟩
      obtain rfl := hv (by first | rfl | trivial)
      clear hv x127
      intro w18 hb18 hkz
      clear hkz
      clear K1 hK1 K2 hK2 K3 hK3
      simp only [Act.put, List.setIfInBounds_toArray, List.set_cons_succ, List.set_cons_zero]
      rw [← HOE.out]
      have hq18 := b_then hq16 hb18
      clear m14
      have m14 := b_old hq18 (HM.out 14 _ rfl)
      have t0 := b_old hq18 (HT.out 0 _ rfl)
      have t1 := b_old hq18 (HT.out 1 _ rfl)
      have t2 := b_old hq18 (HT.out 2 _ rfl)
      have t3 := b_old hq18 (HT.out 3 _ rfl)
      have t4 := b_old hq18 (HT.out 4 _ rfl)
      have t5 := b_old hq18 (HT.out 5 _ rfl)
      have t6 := b_old hq18 (HT.out 6 _ rfl)
      have t7 := b_old hq18 (HT.out 7 _ rfl)
      have t8 := b_old hq18 (HT.out 8 _ rfl)
      have t9 := b_old hq18 (HT.out 9 _ rfl)
      by_cases ho0 : oe = 0
      · have HRV := Lib.hid (fun w => HRO.out w ho0)
        have HOU := HOO.out
        rw [if_pos ho0] at HOU
        clear HRO
        subst ho0
        subst HOU
        go_wp2_with fail
        refine (HRV.out _).mono ?_
        rintro e w19 ⟨rfl, hb19⟩
        go_wp2_with fail
        go_ret
        exact ⟨rfl, b_then (b_then hB0 hq18) hb19⟩
      · have HOU := HOO.out
        rw [if_neg ho0] at HOU
        subst HOU
        go_wp2_with fail
        go_ret
        exact ⟨rfl, b_then hB0 hq18⟩
end Go.Proofs.YtkjhnemfebgcnaaGreatDoor
