/- Contract of readMessage, for every text: the walk. -/
import Derived.Test.YtphoclgibnhjfaaGreatPm26
import Derived.Sort.CutIn
namespace Go.Proofs.YtphoclgibnhjfaaGreat
open Go Go.RowKit Go.Shelf
attribute [local go_sem] Oper.semAt_some
set_option maxRecDepth 100000 in
set_option maxHeartbeats 8000000 in
theorem readMessage_in (n : Nat) (hn : 3 ≤ n) (s : ByteArray) (hs : s.size ≤ 20000) (w : World) :
    CallsIn Fence.wide n Tryz.prog 52 #[.string s] w fun e w' => RMO w.heap.size e w' (runM (pcs s) zeroRS) ∧ Below w.heap.size w w' := by
  have hli := fun w => Lines_any s w
  have hst := fun n hn Bn w c0 f0 => lines_stops n hn Bn s (by omega) w c0 f0
  have HSP : Hid (∀ (p : List (Fin (pcs s).length)) (x : Fin (pcs s).length), p ++ [x] <+: List.finRange (pcs s).length → ∃ ts, pcs s = (p.map fun x : Fin (pcs s).length => (pcs s).getD x.1 default) ++ (pcs s).getD x.1 default :: ts) := Lib.hid fun p x h => fin_split (pcs s) h
  have HFT := Lib.hid (fin_texts (pcs s))
  have HLN : Hid ((pcs s).length ≤ 20000) := Lib.hid (Nat.le_trans (pcs_len s.size s (Nat.le_refl _)) hs)
  have HSZ : Hid (∀ i, ((pcs s).getD i default).size ≤ 20000) := Lib.hid fun i => by
    rw [List.getD_eq_getElem?_getD]
    rcases Nat.lt_or_ge i (pcs s).length with h | h
    · rw [List.getElem?_eq_getElem h]
      have := pcs_size s.size s (Nat.le_refl _) _ (List.getElem_mem h)
      simp only [Option.getD_some]; omega
    · rw [List.getElem?_eq_none h]; exact Nat.zero_le _
  generalize hps : pcs s = ps at *
  clear hps
  obtain ⟨V, HV, RV0, hbV, hsV⟩ := rm_new w
  refine callsIn_of_wp_marks Tryz.func52 rfl trivial ?_ rfl
  simp only [Tryz.ntmps52, List.size_toArray, List.length_cons, List.length_nil, Nat.reduceAdd, Nat.reduceSub, Array.replicate_succ, Array.replicate_zero, List.push_toArray, List.append_toArray, List.nil_append, List.cons_append]
  gi_wp2
  rw [HV.out]
  clear HV
  refine ⟨trivial, (fun h => by cases h), ?_⟩
  refine (callsIn_wide.2 (hli V)).mono ?_
  rintro e1 V6 ⟨rfl, c6, f6, hs6, hb6⟩
  rw [hsV] at c6 f6 hs6
  have RV6 := RV0.below hb6
  have hB6 := b_then hbV hb6
  clear hli RV0 hbV hb6
  gi_wp2
  try rw [hsV]
  refine wpIn_rangeFunc_box rfl (by omega) (gf := 168) (lb := #[.pointer (some ⟨w.heap.size + 6, 0, none⟩)]) rfl trivial (enters_of Tryz.func168 (by kernel_rfl) rfl) (Bn := w.heap.size + 6) (by omega)
    (hst (n - 1) (by omega) (w.heap.size + 6) V6 c6 f6) kpZ_trans (kpZ_b (by omega)) (fun _ => rfl)
    (fun (pre : List (Fin ps.length)) W => RMI w w.heap.size (pre.map fun x : Fin ps.length => ps.getD x.1 default) W)
    (fun c (pre : List (Fin ps.length)) W => c = Code.ret ∧ ∃ y : List ByteArray × ByteArray, (∃ (p : List (Fin ps.length)) (x : Fin ps.length), pre = p ++ [x] ∧ y = (p.map (fun x : Fin ps.length => ps.getD x.1 default), ps.getD x.1 default)) ∧ RMX w w.heap.size y.1 y.2 W)
    (by rw [hs6]; exact rmi_box w w.heap.size fun pre : List (Fin ps.length) => pre.map fun x : Fin ps.length => ps.getD x.1 default)
    (fun c => by rw [hs6]; exact rmx_box w w.heap.size (fun _ => c = Code.ret) fun (pre : List (Fin ps.length)) y => ∃ (p : List (Fin ps.length)) (x : Fin ps.length), pre = p ++ [x] ∧ y = (p.map (fun x : Fin ps.length => ps.getD x.1 default), ps.getD x.1 default))
    ⟨zeroRS, .slice none 0 0, OkM.nil, rfl, by simp [zeroRS], (fun _ h => by cases h), RV6, World.ownsRow_nil _ _ _ _, hB6, by omega⟩
    (fun x => { tmps := #[.string s, undef, .pointer (some ⟨w.heap.size, 0, none⟩), .pointer (some ⟨w.heap.size + 1, 0, none⟩), .pointer (some ⟨w.heap.size + 1 + 1, 0, none⟩), .pointer (some ⟨w.heap.size + 1 + 1 + 1, 0, none⟩), .pointer (some ⟨w.heap.size + 1 + 1 + 1 + 1, 0, none⟩), .pointer (some ⟨w.heap.size + 1 + 1 + 1 + 1 + 1, 0, none⟩), .string (ps.getD x.1 default), undef, undef, undef, .string s, .func (.func 168) #[] #[.pointer (some ⟨w.heap.size + 6, 0, none⟩)], .string (ps.getD x.1 default), undef, undef, undef, undef, undef, undef, undef, undef, undef, undef, undef, undef, undef, undef, undef, undef, undef, undef, undef, undef, undef, undef, undef, undef, undef, undef, undef, undef, undef, undef, undef, undef, undef, undef, undef, undef, undef, undef, undef, undef, undef, undef, undef, undef, undef, undef], defers := [] }) ?assign ?body ?done ?stop
  case assign =>
    intro l x W K hK
    gi_wp2
    simpa using hK
  case body =>
    rintro l pre x0 W ⟨⟨⟨kd, ap, sn, dy⟩, XL, xa, xe⟩, v, hok, hat, hlen, hsz, RV, hown, hB, hz⟩ hlt
    dsimp only at hat hlen hsz hown
    subst hat
    have hts := HSZ.out x0.1
    have HTX : Hid ((pre ++ [x0]).map (fun x : Fin ps.length => ps.getD x.1 default) = pre.map (fun x : Fin ps.length => ps.getD x.1 default) ++ [ps.getD x0.1 default]) := Lib.hid (by simp)
    have HTY : Hid (∃ (p : List (Fin ps.length)) (x : Fin ps.length), pre ++ [x0] = p ++ [x] ∧ (pre.map (fun x : Fin ps.length => ps.getD x.1 default), ps.getD x0.1 default) = (p.map (fun x : Fin ps.length => ps.getD x.1 default), ps.getD x.1 default)) := Lib.hid ⟨pre, x0, rfl, rfl⟩
    have HLP : Hid ((pre.map (fun x : Fin ps.length => ps.getD x.1 default)).length < 20000) := Lib.hid (by have := HLN.out; rw [List.length_map]; omega)
    generalize pre.map (fun x : Fin ps.length => ps.getD x.1 default) = L at *
    generalize ps.getD x0.1 default = t at *
    obtain ⟨A, c', hv⟩ := (slArg_own (f := LineV.cells) (k := 14) (fun _ => rfl) (by decide) hown).len
    subst hv
    have hcs : ∀ W, Calls Tryz.prog 106 #[.string t, .string ⟨#[10]⟩] W fun e W' => e = .returned (.tuple #[.string (bareL t), .bool (wholeB t)]) ∧ W' = W := fun W => by
      have h := Tryz.strings_CutSuffix t ⟨#[10]⟩ W (by omega)
      rw [← suffix_bare, ← suffix_whole]
      exact h
    have HE : Hid (stepM ⟨⟨kd, ap, sn, dy⟩, XL, L.length, xe⟩ t = if (!wholeB t || xe) = true then (⟨⟨kd, ap, sn, dy⟩, XL, L.length, xe⟩, 25)
  else if L.length = 0 then (⟨(headIs (bareL t)).1, XL, L.length + 1, xe⟩, (headIs (bareL t)).2)
  else if isFoot (bareL t) = true then (⟨⟨kd, ap, sn, dy⟩, XL, L.length + 1, true⟩, footErr (bareL t) XL.length)
  else (⟨⟨kd, ap, sn, dy⟩, XL ++ [(lineIs (bareL t)).1], L.length + 1, xe⟩, fst [(lineIs (bareL t)).2.2, unl (decide ((XL.length : Int) < 64)) 5])) := Lib.hid rfl
    have HOK := Lib.hid hok
    have HRV := Lib.hid RV
    have HOW := Lib.hid hown
    have HBW := Lib.hid hB
    have hbs := bareL_size t
    have hLP := HLP.out
    have hzc := hz
    clear hok
    gi_wp2
    refine ⟨trivial, (fun h => by cases h), ?_⟩
    refine (CallsIn.inRound l (callsIn_wide.2 (hcs W))).mono ?_
    rintro e1 W1 ⟨rfl, hw1⟩
    obtain rfl := hw1.symm
    clear hcs hst hown
    obtain ⟨i0, i1, i2, i3, i4⟩ := RV.m.c
    have j4 := RV.m.f 4 (by decide)
    have a0 := RV.a
    have en := RV.e
    have fen := RV.fe
    dsimp only at i0 i1 i2 i3 i4 a0 en
    clear RV hB
    cases hwh : wholeB t
    · have HST : Hid (stepM ⟨⟨kd, ap, sn, dy⟩, XL, L.length, xe⟩ t = (⟨⟨kd, ap, sn, dy⟩, XL, L.length, xe⟩, 25)) := Lib.hid (by rw [HE.out, hwh]; rfl)
      have HNE : ¬ ((25 : Int) = 0) := by decide
      have HKO := Lib.hid (KeepsOthers.refl W)
      have r := HRV.out
      obtain ⟨m0, m1, m2, m3, m4⟩ := r.r.m.c
      simp only [zeroHead] at m0 m1 m2 m3 m4
      have e0 := r.r.m.f 0 (by decide)
      have e1 := r.r.m.f 1 (by decide)
      have e2 := r.r.m.f 2 (by decide)
      have e3 := r.r.m.f 3 (by decide)
      have e4 := r.r.m.f 4 (by decide)
      have p1 := r.r.c1
      have q1 := r.r.f1
      have p2 := r.r.c2
      have q2 := r.r.f2
      have a0 := r.a
      try dsimp only at a0
      clear r
      gi_wp2
      gi_region
      all_goals gi_wp2
      all_goals
        obtain ⟨Y, HY, hRY, hBY, hkY, hKY, hsY⟩ := HRV.out.r.put zeroHead (.string ⟨#[]⟩) (.string ⟨#[]⟩) (.string ⟨#[]⟩) (.int .i64 0) (.slice none 0 0) (.slice none 0 0) rfl (L.length : Int) (25) HBW.out
        rw [HY.out]
        exact ⟨HKO.out.trans (hKY.trans (KeepsOthers.drew Y)), rfl, _, HTY.out, _, HOK.out, rfl, by rw [HST.out]; exact HNE, by rw [HST.out]; exact hRY.of (fun c hc => rfl), hBY.drew, by show w.heap.size + 6 < Y.heap.size; omega⟩
    · cases xe
      · by_cases ha0 : L.length = 0
        · have hab : ((L.length : Int) == 0) = true := by simp [ha0]
          have HST : Hid (stepM ⟨⟨kd, ap, sn, dy⟩, XL, L.length, false⟩ t = (⟨(headIs (bareL t)).1, XL, L.length + 1, false⟩, (headIs (bareL t)).2)) := Lib.hid (by rw [HE.out, if_neg (by simp [hwh]), if_pos ha0])
          have hrh := fun W => readHeader_any (bareL t) (by omega) W
          generalize headIs (bareL t) = q at *
          obtain ⟨⟨kd', ap', sn', dy'⟩, er⟩ := q
          simp only [HeadV.cells] at hrh HST
          have HXL : Hid (XL = []) := Lib.hid (List.length_eq_zero_iff.1 (by omega))
          clear ha0
          gi_wp2
          refine ⟨trivial, (fun h => by cases h), ?_⟩
          refine (CallsIn.inRound l (callsIn_wide.2 (hrh W))).mono ?_
          rintro e2 W2 ⟨rfl, hb2⟩
          have RV2 := HRV.out.below hb2
          obtain ⟨Y, HY, hRVY, hBY, hkY, hKY, hsY⟩ := RV2.putM ⟨kd', ap', sn', dy'⟩ (.string kd') (.string ap') (.string sn') (.int .i64 dy') (.slice none 0 0) (.slice none 0 0) rfl XL (b_then HBW.out hb2)
          have HRVZ := Lib.hid HRV
          clear HRV i0 i1 i2 i3 i4 j4 a0 en fen
          obtain ⟨i0, i1, i2, i3, i4⟩ := RV2.m.c
          have j0 := RV2.m.f 0 (by decide)
          have j1 := RV2.m.f 1 (by decide)
          have j2 := RV2.m.f 2 (by decide)
          have j3 := RV2.m.f 3 (by decide)
          have j4 := RV2.m.f 4 (by decide)
          dsimp only at i0 i1 i2 i3 i4
          have HRV := Lib.hid hRVY
          have HBWO := Lib.hid HBW
          clear HBW
          have HBW := Lib.hid hBY
          have HKO : Hid (KeepsOthers W Y) := Lib.hid ((KeepsOthers.of_grownBy (grown_below hb2) (fun j o e => by cases e)).trans hKY)
          have HKZ : Hid (KpZ (w.heap.size + 6) W Y) := Lib.hid ⟨(hkY _ (by omega)).trans (hb2.block _ (by omega)), by rw [hsY]; exact hb2.size⟩
          have hs2 := hb2.size
          have HZC : Hid (w.heap.size + 6 < Y.heap.size) := Lib.hid (by omega)
          have HNL : Hid (Y.ownsRow (w.heap.size + 7) 88 14 (.slice none 0 0) XL.length (flatG LineV.cells XL)) := Lib.hid (by rw [HXL.out]; exact World.ownsRow_nil _ _ _ _)
          clear RV2 hb2 hs2 hRVY hBY hkY hKY hsY hrh hzc
          by_cases her : er = 0
          · subst her
            have HST' : Hid (stepM ⟨⟨kd, ap, sn, dy⟩, XL, L.length, false⟩ t = (⟨⟨kd', ap', sn', dy'⟩, XL, L.length + 1, false⟩, 0)) := HST
            gi_upto_region 16 with fail
            rw [HY.out]
            have hzc := HZC.out
            have HOW2 := HNL
            have HSZ2 := Lib.hid hsz
            have a0 := HRV.out.a
            have fa := HRV.out.fa
            dsimp only at a0
            gi_wp2
            have HRW := HRV.out.setAt (L.length + 1) XL
            refine ⟨HKO.out.trans (KeepsOthers.setCell _ _ _), kpZ_trans HKZ.out ⟨hset (by omega), Nat.le_of_eq (set_size _ _ _).symm⟩, ?_⟩
            show RMI w w.heap.size ((pre ++ [x0]).map fun x : Fin ps.length => ps.getD x.1 default) _
            rw [HTX.out]
            have HN := HOK.out.step (t := t) (by rw [HST.out])
            rw [HST.out] at HN
            exact ⟨_, .slice none 0 0, HN, by simp, by dsimp only; rw [List.length_append]; simp; omega, HSZ2.out, HRW, ownsRow_setCell_below (a := ⟨w.heap.size + 1 + 1 + 1 + 1, 0, none⟩) HOW2.out (by show w.heap.size + 1 + 1 + 1 + 1 < _; omega) _, HBW.out.setCell (p := ⟨w.heap.size + 1 + 1 + 1 + 1, 0, none⟩) (by show w.heap.size ≤ w.heap.size + 1 + 1 + 1 + 1; omega) _, by rw [set_size]; exact hzc⟩
          · have HNE : ¬ (er = 0) := her
            have herb : (er != 0) = true := by simpa using her
            gi_upto_region 16 with fail
            rw [HY.out]
            have hzc := HZC.out
            have r := HRV.out
            obtain ⟨m0, m1, m2, m3, m4⟩ := r.r.m.c
            simp only [zeroHead] at m0 m1 m2 m3 m4
            have e0 := r.r.m.f 0 (by decide)
            have e1 := r.r.m.f 1 (by decide)
            have e2 := r.r.m.f 2 (by decide)
            have e3 := r.r.m.f 3 (by decide)
            have e4 := r.r.m.f 4 (by decide)
            have p1 := r.r.c1
            have q1 := r.r.f1
            have p2 := r.r.c2
            have q2 := r.r.f2
            have a0 := r.a
            try dsimp only at a0
            clear r
            gi_wp2
            gi_region
            all_goals gi_wp2
            all_goals
              obtain ⟨Y, HY, hRY, hBY, hkY, hKY, hsY⟩ := HRV.out.r.put zeroHead (.string ⟨#[]⟩) (.string ⟨#[]⟩) (.string ⟨#[]⟩) (.int .i64 0) (.slice none 0 0) (.slice none 0 0) rfl (L.length : Int) (er) HBW.out
              rw [HY.out]
              exact ⟨HKO.out.trans (hKY.trans (KeepsOthers.drew Y)), rfl, _, HTY.out, _, HOK.out, rfl, by rw [HST.out]; exact HNE, by rw [HST.out]; exact hRY.of (fun c hc => rfl), hBY.drew, by show w.heap.size + 6 < Y.heap.size; omega⟩
        · have hab : ((L.length : Int) == 0) = false := by rw [beq_eq_false_iff_ne]; omega
          have hif := fun W => isFooter_any (bareL t) (by omega) W
          have hxn : XL.length ≤ 20000 := by omega
          have hLb : (1 : Int) ≤ L.length := by omega
          cases hft : isFoot (bareL t)
          · rw [hft] at hif
            have HST : Hid (stepM ⟨⟨kd, ap, sn, dy⟩, XL, L.length, false⟩ t = (⟨⟨kd, ap, sn, dy⟩, XL ++ [(lineIs (bareL t)).1], L.length + 1, false⟩, fst [(lineIs (bareL t)).2.2, unl (decide ((XL.length : Int) < 64)) 5])) := Lib.hid (by rw [HE.out, if_neg (by simp [hwh]), if_neg ha0, if_neg (by simp [hft])])
            have HS2 : Hid (SzL (XL ++ [(lineIs (bareL t)).1])) := Lib.hid (hsz.line (by omega))
            have hrl := fun W ho hbs => readLine_any XL (.slice A XL.length c') (bareL t) (w.heap.size + 7) W (by omega) ho (by omega) hbs
            generalize lineIs (bareL t) = q at *
            generalize fst [q.2.2, unl (decide ((XL.length : Int) < 64)) 5] = er at *
            clear ha0
            gi_wp2
            refine ⟨trivial, (fun h => by cases h), ?_⟩
            refine (CallsIn.inRound l (callsIn_wide.2 (hif W))).mono ?_
            rintro e2 W2 ⟨rfl, hb2⟩
            have RV2 := HRV.out.below hb2
            have how2 := pr_below HOW.out hb2
            have hs2 := hb2.size
            have hB2 := b_then HBW.out hb2
            have HRVZ := Lib.hid HRV
            have HBWZ := Lib.hid HBW
            clear HRV HBW i0 i1 i2 i3 i4 j4 a0 en fen hif
            have i4 := RV2.m.c.c4
            try dsimp only at i4
            gi_wp2
            refine ⟨trivial, (fun h => by cases h), ?_⟩
            refine (CallsIn.inRound l (callsIn_wide.2 (hrl W2 how2 (by omega)))).mono ?_
            rintro e3 W3 ⟨v', rfl, how3, hg3⟩
            obtain ⟨g', cp', rfl⟩ := ownsRow_succ how3
            have hpb := pr_blk how2
            have hk3 : ∀ c, c ≤ w.heap.size + 6 → W3.heap[c]? = W2.heap[c]? := fun c hc => hg3.block c (by omega) (fun e => by have := hpb c e.symm; omega)
            have hs3 := hg3.size
            have RV3 := RV2.of (fun c hc => hk3 c (by omega))
            have hkc : ∀ (j : Nat) (o : Obj), (Value.slice A XL.length c').ownBlock = some j → W2.heap[j]? = some o → o.isCells = true := fun j o e ho => own_cells how2 e ho
            have hB3 := hB2.grown hg3 (by omega) (fun r e => by have := hpb r e; omega)
            clear i4
            have i4 := RV3.m.c.c4
            have j4 := RV3.m.f 4 (by decide)
            try dsimp only at i4
            have HRV := Lib.hid (RV3.setLn (.slice (some ⟨g', 0, none⟩) (XL.length + 1) cp') (XL ++ [q.1]))
            have HBW := Lib.hid (hB3.setCell (p := ⟨w.heap.size + 1 + 1 + 1, 4, none⟩) (by show w.heap.size ≤ w.heap.size + 1 + 1 + 1; omega) (.slice (some ⟨g', 0, none⟩) (XL.length + 1) cp'))
            have HKO : Hid (KeepsOthers W (W3.setCell ⟨w.heap.size + 1 + 1 + 1, 4, none⟩ (.slice (some ⟨g', 0, none⟩) (XL.length + 1) cp'))) := Lib.hid (((KeepsOthers.of_grownBy (grown_below hb2) (fun j o e => by cases e)).trans (KeepsOthers.of_grownBy hg3 hkc)).trans (KeepsOthers.setCell _ _ _))
            have HKZ : Hid (KpZ (w.heap.size + 6) W (W3.setCell ⟨w.heap.size + 1 + 1 + 1, 4, none⟩ (.slice (some ⟨g', 0, none⟩) (XL.length + 1) cp'))) := Lib.hid ⟨((hset (by omega)).trans (hk3 _ (by omega))).trans (hb2.block _ (by omega)), by rw [set_size]; omega⟩
            have HZC : Hid (w.heap.size + 6 < (W3.setCell ⟨w.heap.size + 1 + 1 + 1, 4, none⟩ (.slice (some ⟨g', 0, none⟩) (XL.length + 1) cp')).heap.size) := Lib.hid (by rw [set_size]; omega)
            have HNL : Hid ((W3.setCell ⟨w.heap.size + 1 + 1 + 1, 4, none⟩ (.slice (some ⟨g', 0, none⟩) (XL.length + 1) cp')).ownsRow (w.heap.size + 7) 88 14 (.slice (some ⟨g', 0, none⟩) (XL.length + 1) cp') (XL ++ [q.1]).length (flatG LineV.cells (XL ++ [q.1]))) := Lib.hid (by rw [List.length_append]; exact ownsRow_setCell_below (a := ⟨w.heap.size + 1 + 1 + 1, 4, none⟩) how3 (by show w.heap.size + 1 + 1 + 1 < w.heap.size + 7; omega) _)
            clear RV2 RV3 hb2 hs2 hs3 hB2 hB3 hg3 how2 how3 hpb hk3 hkc hrl hzc
            try dsimp only at HRV
            by_cases her : er = 0
            · subst her
              gi_upto_region 16 with fail
              have hzc := HZC.out
              have HOW2 := HNL
              have HSZ2 := HS2
              have a0 := HRV.out.a
              have fa := HRV.out.fa
              dsimp only at a0
              gi_wp2
              have HRW := HRV.out.setAt (L.length + 1) (XL ++ [q.1])
              refine ⟨HKO.out.trans (KeepsOthers.setCell _ _ _), kpZ_trans HKZ.out ⟨hset (by omega), Nat.le_of_eq (set_size _ _ _).symm⟩, ?_⟩
              show RMI w w.heap.size ((pre ++ [x0]).map fun x : Fin ps.length => ps.getD x.1 default) _
              rw [HTX.out]
              have HN := HOK.out.step (t := t) (by rw [HST.out])
              rw [HST.out] at HN
              exact ⟨_, _, HN, by simp, by dsimp only; rw [List.length_append]; simp; omega, HSZ2.out, HRW, ownsRow_setCell_below (a := ⟨w.heap.size + 1 + 1 + 1 + 1, 0, none⟩) HOW2.out (by show w.heap.size + 1 + 1 + 1 + 1 < _; omega) _, HBW.out.setCell (p := ⟨w.heap.size + 1 + 1 + 1 + 1, 0, none⟩) (by show w.heap.size ≤ w.heap.size + 1 + 1 + 1 + 1; omega) _, by rw [set_size]; exact hzc⟩
            · have HNE : ¬ (er = 0) := her
              have herb : (er != 0) = true := by simpa using her
              gi_upto_region 16 with fail
              have hzc := HZC.out
              have r := HRV.out
              obtain ⟨m0, m1, m2, m3, m4⟩ := r.r.m.c
              simp only [zeroHead] at m0 m1 m2 m3 m4
              have e0 := r.r.m.f 0 (by decide)
              have e1 := r.r.m.f 1 (by decide)
              have e2 := r.r.m.f 2 (by decide)
              have e3 := r.r.m.f 3 (by decide)
              have e4 := r.r.m.f 4 (by decide)
              have p1 := r.r.c1
              have q1 := r.r.f1
              have p2 := r.r.c2
              have q2 := r.r.f2
              have a0 := r.a
              try dsimp only at a0
              clear r
              gi_wp2
              gi_region
              all_goals gi_wp2
              all_goals
                obtain ⟨Y, HY, hRY, hBY, hkY, hKY, hsY⟩ := HRV.out.r.put zeroHead (.string ⟨#[]⟩) (.string ⟨#[]⟩) (.string ⟨#[]⟩) (.int .i64 0) (.slice none 0 0) (.slice none 0 0) rfl (L.length : Int) (er) HBW.out
                rw [HY.out]
                exact ⟨HKO.out.trans (hKY.trans (KeepsOthers.drew Y)), rfl, _, HTY.out, _, HOK.out, rfl, by rw [HST.out]; exact HNE, by rw [HST.out]; exact hRY.of (fun c hc => rfl), hBY.drew, by show w.heap.size + 6 < Y.heap.size; omega⟩
          · rw [hft] at hif
            have HST : Hid (stepM ⟨⟨kd, ap, sn, dy⟩, XL, L.length, false⟩ t = (⟨⟨kd, ap, sn, dy⟩, XL, L.length + 1, true⟩, footErr (bareL t) XL.length)) := Lib.hid (by rw [HE.out, if_neg (by simp [hwh]), if_neg ha0, if_pos hft])
            have hcf := fun W => checkFooter_any (bareL t) XL.length W
            generalize footErr (bareL t) XL.length = er at *
            clear ha0
            gi_wp2
            refine ⟨trivial, (fun h => by cases h), ?_⟩
            refine (CallsIn.inRound l (callsIn_wide.2 (hif W))).mono ?_
            rintro e2 W2 ⟨rfl, hb2⟩
            have RV2 := HRV.out.below hb2
            have how2 := pr_below HOW.out hb2
            have hs2 := hb2.size
            have hB2 := b_then HBW.out hb2
            have HRVZ := Lib.hid HRV
            have HBWZ := Lib.hid HBW
            clear HRV HBW i0 i1 i2 i3 i4 j4 a0 en fen hif
            have i4 := RV2.m.c.c4
            have en := RV2.e
            have fen := RV2.fe
            dsimp only at i4 en
            obtain ⟨W2', HW2'⟩ : ∃ W2', Hid (W2.setCell ⟨w.heap.size + 1 + 1 + 1 + 1 + 1, 0, none⟩ (.bool true) = W2') := ⟨_, Lib.hid rfl⟩
            have RV2' := RV2.setEn true
            have how2' := ownsRow_setCell_below (a := ⟨w.heap.size + 1 + 1 + 1 + 1 + 1, 0, none⟩) how2 (by show w.heap.size + 1 + 1 + 1 + 1 + 1 < w.heap.size + 7; omega) (.bool true)
            have hB2' := hB2.setCell (p := ⟨w.heap.size + 1 + 1 + 1 + 1 + 1, 0, none⟩) (by show w.heap.size ≤ w.heap.size + 1 + 1 + 1 + 1 + 1; omega) (.bool true)
            have hKO' : KeepsOthers W (W2.setCell ⟨w.heap.size + 1 + 1 + 1 + 1 + 1, 0, none⟩ (.bool true)) := (KeepsOthers.of_grownBy (grown_below hb2) (fun j o e => by cases e)).trans (KeepsOthers.setCell _ _ _)
            have hKZ' : KpZ (w.heap.size + 6) W (W2.setCell ⟨w.heap.size + 1 + 1 + 1 + 1 + 1, 0, none⟩ (.bool true)) := ⟨(hset (by omega)).trans (hb2.block _ (by omega)), by rw [set_size]; omega⟩
            have hz2' : w.heap.size + 6 < (W2.setCell ⟨w.heap.size + 1 + 1 + 1 + 1 + 1, 0, none⟩ (.bool true)).heap.size := by rw [set_size]; omega
            rw [HW2'.out] at RV2' how2' hB2' hKO' hKZ' hz2'
            have HALL := Lib.hid (And.intro RV2' (And.intro how2' (And.intro hB2' (And.intro hKO' (And.intro hKZ' hz2')))))
            clear RV2' how2' hB2' hKO' hKZ' hz2' RV2 how2 hB2 hb2 hs2 hzc
            gi_wp2
            rw [HW2'.out]
            refine ⟨trivial, (fun h => by cases h), ?_⟩
            refine (CallsIn.inRound l (callsIn_wide.2 (hcf W2'))).mono ?_
            rintro e3 W3 ⟨rfl, hb3⟩
            obtain ⟨RV2', how2', hB2', hKO', hKZ', hz2'⟩ := HALL.out
            have hs3 := hb3.size
            have HRV := Lib.hid (RV2'.below hb3)
            have HBW := Lib.hid (b_then hB2' hb3)
            have HKO : Hid (KeepsOthers W W3) := Lib.hid (hKO'.trans (KeepsOthers.of_grownBy (grown_below hb3) (fun j o e => by cases e)))
            have HKZ : Hid (KpZ (w.heap.size + 6) W W3) := Lib.hid (kpZ_trans hKZ' ⟨hb3.block _ hz2', hs3⟩)
            have HZC : Hid (w.heap.size + 6 < W3.heap.size) := Lib.hid (by omega)
            have HNL := Lib.hid (pr_below how2' hb3)
            clear RV2' how2' hB2' hKO' hKZ' hz2' hb3 hs3 hcf HALL HW2' i4 en fen
            try dsimp only at HRV
            by_cases her : er = 0
            · subst her
              gi_upto_region 16 with fail
              have hzc := HZC.out
              have HOW2 := HNL
              have HSZ2 := Lib.hid hsz
              have a0 := HRV.out.a
              have fa := HRV.out.fa
              dsimp only at a0
              gi_wp2
              have HRW := HRV.out.setAt (L.length + 1) XL
              refine ⟨HKO.out.trans (KeepsOthers.setCell _ _ _), kpZ_trans HKZ.out ⟨hset (by omega), Nat.le_of_eq (set_size _ _ _).symm⟩, ?_⟩
              show RMI w w.heap.size ((pre ++ [x0]).map fun x : Fin ps.length => ps.getD x.1 default) _
              rw [HTX.out]
              have HN := HOK.out.step (t := t) (by rw [HST.out])
              rw [HST.out] at HN
              exact ⟨_, _, HN, by simp, by dsimp only; rw [List.length_append]; simp; omega, HSZ2.out, HRW, ownsRow_setCell_below (a := ⟨w.heap.size + 1 + 1 + 1 + 1, 0, none⟩) HOW2.out (by show w.heap.size + 1 + 1 + 1 + 1 < _; omega) _, HBW.out.setCell (p := ⟨w.heap.size + 1 + 1 + 1 + 1, 0, none⟩) (by show w.heap.size ≤ w.heap.size + 1 + 1 + 1 + 1; omega) _, by rw [set_size]; exact hzc⟩
            · have HNE : ¬ (er = 0) := her
              have herb : (er != 0) = true := by simpa using her
              gi_upto_region 16 with fail
              have hzc := HZC.out
              have r := HRV.out
              obtain ⟨m0, m1, m2, m3, m4⟩ := r.r.m.c
              simp only [zeroHead] at m0 m1 m2 m3 m4
              have e0 := r.r.m.f 0 (by decide)
              have e1 := r.r.m.f 1 (by decide)
              have e2 := r.r.m.f 2 (by decide)
              have e3 := r.r.m.f 3 (by decide)
              have e4 := r.r.m.f 4 (by decide)
              have p1 := r.r.c1
              have q1 := r.r.f1
              have p2 := r.r.c2
              have q2 := r.r.f2
              have a0 := r.a
              try dsimp only at a0
              clear r
              gi_wp2
              gi_region
              all_goals gi_wp2
              all_goals
                obtain ⟨Y, HY, hRY, hBY, hkY, hKY, hsY⟩ := HRV.out.r.put zeroHead (.string ⟨#[]⟩) (.string ⟨#[]⟩) (.string ⟨#[]⟩) (.int .i64 0) (.slice none 0 0) (.slice none 0 0) rfl (L.length : Int) (er) HBW.out
                rw [HY.out]
                exact ⟨HKO.out.trans (hKY.trans (KeepsOthers.drew Y)), rfl, _, HTY.out, _, HOK.out, rfl, by rw [HST.out]; exact HNE, by rw [HST.out]; exact hRY.of (fun c hc => rfl), hBY.drew, by show w.heap.size + 6 < Y.heap.size; omega⟩
      · have HST : Hid (stepM ⟨⟨kd, ap, sn, dy⟩, XL, L.length, true⟩ t = (⟨⟨kd, ap, sn, dy⟩, XL, L.length, true⟩, 25)) := Lib.hid (by rw [HE.out, if_pos (by simp)])
        have HNE : ¬ ((25 : Int) = 0) := by decide
        have HKO := Lib.hid (KeepsOthers.refl W)
        have r := HRV.out
        obtain ⟨m0, m1, m2, m3, m4⟩ := r.r.m.c
        simp only [zeroHead] at m0 m1 m2 m3 m4
        have e0 := r.r.m.f 0 (by decide)
        have e1 := r.r.m.f 1 (by decide)
        have e2 := r.r.m.f 2 (by decide)
        have e3 := r.r.m.f 3 (by decide)
        have e4 := r.r.m.f 4 (by decide)
        have p1 := r.r.c1
        have q1 := r.r.f1
        have p2 := r.r.c2
        have q2 := r.r.f2
        have a0 := r.a
        try dsimp only at a0
        clear r
        gi_wp2
        gi_region
        all_goals gi_wp2
        all_goals
          obtain ⟨Y, HY, hRY, hBY, hkY, hKY, hsY⟩ := HRV.out.r.put zeroHead (.string ⟨#[]⟩) (.string ⟨#[]⟩) (.string ⟨#[]⟩) (.int .i64 0) (.slice none 0 0) (.slice none 0 0) rfl (L.length : Int) (25) HBW.out
          rw [HY.out]
          exact ⟨HKO.out.trans (hKY.trans (KeepsOthers.drew Y)), rfl, _, HTY.out, _, HOK.out, rfl, by rw [HST.out]; exact HNE, by rw [HST.out]; exact hRY.of (fun c hc => rfl), hBY.drew, by show w.heap.size + 6 < Y.heap.size; omega⟩
  case done =>
    rintro D ys W hD rfl ⟨⟨⟨kd, ap, sn, dy⟩, XL, xa, xe⟩, v, hok, hat, hlen, hsz, RV, hown, hB, hz⟩ hK
    rw [HFT.out] at hok hat hlen
    dsimp only at hat hlen hsz hown
    subst hat
    obtain ⟨A, c', hv⟩ := (slArg_own (f := LineV.cells) (k := 14) (fun _ => rfl) (by decide) hown).len
    subst hv
    have HDN := Lib.hid hok.done
    have HRV := Lib.hid RV
    have HOW := Lib.hid hown
    have HBW := Lib.hid hB
    have HKD := Lib.hid hK
    have hln := HLN.out
    have r := RV.r
    obtain ⟨m0, m1, m2, m3, m4⟩ := r.m.c
    simp only [zeroHead] at m0 m1 m2 m3 m4
    have e0 := r.m.f 0 (by decide)
    have e1 := r.m.f 1 (by decide)
    have e2 := r.m.f 2 (by decide)
    have e3 := r.m.f 3 (by decide)
    have e4 := r.m.f 4 (by decide)
    have p1 := r.c1
    have q1 := r.f1
    have p2 := r.c2
    have q2 := r.f2
    have a0 := RV.a
    have en := RV.e
    obtain ⟨i0, i1, i2, i3, i4⟩ := RV.m.c
    dsimp only at i0 i1 i2 i3 i4 a0 en
    clear r RV hown hB hK hok hst
    gi_wp2
    gi_region_with (refine ⟨trivial, (fun h => by cases h), ?_⟩; refine (callsIn_wide.2 (unless_any _ _ _)).mono ?_; rintro _ _ ⟨rfl, rfl⟩)
    all_goals gi_wp2
    all_goals
      obtain ⟨Y, HY, hRY, hBY, hkY, hKY, hsY⟩ := HRV.out.r.put ⟨kd, ap, sn, dy⟩ (.string kd) (.string ap) (.string sn) (.int .i64 dy) (.slice A XL.length c') (.slice A XL.length c') rfl (ps.length : Int) (unl xe 28) HBW.out
      rw [HY.out]
      have hKD : Y.drew.heap[D]? = some (.deferred (some [])) := (hkY D (by omega)).trans HKD.out
      have hOY : Y.ownsRow (w.heap.size + 7) 88 14 (.slice A XL.length c') XL.length (flatG LineV.cells XL) := own_of HOW.out (fun c hc => hkY c (by omega))
      have hOD : Y.drew.ownsRow (w.heap.size + 7) 88 14 (.slice A XL.length c') XL.length (flatG LineV.cells XL) := own_of hOY (fun c _ => rfl)
      have hRZ := hRY.of (Y := Y.drew.putObj D (.deferred none)) (fun c hc => (grownBy_putObj' Y.drew D (.deferred none)).block c (by show c < Y.heap.size; omega) (by simp; omega))
      have hBZ := hBY.drew.trans (belowK_b (w := w) (n₀ := w.heap.size) (Nat.le_refl _) Y.drew D _ (.deferred none) (by omega) hKD rfl rfl)
      have HOZ := Lib.hid (own_less (ownsRow_putObj hOD (.deferred none) hKD rfl) (show w.heap.size ≤ w.heap.size + 7 by omega))
      obtain ⟨t0, t1, t2, t3, t4⟩ := hRZ.m.c
      dsimp only at t0 t1 t2 t3 t4
      have t5 := hRZ.c1
      have t6 := hRZ.c2
      clear hRZ hRY hOY hOD
      refine ⟨by simp, .inl ⟨_, _, rfl, run_takeDeferred hKD, ?_⟩⟩
      exact ⟨.tuple #[.agg #[.string kd, .string ap, .string sn, .int .i64 dy, .slice A XL.length c'], .int .i64 ps.length, .int .i64 (unl xe 28)], by simp [results, Tryz.f52, go_sem, t0, t1, t2, t3, t4, t5, t6], ⟨⟨⟨kd, ap, sn, dy⟩, A, XL.length, c', by rw [HDN.out]; rfl, fun _ => by rw [HDN.out]; exact ⟨rfl, hsz, by dsimp only; omega, HOZ.out⟩⟩, hBZ⟩⟩
  case stop =>
    rintro D c pre W hD hpre ⟨rfl, y, ⟨p, x0, rfl, rfl⟩, x, hok, hat, hne, hR, hB, hz⟩ hK
    obtain ⟨ts, hts⟩ := HSP.out p x0 hpre
    have HST := Lib.hid (hok.stop hne ts)
    dsimp only at hne hR hok
    rw [← hts] at HST
    generalize stepM x (ps.getD x0.1 default) = z at *
    obtain ⟨z1, er⟩ := z
    dsimp only at hne hR HST
    have hRZ := hR.of (Y := W.putObj D (.deferred none)) (fun c hc => (grownBy_putObj' W D (.deferred none)).block c (by omega) (by simp; omega))
    have hBZ := hB.trans (belowK_b (w := w) (n₀ := w.heap.size) (Nat.le_refl _) W D _ (.deferred none) (by omega) hK rfl rfl)
    obtain ⟨t0, t1, t2, t3, t4⟩ := hRZ.m.c
    simp only [zeroHead] at t0 t1 t2 t3 t4
    have t5 := hRZ.c1
    have t6 := hRZ.c2
    clear hRZ hR hB hts hpre hst
    gi_wp2
    refine ⟨by simp, .inl ⟨_, _, rfl, run_takeDeferred hK, ?_⟩⟩
    refine ⟨.tuple #[.agg #[.string ⟨#[]⟩, .string ⟨#[]⟩, .string ⟨#[]⟩, .int .i64 0, .slice none 0 0], .int .i64 x.at_, .int .i64 er], by simp [results, Tryz.f52, go_sem, t0, t1, t2, t3, t4, t5, t6], ⟨⟨zeroHead, none, 0, 0, by rw [HST.out]; rfl, fun h => ?_⟩, hBZ⟩⟩
    rw [HST.out] at h
    exact absurd h hne
end Go.Proofs.YtphoclgibnhjfaaGreat
