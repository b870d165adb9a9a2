/- Contract of the reference's ParseMessage, for every text. -/
import Derived.Test.YtphoclgibnhjfaaGreatPm22
import Derived.Test.YtphoclgibnhjfaaGreatPm24
namespace Go.Proofs.YtphoclgibnhjfaaGreat
open Go Go.RowKit Go.ChangeMaps Go.MapKept
/-- What a reader of messages hands back: its lines lie in a row of their own. -/
structure PM (T : TypeId) (N : Nat) (e : Ending) (w' : World) (m : MsgOut) : Prop where
  ex : ∃ v, e = .returned (.tuple #[.agg (m.1.1.cells v), .int .i64 m.2.1, .int .i64 m.2.2]) ∧ w'.ownsRow N T 14 v m.1.2.length (flatG LineV.cells m.1.2)
theorem PM.bad {T : TypeId} {N : Nat} {w' : World} {m : MsgOut} {i e : Int} (h : m = badM i e) : PM T N (.returned (.tuple #[.agg #[.string ⟨#[]⟩, .string ⟨#[]⟩, .string ⟨#[]⟩, .int .i64 0, .slice none 0 0], .int .i64 i, .int .i64 e])) w' m := by
  subst h
  exact ⟨.slice none 0 0, rfl, World.ownsRow_nil _ _ _ _⟩
theorem str_cells {w : World} {base : Nat} {v : Value} {l : List ByteArray} {t : ByteArray} {ts : List ByteArray} (hl : l = t :: ts) (h : w.ownsRow base 9 1 v l.length (flatG strC l)) : ∃ g c, v = .slice (some ⟨g, 0, none⟩) l.length c ∧ ∀ k, k < l.length → w.cell? ⟨g, k, none⟩ = some (.string (l.getD k default)) := by
  have hn : l.length = ts.length + 1 := by rw [hl]; rfl
  have h' := h
  rw [hn] at h'
  obtain ⟨g, c, rfl⟩ := ownsRow_succ h'
  refine ⟨g, c, by rw [hn], fun k hk => ?_⟩
  rw [← hn] at h'
  have e : w.cell? ⟨g, k * 1 + 0, none⟩ = (flatG strC l)[k * 1 + 0]? := h'.cellAt _ (by omega)
  rw [flatG_at (k := 1) (fun _ => rfl) _ k 0 (by omega) (by decide)] at e
  rw [Nat.mul_one, Nat.add_zero] at e
  rw [e]
  simp [strC]
theorem MB.set4 {X : World} {b : Nat} {h : HeadV} {v : Value} (m : MB X b h v) (v' : Value) : MB (X.setCell ⟨b, 4, none⟩ v') b h v' :=
  ⟨⟨set_other m.c.c0 (by simp), set_other m.c.c1 (by simp), set_other m.c.c2 (by simp), set_other m.c.c3 (by simp), set_same m.c.c4⟩, fun t ht => by rw [World.frozen?_setCell]; exact m.f t ht⟩
theorem MB.set_off {X : World} {b c o : Nat} {h : HeadV} {v : Value} (m : MB X b h v) (hne : b ≠ c) (u : Value) : MB (X.setCell ⟨c, o, none⟩ u) b h v :=
  m.of (Below.heap_setCell _ _ _ _ (fun e => hne (by rw [e])))
theorem own_less {w : World} {base base' : Nat} {e : TypeId} {size : Nat} {v : Value} {n : Nat} {xs : List Value} (h : w.ownsRow base e size v n xs) (hb : base' ≤ base) : w.ownsRow base' e size v n xs := by
  refine ⟨h.1, ?_⟩
  rcases h.2 with hn | ⟨g, cap, cur, hv, h1, rest⟩
  · exact .inl hn
  · exact .inr ⟨g, cap, cur, hv, Nat.le_trans hb h1, rest⟩
theorem wl_bd (kind : ByteArray) (L : List LineV) (h : L.length ≤ 900) : (wlGo kind L zeroLine 0).1 ≤ 1000 ∧ -1000 ≤ (wlGo kind L zeroLine 0).1 := by
  have H : ∀ (l : List LineV) (x : LineV) (i : Nat), (wlGo kind l x i).1 ≤ (i + l.length : Nat) ∧ -1 ≤ (wlGo kind l x i).1 := by
    intro l
    induction l with
    | nil =>
      intro x i
      unfold wlGo
      split <;> simp <;> omega
    | cons y r ih =>
      intro x i
      unfold wlGo
      split
      · simp; omega
      · have := ih y (i + 1)
        simp only [List.length_cons]
        omega
  have := H L zeroLine 0
  omega
theorem sp_getD {s : ByteArray} {k : Nat} (hk : k < nWords s) : (splits s).getD k default = cwAt s k := by
  simp [splits, List.getD_eq_getElem?_getD, hk]
set_option maxRecDepth 100000 in
set_option maxHeartbeats 4000000 in
theorem qParseMessage_any (s : ByteArray) (w : World) :
    Calls Tryz.prog 14 #[.string s] w fun e w' => PM 86 w.heap.size e w' (msgIs s) ∧ Below w.heap.size w w' := by
  obtain ⟨W0, HW0, hb0, MB0⟩ : ∃ W0, Hid (w.alloc (.cells #[.string ⟨#[]⟩, .string ⟨#[]⟩, .string ⟨#[]⟩, .int .i64 0, .slice none 0 0] 31) = W0) ∧ Below w.heap.size w W0 ∧ MB W0 w.heap.size zeroHead (.slice none 0 0) := ⟨_, Lib.hid rfl, below_alloc _ _, MB.new w zeroHead _ _⟩
  have HI : Hid (msgIs s = if 16384 < s.size then badM 0 26 else match pcs s with | [] => badM 0 28 | t :: ts => if qhOk t = true then msgGo (headWords (bareL t)) ts 1 [] else badM 0 25) := Lib.hid rfl
  generalize msgIs s = mi at *
  by_cases hsz : 16384 < s.size
  · have hb : (16384 : Int) < s.size := by omega
    have HE : Hid (mi = badM 0 26) := Lib.hid (by rw [HI.out, if_pos hsz])
    obtain ⟨t0, t1, t2, t3, t4⟩ := MB0.c
    simp only [zeroHead] at t0 t1 t2 t3 t4
    go_enter Tryz.func14, Tryz.ntmps14
    go_wp2_with fail
    rw [HW0.out]
    exact bodyPost_ret (v := .tuple #[.agg #[.string ⟨#[]⟩, .string ⟨#[]⟩, .string ⟨#[]⟩, .int .i64 0, .slice none 0 0], .int .i64 0, .int .i64 26]) (by simp [results, Tryz.results14, go_sem, t0, t1, t2, t3, t4]) rfl ⟨PM.bad HE.out, hb0⟩
  · have hb : ¬ (16384 : Int) < s.size := by omega
    have hpc := fun w => pieces_any s (by omega) w
    have HPS := Lib.hid (pcs_size s.size s (Nat.le_refl _))
    have HPL := Lib.hid (pcs_len s.size s (Nat.le_refl _))
    rw [if_neg hsz] at HI
    generalize pcs s = ps at *
    go_enter Tryz.func14, Tryz.ntmps14
    go_wp2_with fail
    rw [HW0.out]
    clear HW0
    refine (hpc _).mono ?_
    rintro e1 W1 ⟨⟨v, rfl, hown⟩, hb1⟩
    have MR := MB0.below hb1
    have hBR := b_then hb0 hb1
    clear hpc MB0 hb0 hb1
    cases hps : ps with
    | nil =>
      subst hps
      obtain ⟨A, c, rfl⟩ := (slArg_own (f := strC) (k := 1) (fun _ => rfl) (by decide) hown).len
      have HE : Hid (mi = badM 0 28) := HI
      obtain ⟨m0, m1, m2, m3, m4⟩ := MR.c
      simp only [zeroHead] at m0 m1 m2 m3 m4
      have e0 := MR.f 0 (by decide)
      have e1 := MR.f 1 (by decide)
      have e2 := MR.f 2 (by decide)
      have e3 := MR.f 3 (by decide)
      have e4 := MR.f 4 (by decide)
      go_wp2_with fail
      obtain ⟨Y, HY, hMY, hBY, -, -⟩ := put5 MR zeroHead (.string ⟨#[]⟩) (.string ⟨#[]⟩) (.string ⟨#[]⟩) (.int .i64 0) (.slice none 0 0) (.slice none 0 0) rfl (Nat.le_refl _) hBR
      rw [HY.out]
      obtain ⟨t0, t1, t2, t3, t4⟩ := hMY.c
      simp only [zeroHead] at t0 t1 t2 t3 t4
      exact bodyPost_ret (v := .tuple #[.agg #[.string ⟨#[]⟩, .string ⟨#[]⟩, .string ⟨#[]⟩, .int .i64 0, .slice none 0 0], .int .i64 (0), .int .i64 (28)]) (by simp [results, Tryz.results14, go_sem, t0, t1, t2, t3, t4]) rfl ⟨PM.bad HE.out, hBY⟩
    | cons t ts =>
      obtain ⟨g, c, rfl, hcs⟩ := str_cells hps hown
      have hl : ps.length = ts.length + 1 := by rw [hps]; rfl
      have hc0 := hcs 0 (by omega)
      rw [hps] at hc0
      simp only [List.getD_cons_zero] at hc0
      have hne : ((ps.length : Int) == 0) = false := by rw [beq_eq_false_iff_ne]; omega
      have hhd := fun w => qhead_any t (by have := HPS.out t (by rw [hps]; exact List.mem_cons_self); omega) w
      have b0 : (0 : Int) < ps.length := by omega
      go_wp2_with fail
      refine (hhd _).mono ?_
      rintro e2 W2 ⟨⟨hd, rfl, hok⟩, hb2⟩
      have MR2 := MR.below hb2
      have hBR2 := b_then hBR hb2
      have HCS : Hid (∀ k, k < ps.length → W2.cell? ⟨g, k, none⟩ = some (.string (ps.getD k default))) := Lib.hid fun k hk => b_old hb2 (hcs k hk)
      have hcg : g < W2.heap.size := cell_in (HCS.out 0 (by omega))
      clear MR hBR hb2 hhd hcs hc0 hown
      cases hq : qhOk t
      · have HE : Hid (mi = badM 0 25) := Lib.hid (by rw [HI.out, hps]; show (if qhOk t = true then _ else _) = _; rw [hq]; rfl)
        obtain ⟨kd, ap, sn, dy⟩ := hd
        simp only [HeadV.cells]
        obtain ⟨V, HV, hbV, MV⟩ : ∃ V, Hid (W2.alloc (.cells #[.string kd, .string ap, .string sn, .int .i64 dy, .slice none 0 0] 31) = V) ∧ Below W2.heap.size W2 V ∧ MB V W2.heap.size ⟨kd, ap, sn, dy⟩ (.slice none 0 0) := ⟨_, Lib.hid rfl, below_alloc _ _, MB.new W2 ⟨kd, ap, sn, dy⟩ (.slice none 0 0) _⟩
        have MR := MR2.below hbV
        have hBR := b_then hBR2 hbV
        rw [← HV.out] at MR hBR
        obtain ⟨m0, m1, m2, m3, m4⟩ := MR.c
        simp only [zeroHead] at m0 m1 m2 m3 m4
        have e0 := MR.f 0 (by decide)
        have e1 := MR.f 1 (by decide)
        have e2 := MR.f 2 (by decide)
        have e3 := MR.f 3 (by decide)
        have e4 := MR.f 4 (by decide)
        clear MR2 hBR2 HCS hcg MV hbV
        go_wp2_with fail
        obtain ⟨Y, HY, hMY, hBY, -, -⟩ := put5 MR zeroHead (.string ⟨#[]⟩) (.string ⟨#[]⟩) (.string ⟨#[]⟩) (.int .i64 0) (.slice none 0 0) (.slice none 0 0) rfl (Nat.le_refl _) hBR
        rw [HY.out]
        obtain ⟨t0, t1, t2, t3, t4⟩ := hMY.c
        simp only [zeroHead] at t0 t1 t2 t3 t4
        exact bodyPost_ret (v := .tuple #[.agg #[.string ⟨#[]⟩, .string ⟨#[]⟩, .string ⟨#[]⟩, .int .i64 0, .slice none 0 0], .int .i64 (0), .int .i64 (25)]) (by simp [results, Tryz.results14, go_sem, t0, t1, t2, t3, t4]) rfl ⟨PM.bad HE.out, hBY⟩
      · have hwd := hok hq
        subst hwd
        obtain ⟨hd, hhd⟩ : ∃ hd, hd = headWords (bareL t) := ⟨_, rfl⟩
        rw [← hhd]
        have HE : Hid (mi = msgGo hd ts 1 []) := Lib.hid (by rw [HI.out, hps]; show (if qhOk t = true then _ else _) = _; rw [hq, hhd]; rfl)
        have HKD : Hid (kindM hd.kind = true) := Lib.hid (by
          cases hk : kindM hd.kind with
          | true => rfl
          | false =>
            rw [hhd] at hk
            have := hd_kind (s := bareL t) hk
            unfold qhOk at hq
            rw [this] at hq
            simp at hq)
        clear hok hhd
        obtain ⟨kd, ap, sn, dy⟩ := hd
        simp only [HeadV.cells]
        obtain ⟨V, HV, hbV, MV⟩ : ∃ V, Hid (W2.alloc (.cells #[.string kd, .string ap, .string sn, .int .i64 dy, .slice none 0 0] 31) = V) ∧ Below W2.heap.size W2 V ∧ MB V W2.heap.size ⟨kd, ap, sn, dy⟩ (.slice none 0 0) := ⟨_, Lib.hid rfl, below_alloc _ _, MB.new W2 ⟨kd, ap, sn, dy⟩ (.slice none 0 0) _⟩
        go_wp2_with fail
        rw [HV.out]
        have HE2 : Hid (mi = msgGo ⟨kd, ap, sn, dy⟩ (ps.drop 1) 1 []) := Lib.hid (by rw [hps]; exact HE.out)
        have HMR : Hid (MB V w.heap.size zeroHead (.slice none 0 0)) := Lib.hid (MR2.below hbV)
        have HMB := Lib.hid MV
        have HB := Lib.hid (b_then hBR2 hbV)
        have HC : Hid (∀ k, k < ps.length → V.cell? ⟨g, k, none⟩ = some (.string (ps.getD k default))) := Lib.hid fun k hk => b_old hbV (HCS.out k hk)
        have hwb : w.heap.size < W2.heap.size := cell_in MR2.c.c0
        have hbv : W2.heap.size < V.heap.size := cell_in MV.c.c0
        generalize W2.heap.size = b6 at *
        clear HE HI hps HCS MR2 hBR2 MV hbV HV b0 hne hq
        go_loopw [3, 4, 8, 9, 10, 11, 12, 13, 14, 15, 16] (fun _ _ v8 _ _ _ _ _ _ _ _ wr => ∃ (i : Nat) (L : List LineV) (v : Value), v8 = .int .i64 i ∧ i ≤ ps.length ∧ Hid (i = L.length + 1 ∧ L.length ≤ 64 ∧ SzL L) ∧ Hid (mi = msgGo ⟨kd, ap, sn, dy⟩ (ps.drop i) i L) ∧ Hid (MB wr w.heap.size zeroHead (.slice none 0 0)) ∧ Hid (MB wr b6 ⟨kd, ap, sn, dy⟩ v) ∧ wr.ownsRow (b6 + 1) 86 14 v L.length (flatG LineV.cells L) ∧ Hid (∀ k, k < ps.length → wr.cell? ⟨g, k, none⟩ = some (.string (ps.getD k default))) ∧ Hid (Below w.heap.size w wr) ∧ b6 < wr.heap.size) (fun _ _ v8 _ _ _ _ _ _ _ _ _ => ps.length - (intOf v8).toNat)
        case atStart => exact ⟨1, [], .slice none 0 0, rfl, by omega, Lib.hid ⟨rfl, by simp, fun _ h => by cases h⟩, HE2, HMR, HMB, World.ownsRow_nil _ _ _ _, HC, HB, hbv⟩
        case round =>
          clear HE2 HMR HMB HB HC hbv
          obtain ⟨i, L, v, rfl, hi, HIL, HE, HMR, HMB, hown, HC, HB, hbw⟩ := hrel
          by_cases hlt : i < ps.length
          · have b1 : (i : Int) < ps.length := by omega
            have hc := HC.out i hlt
            have hd : ps.drop i = ps.getD i default :: ps.drop (i + 1) := by
              rw [List.drop_eq_getElem_cons hlt, List.getD_eq_getElem?_getD, List.getElem?_eq_getElem hlt]; rfl
            have hxs : (ps.getD i default).size ≤ 16384 := by
              rw [List.getD_eq_getElem?_getD, List.getElem?_eq_getElem hlt]
              have := HPS.out _ (List.getElem_mem hlt)
              simp only [Option.getD_some]; omega
            rw [hd] at HE
            generalize ps.getD i default = x at *
            have hen := fun w => ended_any x (by omega) w
            have hbs := bareL_size x
            go_wp2_with fail
            refine (hen _).mono ?_
            rintro e3 _ ⟨rfl, rfl⟩
            cases hwh : wholeB x
            · have HE' : Hid (mi = badM i 25) := Lib.hid (by rw [HE.out]; unfold msgGo; rw [if_pos hwh])
              have HE := HE'
              have MR := HMR.out
              have hBR := HB.out
              obtain ⟨m0, m1, m2, m3, m4⟩ := MR.c
              simp only [zeroHead] at m0 m1 m2 m3 m4
              have e0 := MR.f 0 (by decide)
              have e1 := MR.f 1 (by decide)
              have e2 := MR.f 2 (by decide)
              have e3 := MR.f 3 (by decide)
              have e4 := MR.f 4 (by decide)
              go_wp2_with fail
              obtain ⟨Y, HY, hMY, hBY, -, -⟩ := put5 MR zeroHead (.string ⟨#[]⟩) (.string ⟨#[]⟩) (.string ⟨#[]⟩) (.int .i64 0) (.slice none 0 0) (.slice none 0 0) rfl (Nat.le_refl _) hBR
              rw [HY.out]
              obtain ⟨t0, t1, t2, t3, t4⟩ := hMY.c
              simp only [zeroHead] at t0 t1 t2 t3 t4
              exact bodyPost_ret (v := .tuple #[.agg #[.string ⟨#[]⟩, .string ⟨#[]⟩, .string ⟨#[]⟩, .int .i64 0, .slice none 0 0], .int .i64 (i), .int .i64 (25)]) (by simp [results, Tryz.results14, go_sem, t0, t1, t2, t3, t4]) rfl ⟨PM.bad HE.out, hBY⟩
            · have hsp := fun w => split_any (bareL x) (by omega) w
              go_wp2_with fail
              refine (hsp _).mono ?_
              rintro e4 W3 ⟨⟨vv, rfl, hw⟩, hb3⟩
              obtain ⟨y, ys, hys⟩ : ∃ y ys, splits (bareL x) = y :: ys := by
                cases h : splits (bareL x) with
                | nil => have := congrArg List.length h; simp [splits, nWords] at this
                | cons y ys => exact ⟨y, ys, rfl⟩
              obtain ⟨gw, cw, rfl, hcw⟩ := str_cells hys hw
              have hl2 : (splits (bareL x)).length = nWords (bareL x) := by simp [splits]
              have hW := fun k (hk : k < nWords (bareL x)) => (hcw k (by omega)).trans (congrArg (fun z => some (Value.string z)) (sp_getD hk))
              have hn0 : 0 < nWords (bareL x) := by unfold nWords; omega
              have hw0 := hW 0 hn0
              have hiB : (i : Int) ≤ 20000 := by have := HPL.out; omega
              have hi1 : (1 : Int) ≤ i := by have := HIL.out.1; omega
              rw [hl2]
              have HMR3 := Lib.hid (HMR.out.below hb3)
              have HMB3 := Lib.hid (HMB.out.below hb3)
              have hown3 := pr_below hown hb3
              have HC3 : Hid (∀ k, k < ps.length → W3.cell? ⟨g, k, none⟩ = some (.string (ps.getD k default))) := Lib.hid fun k hk => b_old hb3 (HC.out k hk)
              have HB3 := Lib.hid (b_then HB.out hb3)
              have hbw3 : b6 < W3.heap.size := by have := hb3.size; omega
              clear HMR HMB hown HC HB hb3 hcw hw hys hc hen hsp
              generalize splits (bareL x) = spx at *
              cases hft : isFoot (bareL x)
              · have hE : ((cwAt (bareL x) 0).toList == [69, 78, 68]) = false := hft
                have hpl := fun w => qParseLine_any (bareL x) (by omega) w
                have HG : Hid (mi = if (if (lineIs (bareL x)).2.2 = 0 ∧ 64 < i then 5 else (lineIs (bareL x)).2.2) ≠ 0 then badM i (if (lineIs (bareL x)).2.2 = 0 ∧ 64 < i then 5 else (lineIs (bareL x)).2.2)
                    else msgGo ⟨kd, ap, sn, dy⟩ (ps.drop (i + 1)) (i + 1) (L ++ [(lineIs (bareL x)).1])) := Lib.hid (by rw [HE.out]; show (if wholeB x = false then _ else _) = _; rw [if_neg (by simp [hwh]), if_pos hft])
                have HSZ : Hid ((lineIs (bareL x)).1.act.size ≤ 20000 ∧ (lineIs (bareL x)).1.q.name.size ≤ 20000) := Lib.hid ⟨by have := (lineIs_size (bareL x)).1; omega, by have := (lineIs_size (bareL x)).2; omega⟩
                generalize lineIs (bareL x) = p at *
                obtain ⟨l, ati, er⟩ := p
                dsimp only at HG hpl
                go_wp2_with fail
                refine (hpl _).mono ?_
                rintro e5 W4 ⟨rfl, hb4⟩
                have hbw4 : b6 < W4.heap.size := by have := hb4.size; omega
                have MR4 := HMR3.out.below hb4
                have MB4 := HMB3.out.below hb4
                have hown4 := pr_below hown3 hb4
                have hB4 := b_then HB3.out hb4
                have HC4 : Hid (∀ k, k < ps.length → W4.cell? ⟨g, k, none⟩ = some (.string (ps.getD k default))) := Lib.hid fun k hk => b_old hb4 (HC3.out k hk)
                clear HMR3 HMB3 hown3 HB3 HC3 hb4 hpl hw0 hW
                obtain ⟨V4, HV4, hbV4, LV⟩ := line_new W4 l 86
                have hlc : l.cells = l.cells := rfl
                obtain ⟨act, ⟨name, carrier, kind, terminal, partner, link, fa, fb, d, m, sx, z, nn⟩⟩ := l
                obtain ⟨l0, l1, l2, l3, l4, l5, l6, l7, l8, l9, l10, l11, l12, l13⟩ := LV
                simp only [LineV.cells] at HV4 HG ⊢
                have MR := MR4.below hbV4
                have MBx := MB4.below hbV4
                have hBR := b_then hB4 hbV4
                have hownx := pr_below hown4 hbV4
                rw [← HV4.out] at MR MBx hBR hownx l0 l1 l2 l3 l4 l5 l6 l7 l8 l9 l10 l11 l12 l13
                obtain ⟨m0, m1, m2, m3, m4⟩ := MR.c
                simp only [zeroHead] at m0 m1 m2 m3 m4
                have e0 := MR.f 0 (by decide)
                have e1 := MR.f 1 (by decide)
                have e2 := MR.f 2 (by decide)
                have e3 := MR.f 3 (by decide)
                have e4 := MR.f 4 (by decide)
                by_cases her : er = 0
                · subst her
                  by_cases h64 : 64 < i
                  · have h64b : (64 : Int) < i := by omega
                    have HE : Hid (mi = badM i 5) := Lib.hid (by rw [HG.out]; simp [h64])
                    go_wp2_with fail
                    obtain ⟨Y, HY, hMY, hBY, -, -⟩ := put5 MR zeroHead (.string ⟨#[]⟩) (.string ⟨#[]⟩) (.string ⟨#[]⟩) (.int .i64 0) (.slice none 0 0) (.slice none 0 0) rfl (Nat.le_refl _) hBR
                    rw [HY.out]
                    obtain ⟨t0, t1, t2, t3, t4⟩ := hMY.c
                    simp only [zeroHead] at t0 t1 t2 t3 t4
                    exact bodyPost_ret (v := .tuple #[.agg #[.string ⟨#[]⟩, .string ⟨#[]⟩, .string ⟨#[]⟩, .int .i64 0, .slice none 0 0], .int .i64 (i), .int .i64 (5)]) (by simp [results, Tryz.results14, go_sem, t0, t1, t2, t3, t4]) rfl ⟨PM.bad HE.out, hBY⟩
                  · have h64b : ¬ (64 : Int) < i := by omega
                    have HNX : Hid (mi = msgGo ⟨kd, ap, sn, dy⟩ (ps.drop (i + 1)) (i + 1) (L ++ [⟨act, ⟨name, carrier, kind, terminal, partner, link, fa, fb, d, m, sx, z, nn⟩⟩])) := Lib.hid (by rw [HG.out]; simp [h64])
                    have HF : Hid (flatG LineV.cells (L ++ [⟨act, ⟨name, carrier, kind, terminal, partner, link, fa, fb, d, m, sx, z, nn⟩⟩]) = flatG LineV.cells L ++ [.string act, .string name, .string carrier, .string kind, .string terminal, .string partner, .string link, .int .i64 fa, .int .i64 fb, .int .i64 d, .int .i64 m, .int .i64 sx, .int .i64 z, .int .i64 nn]) := Lib.hid (flatG_snoc L _)
                    have hlen := flatG_len (f := LineV.cells) (k := 14) (fun _ => rfl) L
                    have HIN : Hid (i + 1 = (L ++ [⟨act, ⟨name, carrier, kind, terminal, partner, link, fa, fb, d, m, sx, z, nn⟩⟩] : List LineV).length + 1 ∧ (L ++ [⟨act, ⟨name, carrier, kind, terminal, partner, link, fa, fb, d, m, sx, z, nn⟩⟩] : List LineV).length ≤ 64 ∧ SzL (L ++ [⟨act, ⟨name, carrier, kind, terminal, partner, link, fa, fb, d, m, sx, z, nn⟩⟩])) := Lib.hid ⟨by have := HIL.out.1; simp; omega, by have := HIL.out.1; simp; omega, HIL.out.2.2.snoc HSZ.out⟩
                    have HLN : Hid ((L ++ [⟨act, ⟨name, carrier, kind, terminal, partner, link, fa, fb, d, m, sx, z, nn⟩⟩] : List LineV).length = L.length + 1) := Lib.hid (by simp)
                    have hL64 := HIL.out.2.1
                    obtain ⟨A, c', hv⟩ := (slArg_own (f := LineV.cells) (k := 14) (fun _ => rfl) (by decide) hownx).len
                    subst hv
                    obtain ⟨i0, hi0, hz0, hz1, hz2⟩ := OwnLns_info
                    generalize hLL : L ++ [⟨act, ⟨name, carrier, kind, terminal, partner, link, fa, fb, d, m, sx, z, nn⟩⟩] = LL at *
                    generalize flatG LineV.cells L = fl at *
                    obtain ⟨x0, x1, x2, x3, x4⟩ := MBx.c
                    have y4 := MBx.f 4 (by decide)
                    have hpb := pr_blk hownx
                    have HA := Lib.hid (hownx.alloc (.cells #[.string act, .string name, .string carrier, .string kind, .string terminal, .string partner, .string link, .int .i64 fa, .int .i64 fb, .int .i64 d, .int .i64 m, .int .i64 sx, .int .i64 z, .int .i64 nn] 86))
                    have HMX := Lib.hid MBx
                    have HMZ := Lib.hid MR
                    have HBX := Lib.hid hBR
                    have HCX : Hid (∀ k, k < ps.length → (W4.alloc (.cells #[.string act, .string name, .string carrier, .string kind, .string terminal, .string partner, .string link, .int .i64 fa, .int .i64 fb, .int .i64 d, .int .i64 m, .int .i64 sx, .int .i64 z, .int .i64 nn] 86)).cell? ⟨g, k, none⟩ = some (.string (ps.getD k default))) := Lib.hid fun k hk => b_old (below_alloc _ _) (HC4.out k hk)
                    have hszx : (W4.alloc (.cells #[.string act, .string name, .string carrier, .string kind, .string terminal, .string partner, .string link, .int .i64 fa, .int .i64 fb, .int .i64 d, .int .i64 m, .int .i64 sx, .int .i64 z, .int .i64 nn] 86)).heap.size = W4.heap.size + 1 := by simp
                    have HNB : Hid (((W4.alloc (.cells #[.string act, .string name, .string carrier, .string kind, .string terminal, .string partner, .string link, .int .i64 fa, .int .i64 fb, .int .i64 d, .int .i64 m, .int .i64 sx, .int .i64 z, .int .i64 nn] 86)).alloc (.cells #[.string act, .string name, .string carrier, .string kind, .string terminal, .string partner, .string link, .int .i64 fa, .int .i64 fb, .int .i64 d, .int .i64 m, .int .i64 sx, .int .i64 z, .int .i64 nn] 86)).heap[W4.heap.size + 1]? = some (.cells #[.string act, .string name, .string carrier, .string kind, .string terminal, .string partner, .string link, .int .i64 fa, .int .i64 fb, .int .i64 d, .int .i64 m, .int .i64 sx, .int .i64 z, .int .i64 nn] 86 (0, 0))) := Lib.hid (by
                      have h1 := heap_new (W4.alloc (.cells #[.string act, .string name, .string carrier, .string kind, .string terminal, .string partner, .string link, .int .i64 fa, .int .i64 fb, .int .i64 d, .int .i64 m, .int .i64 sx, .int .i64 z, .int .i64 nn] 86)) (.cells #[.string act, .string name, .string carrier, .string kind, .string terminal, .string partner, .string link, .int .i64 fa, .int .i64 fb, .int .i64 d, .int .i64 m, .int .i64 sx, .int .i64 z, .int .i64 nn] 86)
                      rwa [show (W4.alloc (.cells #[.string act, .string name, .string carrier, .string kind, .string terminal, .string partner, .string link, .int .i64 fa, .int .i64 fb, .int .i64 d, .int .i64 m, .int .i64 sx, .int .i64 z, .int .i64 nn] 86)).heap.size = W4.heap.size + 1 by simp] at h1)
                    clear hBR MR MBx hownx hown4 MR4 MB4 hB4 HC4 hbV4 HV4 HG HIL m0 m1 m2 m3 m4 e0 e1 e2 e3 e4
                    go_wp2_with (at_builtin; refine Hid.out ?_)
                    refine Lib.hid ?_
                    refine wpList_append_own _ rfl _ _ 29 rfl (b6 + 1) 86 i0 (.agg #[.string ⟨#[]⟩, .string ⟨#[]⟩, .string ⟨#[]⟩, .string ⟨#[]⟩, .string ⟨#[]⟩, .string ⟨#[]⟩, .string ⟨#[]⟩, .int .i64 0, .int .i64 0, .int .i64 0, .int .i64 0, .int .i64 0, .int .i64 0, .int .i64 0]) 14 168 Tryz.underlying29 hi0 hz0 hz1 hz2 rfl (by decide) _ L.length _ rfl HA.out ⟨W4.heap.size + 1, 0, none⟩ 1 1 [.string act, .string name, .string carrier, .string kind, .string terminal, .string partner, .string link, .int .i64 fa, .int .i64 fb, .int .i64 d, .int .i64 m, .int .i64 sx, .int .i64 z, .int .i64 nn] rfl rfl
                      (World.news_of_block (cs := #[.string act, .string name, .string carrier, .string kind, .string terminal, .string partner, .string link, .int .i64 fa, .int .i64 fb, .int .i64 d, .int .i64 m, .int .i64 sx, .int .i64 z, .int .i64 nn]) (t := 86) (fr := (0, 0)) HNB.out) (by simp [Value.oneCell']) (by unfold maxLen; omega) (by omega) (by simp; omega) ?_
                    intro v' w5 hown' hgrow _
                    obtain ⟨g', cp', rfl⟩ := ownsRow_succ hown'
                    replace hown' : w5.ownsRow (b6 + 1) 86 14 (.slice (some ⟨g', 0, none⟩) (L.length + 1) cp') LL.length (flatG LineV.cells LL) := by rw [HLN.out, HF.out]; exact hown'
                    have hk6 : ∀ b, b ≤ b6 → w5.heap[b]? = ((W4.alloc (.cells #[.string act, .string name, .string carrier, .string kind, .string terminal, .string partner, .string link, .int .i64 fa, .int .i64 fb, .int .i64 d, .int .i64 m, .int .i64 sx, .int .i64 z, .int .i64 nn] 86)).alloc (.cells #[.string act, .string name, .string carrier, .string kind, .string terminal, .string partner, .string link, .int .i64 fa, .int .i64 fb, .int .i64 d, .int .i64 m, .int .i64 sx, .int .i64 z, .int .i64 nn] 86)).heap[b]? := fun b hb => hgrow.block b (by simp; omega) (fun e => by have := hpb b e.symm; omega)
                    have hs5 := hgrow.size
                    have hb5 : b6 < w5.heap.size := by simp at hs5; omega
                    have MB5 := (HMX.out.below (below_alloc _ (.cells #[.string act, .string name, .string carrier, .string kind, .string terminal, .string partner, .string link, .int .i64 fa, .int .i64 fb, .int .i64 d, .int .i64 m, .int .i64 sx, .int .i64 z, .int .i64 nn] 86))).of (hk6 b6 (Nat.le_refl _))
                    have MR5 := (HMZ.out.below (below_alloc _ (.cells #[.string act, .string name, .string carrier, .string kind, .string terminal, .string partner, .string link, .int .i64 fa, .int .i64 fb, .int .i64 d, .int .i64 m, .int .i64 sx, .int .i64 z, .int .i64 nn] 86))).of (hk6 w.heap.size (by omega))
                    have z4 := MB5.c.c4
                    have zf := MB5.f 4 (by decide)
                    have HMB6 := Lib.hid (MB5.set4 (.slice (some ⟨g', 0, none⟩) (L.length + 1) cp'))
                    have HMR6 := Lib.hid (MR5.set_off (c := b6) (o := 4) (by omega) (.slice (some ⟨g', 0, none⟩) (L.length + 1) cp'))
                    have HOW6 := Lib.hid (ownsRow_setCell_below (a := ⟨b6, 4, none⟩) hown' (by show b6 < b6 + 1; omega) (.slice (some ⟨g', 0, none⟩) (L.length + 1) cp'))
                    have HC6 : Hid (∀ k, k < ps.length → (w5.setCell ⟨b6, 4, none⟩ (.slice (some ⟨g', 0, none⟩) (L.length + 1) cp')).cell? ⟨g, k, none⟩ = some (.string (ps.getD k default))) := Lib.hid fun k hk => set_other ((cell_of_blk (hk6 g (by omega))).trans (b_old (below_alloc _ _) (HCX.out k hk))) (by intro e; have h := congrArg Addr.block e; simp only at h; omega)
                    have HB6 : Hid (Below w.heap.size w (w5.setCell ⟨b6, 4, none⟩ (.slice (some ⟨g', 0, none⟩) (L.length + 1) cp'))) := Lib.hid (((b_then HBX.out (below_alloc _ _)).grown hgrow (by simp; omega) (fun r e => by have := hpb r e; omega)).setCell (p := ⟨b6, 4, none⟩) (by show w.heap.size ≤ b6; omega) _)
                    have HS6 : Hid (b6 < (w5.setCell ⟨b6, 4, none⟩ (.slice (some ⟨g', 0, none⟩) (L.length + 1) cp')).heap.size) := Lib.hid (by rw [set_size]; exact hb5)
                    clear hgrow hown' hs5 hb5 MB5 MR5 HMX HMZ HBX HCX HA HNB hk6 x0 x1 x2 x3 x4 y4 hpb hL64 hlen
                    go_wp2_with fail
                    go_roundw
                    case rel => exact ⟨i + 1, LL, _, by go_num, by omega, HIN, HNX, HMR6, HMB6, HOW6.out, HC6, HB6, HS6.out⟩
                    case measure => simp [intOf]; omega
                · have herb : (er == 0) = false := by simpa using her
                  have HE : Hid (mi = badM i er) := Lib.hid (by rw [HG.out]; simp [her])
                  go_wp2_with fail
                  obtain ⟨Y, HY, hMY, hBY, -, -⟩ := put5 MR zeroHead (.string ⟨#[]⟩) (.string ⟨#[]⟩) (.string ⟨#[]⟩) (.int .i64 0) (.slice none 0 0) (.slice none 0 0) rfl (Nat.le_refl _) hBR
                  rw [HY.out]
                  obtain ⟨t0, t1, t2, t3, t4⟩ := hMY.c
                  simp only [zeroHead] at t0 t1 t2 t3 t4
                  exact bodyPost_ret (v := .tuple #[.agg #[.string ⟨#[]⟩, .string ⟨#[]⟩, .string ⟨#[]⟩, .int .i64 0, .slice none 0 0], .int .i64 (i), .int .i64 (er)]) (by simp [results, Tryz.results14, go_sem, t0, t1, t2, t3, t4]) rfl ⟨PM.bad HE.out, hBY⟩
              · have hE : ((cwAt (bareL x) 0).toList == [69, 78, 68]) = true := hft
                have hE' : (cwAt (bareL x) 0).toList = [69, 78, 68] := by simpa using hE
                have HG : Hid (mi = if nWords (bareL x) ≠ 2 ∨ qNumK (cwAt (bareL x) 1) 2 < 0 then badM i 25 else if qNumK (cwAt (bareL x) 1) 2 ≠ (i : Int) - 1 then badM i 27 else if ps.drop (i + 1) ≠ [] then badM ((i : Int) + 1) 25 else closeM ⟨kd, ap, sn, dy⟩ L) := Lib.hid (by rw [HE.out]; unfold msgGo; rw [if_neg (by simp [hwh]), if_neg (by simp [hft])])
                by_cases h2 : nWords (bareL x) = 2
                · have h2b : (((nWords (bareL x) : Nat) : Int) != 2) = false := by rw [h2]; rfl
                  have hw1 := hW 1 (by omega)
                  have hdg : ∀ W, Calls Tryz.prog 59 #[.string (cwAt (bareL x) 1), .int .i64 (2 : Nat)] W fun e w' => e = .returned (.int .i64 (qNumK (cwAt (bareL x) 1) 2)) ∧ w' = W := fun W => qdigitsK_any (cwAt (bareL x) 1) 2 (by decide) (by decide) W
                  generalize qNumK (cwAt (bareL x) 1) 2 = q at *
                  clear hW
                  go_wp2_with fail
                  refine (hdg _).mono ?_
                  rintro e5 W5 ⟨rfl, hw5⟩
                  obtain rfl := hw5.symm
                  by_cases hq0 : q < 0
                  · have HE : Hid (mi = badM i 25) := Lib.hid (by rw [HG.out, if_pos (.inr hq0)])
                    have MR := HMR3.out
                    have hBR := HB3.out
                    obtain ⟨m0, m1, m2, m3, m4⟩ := MR.c
                    simp only [zeroHead] at m0 m1 m2 m3 m4
                    have e0 := MR.f 0 (by decide)
                    have e1 := MR.f 1 (by decide)
                    have e2 := MR.f 2 (by decide)
                    have e3 := MR.f 3 (by decide)
                    have e4 := MR.f 4 (by decide)
                    go_wp2_with fail
                    obtain ⟨Y, HY, hMY, hBY, -, -⟩ := put5 MR zeroHead (.string ⟨#[]⟩) (.string ⟨#[]⟩) (.string ⟨#[]⟩) (.int .i64 0) (.slice none 0 0) (.slice none 0 0) rfl (Nat.le_refl _) hBR
                    rw [HY.out]
                    obtain ⟨t0, t1, t2, t3, t4⟩ := hMY.c
                    simp only [zeroHead] at t0 t1 t2 t3 t4
                    exact bodyPost_ret (v := .tuple #[.agg #[.string ⟨#[]⟩, .string ⟨#[]⟩, .string ⟨#[]⟩, .int .i64 0, .slice none 0 0], .int .i64 (i), .int .i64 (25)]) (by simp [results, Tryz.results14, go_sem, t0, t1, t2, t3, t4]) rfl ⟨PM.bad HE.out, hBY⟩
                  · go_wp2_with fail
                    refine (hdg _).mono ?_
                    rintro e6 W6 ⟨rfl, hw6⟩
                    obtain rfl := hw6.symm
                    by_cases hqi : q = (i : Int) - 1
                    · have hqb : (q != (i : Int) - 1) = false := by simp [hqi]
                      by_cases hn1 : i + 1 < ps.length
                      · have hn1b : (i : Int) + 1 < ps.length := by omega
                        have HE : Hid (mi = badM ((i : Int) + 1) 25) := Lib.hid (by
                          rw [HG.out, if_neg (by omega), if_neg (by simp [hqi]), if_pos]
                          intro e
                          have := List.drop_eq_nil_iff.1 e
                          omega)
                        have MR := HMR3.out
                        have hBR := HB3.out
                        obtain ⟨m0, m1, m2, m3, m4⟩ := MR.c
                        simp only [zeroHead] at m0 m1 m2 m3 m4
                        have e0 := MR.f 0 (by decide)
                        have e1 := MR.f 1 (by decide)
                        have e2 := MR.f 2 (by decide)
                        have e3 := MR.f 3 (by decide)
                        have e4 := MR.f 4 (by decide)
                        go_wp2_with fail
                        obtain ⟨Y, HY, hMY, hBY, -, -⟩ := put5 MR zeroHead (.string ⟨#[]⟩) (.string ⟨#[]⟩) (.string ⟨#[]⟩) (.int .i64 0) (.slice none 0 0) (.slice none 0 0) rfl (Nat.le_refl _) hBR
                        rw [HY.out]
                        obtain ⟨t0, t1, t2, t3, t4⟩ := hMY.c
                        simp only [zeroHead] at t0 t1 t2 t3 t4
                        exact bodyPost_ret (v := .tuple #[.agg #[.string ⟨#[]⟩, .string ⟨#[]⟩, .string ⟨#[]⟩, .int .i64 0, .slice none 0 0], .int .i64 ((i : Int) + 1), .int .i64 (25)]) (by simp [results, Tryz.results14, go_sem, t0, t1, t2, t3, t4]) rfl ⟨PM.bad HE.out, hBY⟩
                      · have hn1b : ¬ (i : Int) + 1 < ps.length := by omega
                        have HEC : Hid (mi = closeM ⟨kd, ap, sn, dy⟩ L) := Lib.hid (by
                          rw [HG.out, if_neg (by omega), if_neg (by simp [hqi]), if_neg]
                          simp only [ne_eq, Decidable.not_not]
                          exact List.drop_eq_nil_of_le (by omega))
                        have hLA := lnArg_sl (slArg_own (f := LineV.cells) (k := 14) (fun _ => rfl) (by decide) hown3) HIL.out.2.2
                        have hcl := fun W (hW : Below W3.heap.size W3 W) => refLines_arg kd L v W3 W hLA hW (by have := HIL.out.2.1; omega) HKD.out
                        have MB3 := HMB3.out
                        obtain ⟨x0, x1, x2, x3, x4⟩ := MB3.c
                        dsimp only at x0 x1 x2 x3 x4
                        have HCM : Hid (closeM ⟨kd, ap, sn, dy⟩ L = if (wlGo kd L zeroLine 0).2 ≠ 0 then badM ((wlGo kd L zeroLine 0).1 + 1) (wlGo kd L zeroLine 0).2 else ((⟨kd, ap, sn, dy⟩, L), 0, 0)) := Lib.hid rfl
                        have HWL : Hid ((wlGo kd L zeroLine 0).1 ≤ 1000 ∧ -1000 ≤ (wlGo kd L zeroLine 0).1) := Lib.hid (wl_bd kd L (by have := HIL.out.2.1; omega))
                        generalize wlGo kd L zeroLine 0 = P at *
                        go_wp2_with fail
                        refine (hcl _ (Below.refl _ _)).mono ?_
                        rintro e7 W7 ⟨rfl, hb7⟩
                        have MR := HMR3.out.below hb7
                        have hBR := b_then HB3.out hb7
                        have MB7 := HMB3.out.below hb7
                        have hown7 := pr_below hown3 hb7
                        have hwl1 := HWL.out.1
                        have hwl2 := HWL.out.2
                        clear x0 x1 x2 x3 x4 hcl hLA MB3
                        obtain ⟨m0, m1, m2, m3, m4⟩ := MR.c
                        simp only [zeroHead] at m0 m1 m2 m3 m4
                        have e0 := MR.f 0 (by decide)
                        have e1 := MR.f 1 (by decide)
                        have e2 := MR.f 2 (by decide)
                        have e3 := MR.f 3 (by decide)
                        have e4 := MR.f 4 (by decide)
                        by_cases hz : P.2 = 0
                        · have hzb : (P.2 != 0) = false := by simp [hz]
                          have HE : Hid (mi = ((⟨kd, ap, sn, dy⟩, L), 0, 0)) := Lib.hid (by rw [HEC.out, HCM.out, if_neg (by simp [hz])])
                          obtain ⟨x0, x1, x2, x3, x4⟩ := MB7.c
                          dsimp only at x0 x1 x2 x3 x4
                          obtain ⟨A, c', hv⟩ := (slArg_own (f := LineV.cells) (k := 14) (fun _ => rfl) (by decide) hown7).len
                          subst hv
                          go_wp2_with fail
                          obtain ⟨Y, HY, hMY, hBY, -, -⟩ := put5 MR ⟨kd, ap, sn, dy⟩ (.string kd) (.string ap) (.string sn) (.int .i64 dy) (.slice A L.length c') (.slice A L.length c') rfl (Nat.le_refl _) hBR
                          have hownY := own_less (ownsRow_setCell_below (a := ⟨w.heap.size, 4, none⟩) (ownsRow_setCell_below (a := ⟨w.heap.size, 3, none⟩) (ownsRow_setCell_below (a := ⟨w.heap.size, 2, none⟩) (ownsRow_setCell_below (a := ⟨w.heap.size, 1, none⟩) (ownsRow_setCell_below (a := ⟨w.heap.size, 0, none⟩) hown7 (by show w.heap.size < b6 + 1; omega) (.string kd)) (by show w.heap.size < b6 + 1; omega) (.string ap)) (by show w.heap.size < b6 + 1; omega) (.string sn)) (by show w.heap.size < b6 + 1; omega) (.int .i64 dy)) (by show w.heap.size < b6 + 1; omega) (.slice A L.length c')) (show w.heap.size ≤ b6 + 1 by omega)
                          rw [HY.out] at hownY ⊢
                          obtain ⟨t0, t1, t2, t3, t4⟩ := hMY.c
                          dsimp only at t0 t1 t2 t3 t4
                          exact bodyPost_ret (v := .tuple #[.agg #[.string kd, .string ap, .string sn, .int .i64 dy, .slice A L.length c'], .int .i64 0, .int .i64 0]) (by simp [results, Tryz.results14, go_sem, t0, t1, t2, t3, t4]) rfl ⟨by rw [HE.out]; exact ⟨_, rfl, hownY⟩, hBY⟩
                        · have hzb : (P.2 != 0) = true := by simpa using hz
                          have HE : Hid (mi = badM (P.1 + 1) P.2) := Lib.hid (by rw [HEC.out, HCM.out, if_pos (by simpa using hz)])
                          go_wp2_with fail
                          obtain ⟨Y, HY, hMY, hBY, -, -⟩ := put5 MR zeroHead (.string ⟨#[]⟩) (.string ⟨#[]⟩) (.string ⟨#[]⟩) (.int .i64 0) (.slice none 0 0) (.slice none 0 0) rfl (Nat.le_refl _) hBR
                          rw [HY.out]
                          obtain ⟨t0, t1, t2, t3, t4⟩ := hMY.c
                          simp only [zeroHead] at t0 t1 t2 t3 t4
                          exact bodyPost_ret (v := .tuple #[.agg #[.string ⟨#[]⟩, .string ⟨#[]⟩, .string ⟨#[]⟩, .int .i64 0, .slice none 0 0], .int .i64 (P.1 + 1), .int .i64 (P.2)]) (by simp [results, Tryz.results14, go_sem, t0, t1, t2, t3, t4]) rfl ⟨PM.bad HE.out, hBY⟩
                    · have hqb : (q != (i : Int) - 1) = true := by rw [bne_iff_ne]; exact hqi
                      have HE : Hid (mi = badM i 27) := Lib.hid (by rw [HG.out, if_neg (by omega), if_pos hqi])
                      have MR := HMR3.out
                      have hBR := HB3.out
                      obtain ⟨m0, m1, m2, m3, m4⟩ := MR.c
                      simp only [zeroHead] at m0 m1 m2 m3 m4
                      have e0 := MR.f 0 (by decide)
                      have e1 := MR.f 1 (by decide)
                      have e2 := MR.f 2 (by decide)
                      have e3 := MR.f 3 (by decide)
                      have e4 := MR.f 4 (by decide)
                      go_wp2_with fail
                      obtain ⟨Y, HY, hMY, hBY, -, -⟩ := put5 MR zeroHead (.string ⟨#[]⟩) (.string ⟨#[]⟩) (.string ⟨#[]⟩) (.int .i64 0) (.slice none 0 0) (.slice none 0 0) rfl (Nat.le_refl _) hBR
                      rw [HY.out]
                      obtain ⟨t0, t1, t2, t3, t4⟩ := hMY.c
                      simp only [zeroHead] at t0 t1 t2 t3 t4
                      exact bodyPost_ret (v := .tuple #[.agg #[.string ⟨#[]⟩, .string ⟨#[]⟩, .string ⟨#[]⟩, .int .i64 0, .slice none 0 0], .int .i64 (i), .int .i64 (27)]) (by simp [results, Tryz.results14, go_sem, t0, t1, t2, t3, t4]) rfl ⟨PM.bad HE.out, hBY⟩
                · have h2b : (((nWords (bareL x) : Nat) : Int) != 2) = true := by rw [bne_iff_ne]; omega
                  have HE : Hid (mi = badM i 25) := Lib.hid (by rw [HG.out, if_pos (.inl h2)])
                  have MR := HMR3.out
                  have hBR := HB3.out
                  obtain ⟨m0, m1, m2, m3, m4⟩ := MR.c
                  simp only [zeroHead] at m0 m1 m2 m3 m4
                  have e0 := MR.f 0 (by decide)
                  have e1 := MR.f 1 (by decide)
                  have e2 := MR.f 2 (by decide)
                  have e3 := MR.f 3 (by decide)
                  have e4 := MR.f 4 (by decide)
                  clear hW h2
                  go_wp2_with fail
                  obtain ⟨Y, HY, hMY, hBY, -, -⟩ := put5 MR zeroHead (.string ⟨#[]⟩) (.string ⟨#[]⟩) (.string ⟨#[]⟩) (.int .i64 0) (.slice none 0 0) (.slice none 0 0) rfl (Nat.le_refl _) hBR
                  rw [HY.out]
                  obtain ⟨t0, t1, t2, t3, t4⟩ := hMY.c
                  simp only [zeroHead] at t0 t1 t2 t3 t4
                  exact bodyPost_ret (v := .tuple #[.agg #[.string ⟨#[]⟩, .string ⟨#[]⟩, .string ⟨#[]⟩, .int .i64 0, .slice none 0 0], .int .i64 (i), .int .i64 (25)]) (by simp [results, Tryz.results14, go_sem, t0, t1, t2, t3, t4]) rfl ⟨PM.bad HE.out, hBY⟩
          · obtain rfl : i = ps.length := by omega
            have b1 : ¬ (ps.length : Int) < ps.length := by omega
            have HE' : Hid (mi = badM ((ts.length : Int) + 1) 28) := Lib.hid (by rw [HE.out, List.drop_length, hl]; rfl)
            have HE := HE'
            have MR := HMR.out
            have hBR := HB.out
            obtain ⟨m0, m1, m2, m3, m4⟩ := MR.c
            simp only [zeroHead] at m0 m1 m2 m3 m4
            have e0 := MR.f 0 (by decide)
            have e1 := MR.f 1 (by decide)
            have e2 := MR.f 2 (by decide)
            have e3 := MR.f 3 (by decide)
            have e4 := MR.f 4 (by decide)
            go_wp2_with fail
            obtain ⟨Y, HY, hMY, hBY, -, -⟩ := put5 MR zeroHead (.string ⟨#[]⟩) (.string ⟨#[]⟩) (.string ⟨#[]⟩) (.int .i64 0) (.slice none 0 0) (.slice none 0 0) rfl (Nat.le_refl _) hBR
            rw [HY.out]
            obtain ⟨t0, t1, t2, t3, t4⟩ := hMY.c
            simp only [zeroHead] at t0 t1 t2 t3 t4
            exact bodyPost_ret (v := .tuple #[.agg #[.string ⟨#[]⟩, .string ⟨#[]⟩, .string ⟨#[]⟩, .int .i64 0, .slice none 0 0], .int .i64 ((ts.length : Int) + 1), .int .i64 (28)]) (by simp [results, Tryz.results14, go_sem, t0, t1, t2, t3, t4]) rfl ⟨PM.bad HE.out, hBY⟩
end Go.Proofs.YtphoclgibnhjfaaGreat
