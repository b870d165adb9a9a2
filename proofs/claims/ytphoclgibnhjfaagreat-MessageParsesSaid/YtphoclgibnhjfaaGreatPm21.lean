/- Contract of the reference's head, for every line of text. -/
import Derived.Test.YtphoclgibnhjfaaGreatPm18
import Derived.Test.YtphoclgibnhjfaaGreatPm19
import Derived.Test.YtphoclgibnhjfaaGreatPm20
namespace Go.Proofs.YtphoclgibnhjfaaGreat
open Go Go.RowKit Go.ChangeMaps Go.MapKept
theorem hd_same {s : ByteArray} (h5 : nWords s = 5) (h0 : ((cwAt s 0).toList == [83, 76, 79, 84, 83]) = true) (hk : kindM (cwAt s 1) = true) : (hdErr (cwAt s 2) (cwAt s 3) (qNumK (cwAt s 4) 5) == 0) = headOk s := by
  have e : headErr (headWords s) = hdErr (cwAt s 2) (cwAt s 3) (headWords s).day := by
    show fst [unl (kindM (cwAt s 1)) 13, nameE (cwAt s 2), unl (seasonB (cwAt s 3)) 1, rng (headWords s).day 0 99999] = _
    rw [hk]; rfl
  unfold headOk
  rw [h5, h0, e]
  by_cases h : allK (cwAt s 4) 5
  · have e2 : qNumK (cwAt s 4) 5 = (headWords s).day := by
      unfold qNumK headWords; rw [if_pos h]; exact (if_pos h).symm
    rw [e2, decide_eq_true h]; rfl
  · have e2 : qNumK (cwAt s 4) 5 = -1 := by unfold qNumK; rw [if_neg h]
    rw [e2, decide_eq_false h]
    have e3 : rng (-1) 0 99999 = 3 := rfl
    have e4 : hdErr (cwAt s 2) (cwAt s 3) (-1) ≠ 0 := by
      unfold hdErr
      rw [e3]
      simp only [fst]
      split
      · split
        · decide
        · assumption
      · assumption
    rw [beq_eq_false_iff_ne.2 e4]; rfl
theorem hd_day {s : ByteArray} (h : headOk s = true) : qNumK (cwAt s 4) 5 = (headWords s).day := by
  unfold headOk at h
  simp only [Bool.and_eq_true, decide_eq_true_eq] at h
  unfold qNumK headWords
  rw [if_pos h.2.1]; exact (if_pos h.2.1).symm
theorem hd_words {s : ByteArray} (h5 : nWords s ≠ 5) : headOk s = false := by unfold headOk; rw [decide_eq_false h5]; rfl
theorem hd_slots {s : ByteArray} (h0 : ((cwAt s 0).toList == [83, 76, 79, 84, 83]) = false) : headOk s = false := by unfold headOk; rw [h0]; simp
theorem hd_kind {s : ByteArray} (hk : kindM (cwAt s 1) = false) : headOk s = false := by
  unfold headOk
  have e : headErr (headWords s) = 13 := by
    show fst [unl (kindM (cwAt s 1)) 13, nameE (cwAt s 2), unl (seasonB (cwAt s 3)) 1, rng (headWords s).day 0 99999] = _
    rw [hk]; rfl
  rw [e]; simp
theorem ws5_of {w : World} {base : Nat} {v : Value} {s : ByteArray} (h5 : nWords s = 5) (h : w.ownsRow base 9 1 v (splits s).length (flatG strC (splits s))) : ∃ g c, v = .slice (some ⟨g, 0, none⟩) 5 c ∧ ∀ k, k < 5 → w.cell? ⟨g, k, none⟩ = some (.string (cwAt s k)) := by
  have hl : (splits s).length = 4 + 1 := by simp [splits, h5]
  have h' := h
  rw [hl] at h'
  obtain ⟨g, c, rfl⟩ := ownsRow_succ h'
  refine ⟨g, c, rfl, fun k hk => ?_⟩
  have e : w.cell? ⟨g, k * 1 + 0, none⟩ = (flatG strC (splits s))[k * 1 + 0]? := h'.cellAt _ (by omega)
  rw [flatG_at (k := 1) (fun _ => rfl) _ k 0 (by omega) (by decide)] at e
  rw [Nat.mul_one, Nat.add_zero] at e
  rw [e]
  simp [strC, splits, h5, hk, List.getD_eq_getElem?_getD]
theorem mb_block {w : World} {A : Nat} {T : TypeId} (hb : w.heap[A]? = some (.cells #[.string ⟨#[]⟩, .string ⟨#[]⟩, .string ⟨#[]⟩, .int .i64 0, .slice none 0 0] T)) : MB w A zeroHead (.slice none 0 0) :=
  ⟨⟨(blockG _ hb 0 _ rfl).1, (blockG _ hb 1 _ rfl).1, (blockG _ hb 2 _ rfl).1, (blockG _ hb 3 _ rfl).1, (blockG _ hb 4 _ rfl).1⟩, fun t ht => by
    match t, ht with
    | 0, _ => exact (blockG _ hb 0 _ rfl).2
    | 1, _ => exact (blockG _ hb 1 _ rfl).2
    | 2, _ => exact (blockG _ hb 2 _ rfl).2
    | 3, _ => exact (blockG _ hb 3 _ rfl).2
    | 4, _ => exact (blockG _ hb 4 _ rfl).2⟩
/-- The reference takes a line of text for a header. -/
def qhOk (s : ByteArray) : Bool := wholeB s && headOk (bareL s)
structure QHead (s : ByteArray) (e : Ending) : Prop where
  ex : ∃ h : HeadV, e = .returned (.tuple #[.agg (h.cells (.slice none 0 0)), .bool (qhOk s)]) ∧ (qhOk s = true → h = headWords (bareL s))
theorem bareL_size (s : ByteArray) : (bareL s).size ≤ s.size := by
  unfold bareL
  split
  · simp [ByteArray.size_extract]
  · exact Nat.le_refl _
set_option maxRecDepth 100000 in
set_option maxHeartbeats 4000000 in
theorem qhead_any (s : ByteArray) (hs : s.size ≤ 100000) (w : World) :
    Calls Tryz.prog 55 #[.string s] w fun e w' => QHead s e ∧ Below w.heap.size w w' := by
  have hen := fun w => ended_any s hs w
  have hsp := fun w => split_any (bareL s) (Nat.le_trans (bareL_size s) hs) w
  have HQ : Hid (qhOk s = (wholeB s && headOk (bareL s))) := Lib.hid rfl
  have HE : Hid (∀ (e : Ending) (h : HeadV), e = .returned (.tuple #[.agg (h.cells (.slice none 0 0)), .bool (qhOk s)]) → (qhOk s = true → h = headWords (bareL s)) → QHead s e) := Lib.hid fun e h h1 h2 => ⟨h, h1, h2⟩
  obtain ⟨W0, HW0, hb0, MB0⟩ : ∃ W0, Hid (w.alloc (.cells #[.string ⟨#[]⟩, .string ⟨#[]⟩, .string ⟨#[]⟩, .int .i64 0, .slice none 0 0] 31) = W0) ∧ Below w.heap.size w W0 ∧ MB W0 w.heap.size zeroHead (.slice none 0 0) := ⟨_, Lib.hid rfl, below_alloc _ _, MB.new w zeroHead _ _⟩
  generalize bareL s = t at *
  generalize wholeB s = wh at *
  generalize qhOk s = ok at *
  go_enter Tryz.func55, Tryz.ntmps55
  go_wp2_with fail
  rw [HW0.out]
  clear HW0
  go_wp2_with fail
  refine (hen _).mono ?_
  rintro e1 _ ⟨rfl, rfl⟩
  go_wp2_with fail
  refine (hsp _).mono ?_
  rintro e2 W1 ⟨⟨v, rfl, hown⟩, hb1⟩
  have M1 := MB0.below hb1
  have hB1 := b_then hb0 hb1
  clear hen hsp MB0 hb0 hb1
  have bad : ok = false → ∀ (fr : Act), True := fun _ _ => trivial
  clear bad
  obtain ⟨m0, m1, m2, m3, m4⟩ := M1.c
  simp only [zeroHead] at m0 m1 m2 m3 m4
  have e0 := M1.f 0 (by decide)
  have e1 := M1.f 1 (by decide)
  have e2 := M1.f 2 (by decide)
  have e3 := M1.f 3 (by decide)
  have e4 := M1.f 4 (by decide)
  by_cases h5 : nWords t = 5
  · have h5b : ((5 : Int) != 5) = false := rfl
    obtain ⟨g, c, rfl, hws⟩ := ws5_of h5 hown
    have w0 := hws 0 (by decide)
    have w1 := hws 1 (by decide)
    have w2 := hws 2 (by decide)
    have w3 := hws 3 (by decide)
    have w4 := hws 4 (by decide)
    have HK : Hid (kindM (cwAt t 1) = ((cwAt t 1).toList == [82, 69, 81] || (cwAt t 1).toList == [65, 78, 83])) := Lib.hid rfl
    have HSL : Hid (((cwAt t 0).toList == [83, 76, 79, 84, 83]) = false → headOk t = false) := Lib.hid hd_slots
    have HKD : Hid (kindM (cwAt t 1) = false → headOk t = false) := Lib.hid hd_kind
    have HSM : Hid (((cwAt t 0).toList == [83, 76, 79, 84, 83]) = true → kindM (cwAt t 1) = true → (hdErr (cwAt t 2) (cwAt t 3) (qNumK (cwAt t 4) 5) == 0) = headOk t) := Lib.hid (hd_same h5)
    have HDY : Hid (headOk t = true → (⟨cwAt t 1, cwAt t 2, cwAt t 3, qNumK (cwAt t 4) 5⟩ : HeadV) = headWords t) := Lib.hid fun h => by rw [hd_day h]; rfl
    have hd : ∀ W, Calls Tryz.prog 59 #[.string (cwAt t 4), .int .i64 (5 : Nat)] W fun e w' => e = .returned (.int .i64 (qNumK (cwAt t 4) 5)) ∧ w' = W := fun W => qdigitsK_any (cwAt t 4) 5 (by decide) (by decide) W
    have hck := fun W => qCheckHead_any (cwAt t 2) (cwAt t 3) (qNumK (cwAt t 4) 5) W
    generalize hdErr (cwAt t 2) (cwAt t 3) (qNumK (cwAt t 4) 5) = he at *
    generalize qNumK (cwAt t 4) 5 = dn at *
    generalize headOk t = ho at *
    generalize cwAt t 0 = c0 at *
    generalize cwAt t 1 = c1 at *
    generalize cwAt t 2 = c2 at *
    generalize cwAt t 3 = c3 at *
    generalize cwAt t 4 = c4 at *
    generalize kindM c1 = kb at *
    generalize splits t = sp at *
    clear hown hws h5
    cases wh
    · have HF : Hid (ok = false) := Lib.hid (by rw [HQ.out]; simp)
      clear hck hd
      go_wp2_with fail
      obtain ⟨Y, HY, hMY, hBY, hblk, -⟩ := put5 M1 zeroHead (.string ⟨#[]⟩) (.string ⟨#[]⟩) (.string ⟨#[]⟩) (.int .i64 0) (.slice none 0 0) (.slice none 0 0) rfl (Nat.le_refl _) hB1
      rw [HY.out]
      obtain ⟨t0, t1, t2, t3, t4⟩ := hMY.c
      simp only [zeroHead] at t0 t1 t2 t3 t4
      exact bodyPost_ret (v := .tuple #[.agg #[.string ⟨#[]⟩, .string ⟨#[]⟩, .string ⟨#[]⟩, .int .i64 0, .slice none 0 0], .bool false]) (by simp [results, Tryz.results55, go_sem, t0, t1, t2, t3, t4]) rfl ⟨HE.out _ zeroHead (by rw [HF.out]; rfl) (fun h => by rw [HF.out] at h; cases h), hBY⟩
    · cases hc0 : (c0.toList == [83, 76, 79, 84, 83])
      · have HF : Hid (ok = false) := Lib.hid (by rw [HQ.out, HSL.out hc0]; simp)
        have hc0' : (c0.toList != [83, 76, 79, 84, 83]) = true := by simp [bne, hc0]
        clear hck hd
        go_wp2_with fail
        obtain ⟨Y, HY, hMY, hBY, hblk, -⟩ := put5 M1 zeroHead (.string ⟨#[]⟩) (.string ⟨#[]⟩) (.string ⟨#[]⟩) (.int .i64 0) (.slice none 0 0) (.slice none 0 0) rfl (Nat.le_refl _) hB1
        rw [HY.out]
        obtain ⟨t0, t1, t2, t3, t4⟩ := hMY.c
        simp only [zeroHead] at t0 t1 t2 t3 t4
        exact bodyPost_ret (v := .tuple #[.agg #[.string ⟨#[]⟩, .string ⟨#[]⟩, .string ⟨#[]⟩, .int .i64 0, .slice none 0 0], .bool false]) (by simp [results, Tryz.results55, go_sem, t0, t1, t2, t3, t4]) rfl ⟨HE.out _ zeroHead (by rw [HF.out]; rfl) (fun h => by rw [HF.out] at h; cases h), hBY⟩
      · have hc0' : (c0.toList != [83, 76, 79, 84, 83]) = false := by simp [bne, hc0]
        cases kb
        · have HF : Hid (ok = false) := Lib.hid (by rw [HQ.out, HKD.out rfl]; simp)
          have hk := HK.out
          cases hr : (c1.toList == [82, 69, 81])
          · cases ha : (c1.toList == [65, 78, 83])
            · clear hck hd hk hc0'
              go_wp2_with fail
              obtain ⟨Y, HY, hMY, hBY, hblk, -⟩ := put5 M1 zeroHead (.string ⟨#[]⟩) (.string ⟨#[]⟩) (.string ⟨#[]⟩) (.int .i64 0) (.slice none 0 0) (.slice none 0 0) rfl (Nat.le_refl _) hB1
              rw [HY.out]
              obtain ⟨t0, t1, t2, t3, t4⟩ := hMY.c
              simp only [zeroHead] at t0 t1 t2 t3 t4
              exact bodyPost_ret (v := .tuple #[.agg #[.string ⟨#[]⟩, .string ⟨#[]⟩, .string ⟨#[]⟩, .int .i64 0, .slice none 0 0], .bool false]) (by simp [results, Tryz.results55, go_sem, t0, t1, t2, t3, t4]) rfl ⟨HE.out _ zeroHead (by rw [HF.out]; rfl) (fun h => by rw [HF.out] at h; cases h), hBY⟩
            · rw [hr, ha] at hk; cases hk
          · rw [hr] at hk; simp at hk
        · have HOK : Hid ((he == 0) = ok) := Lib.hid (by rw [HQ.out, HSM.out hc0 rfl]; simp)
          have HWD : Hid (ok = true → (⟨c1, c2, c3, dn⟩ : HeadV) = headWords t) := Lib.hid fun h => HDY.out (by rw [HQ.out] at h; simpa using h)
          have hk := HK.out
          clear HK HQ HSL HKD HSM HDY
          have hgo : ∀ b : Bool, (c1.toList == [82, 69, 81]) = b → (c1.toList == [65, 78, 83]) = true ∨ b = true := fun b hb => by
            rw [hb] at hk
            cases b
            · exact .inl (by simpa using hk.symm)
            · exact .inr rfl
          clear hk
          cases hr : (c1.toList == [82, 69, 81])
          all_goals
            have ha := hgo _ hr
            first
              | replace ha : (c1.toList == [65, 78, 83]) = true := by
                  rcases ha with ha | ha
                  · exact ha
                  · cases ha
              | skip
            clear hgo
            go_wp2_with fail
            refine alloc_tail (o := .cells #[.string ⟨#[]⟩, .string ⟨#[]⟩, .string ⟨#[]⟩, .int .i64 0, .slice none 0 0] 31) 15 14 (by kernel_rfl) (by kernel_rfl) rfl ⟨rfl, fun a w => ?_⟩ ?_
            · simp [go_sem]
            intro A V4 hb4
            have k1 : ∀ y : KeptW V4, y.v.cell? ⟨g, 1, none⟩ = some (.string c1) := fun y => y.cell (b_old hb4 w1)
            have k2 : ∀ y : KeptW V4, y.v.cell? ⟨g, 2, none⟩ = some (.string c2) := fun y => y.cell (b_old hb4 w2)
            have k3 : ∀ y : KeptW V4, y.v.cell? ⟨g, 3, none⟩ = some (.string c3) := fun y => y.cell (b_old hb4 w3)
            have k4 : ∀ y : KeptW V4, y.v.cell? ⟨g, 4, none⟩ = some (.string c4) := fun y => y.cell (b_old hb4 w4)
            have hne : Nonempty (KeptW V4) := ⟨⟨V4, Below.refl _ _⟩⟩
            simp only [List.take_succ_cons, List.take_zero, List.drop_succ_cons, List.drop_zero, List.append_nil, Act.put, List.setIfInBounds_toArray, List.set_cons_succ, List.set_cons_zero]
            iterate 12 (go_big_quiet_step (fail))
            go_big_quiet_step (exact KeptW.calls_same (hd _))
            go_big_quiet_step (fail)
            refine wpQuiet_nil ?_
            intro V5 hb5 hA hbk
            have M5 := M1.below hb5
            have hB5 := b_then hB1 hb5
            have hA0 : w.heap.size < A := Nat.lt_of_lt_of_le (cell_in M1.c.c0) hA
            have N5 := mb_block hbk
            clear k1 k2 k3 k4 hne hb4 hbk hd w0 w1 w2 w3 w4 m0 m1 m2 m3 m4 e0 e1 e2 e3 e4 hb5 hA
            obtain ⟨n0, n1, n2, n3, n4⟩ := N5.c
            simp only [zeroHead] at n0 n1 n2 n3 n4
            have g0 := N5.f 0 (by decide)
            have g1 := N5.f 1 (by decide)
            have g2 := N5.f 2 (by decide)
            have g3 := N5.f 3 (by decide)
            have g4 := N5.f 4 (by decide)
            go_wp2_with fail
            obtain ⟨Y, HY, hMY, hBY, hblk, hsz⟩ := put5 (N := w.heap.size) N5 ⟨c1, c2, c3, dn⟩ (.string c1) (.string c2) (.string c3) (.int .i64 dn) (.slice none 0 0) (.slice none 0 0) rfl (Nat.le_of_lt hA0) hB5
            rw [HY.out]
            have M6 := M5.of (hblk w.heap.size (by omega))
            clear n0 n1 n2 n3 n4 g0 g1 g2 g3 g4 N5 M5 HY hblk hsz hB5
            obtain ⟨q0, q1, q2, q3, q4⟩ := hMY.c
            have k0 : ∀ y : KeptW Y, y.v.cell? ⟨A, 0, none⟩ = some (.string c1) := fun y => y.cell q0
            have k1 : ∀ y : KeptW Y, y.v.cell? ⟨A, 1, none⟩ = some (.string c2) := fun y => y.cell q1
            have k2 : ∀ y : KeptW Y, y.v.cell? ⟨A, 2, none⟩ = some (.string c3) := fun y => y.cell q2
            have k3 : ∀ y : KeptW Y, y.v.cell? ⟨A, 3, none⟩ = some (.int .i64 dn) := fun y => y.cell q3
            have k4 : ∀ y : KeptW Y, y.v.cell? ⟨A, 4, none⟩ = some (.slice none 0 0) := fun y => y.cell q4
            have hne : Nonempty (KeptW Y) := ⟨⟨Y, Below.refl _ _⟩⟩
            clear q0 q1 q2 q3 q4 hMY
            refine late_tail (C := fun w' => ∃ x : KeptW Y, w' = x.v) 9 (by kernel_rfl) (by kernel_rfl) rfl rfl ⟨⟨_, below_drew Y⟩, rfl⟩ ?_
            simp only [List.take_succ_cons, List.take_zero, List.drop_succ_cons, List.drop_zero, Nat.reduceSub, Nat.reduceAdd]
            iterate 7 (go_big_quiet_step (fail))
            go_big_quiet_step (exact KeptW.calls (hck _))
            refine wpQuiet_nil ⟨?_, ?_⟩
            · go_big_quiet_step (fail)
              refine wpQuiet_nil ?_
              rintro _ ⟨x, rfl⟩
              have M7 := M6.below x.below
              have hB7 : Below w.heap.size w x.v := hBY.trans (x.below.mono hBY.size)
              obtain ⟨n0, n1, n2, n3, n4⟩ := M7.c
              simp only [zeroHead] at n0 n1 n2 n3 n4
              have g0 := M7.f 0 (by decide)
              have g1 := M7.f 1 (by decide)
              have g2 := M7.f 2 (by decide)
              have g3 := M7.f 3 (by decide)
              have g4 := M7.f 4 (by decide)
              clear k0 k1 k2 k3 k4 hne hck M6 hBY M1 hB1
              go_wp2_with fail
              obtain ⟨Z, HZ, hMZ, hBZ, -, -⟩ := put5 M7 ⟨c1, c2, c3, dn⟩ (.string c1) (.string c2) (.string c3) (.int .i64 dn) (.slice none 0 0) (.slice none 0 0) rfl (Nat.le_refl _) hB7
              rw [HZ.out]
              obtain ⟨t0, t1, t2, t3, t4⟩ := hMZ.c
              dsimp only at t0 t1 t2 t3 t4
              exact bodyPost_ret (v := .tuple #[.agg #[.string c1, .string c2, .string c3, .int .i64 dn, .slice none 0 0], .bool (he == 0)]) (by simp [results, Tryz.results55, go_sem, t0, t1, t2, t3, t4]) rfl ⟨HE.out _ ⟨c1, c2, c3, dn⟩ (by rw [HOK.out]; rfl) (fun h => HWD.out h), hBZ⟩
            · rintro _ ⟨x, rfl⟩
              have M7 := M6.below x.below
              have hB7 : Below w.heap.size w x.v := hBY.trans (x.below.mono hBY.size)
              obtain ⟨n0, n1, n2, n3, n4⟩ := M7.c
              simp only [zeroHead] at n0 n1 n2 n3 n4
              have g0 := M7.f 0 (by decide)
              have g1 := M7.f 1 (by decide)
              have g2 := M7.f 2 (by decide)
              have g3 := M7.f 3 (by decide)
              have g4 := M7.f 4 (by decide)
              clear k0 k1 k2 k3 k4 hne hck M6 hBY M1 hB1
              go_wp2_with fail
              obtain ⟨Z, HZ, hMZ, hBZ, -, -⟩ := put5 M7 ⟨c1, c2, c3, dn⟩ (.string c1) (.string c2) (.string c3) (.int .i64 dn) (.slice none 0 0) (.slice none 0 0) rfl (Nat.le_refl _) hB7
              rw [HZ.out]
              obtain ⟨t0, t1, t2, t3, t4⟩ := hMZ.c
              dsimp only at t0 t1 t2 t3 t4
              exact bodyPost_ret (v := .tuple #[.agg #[.string c1, .string c2, .string c3, .int .i64 dn, .slice none 0 0], .bool (he == 0)]) (by simp [results, Tryz.results55, go_sem, t0, t1, t2, t3, t4]) rfl ⟨HE.out _ ⟨c1, c2, c3, dn⟩ (by rw [HOK.out]; rfl) (fun h => HWD.out h), hBZ⟩
  · obtain ⟨A, c, rfl⟩ := (slArg_own (f := strC) (k := 1) (fun _ => rfl) (by decide) hown).len
    have hl : (splits t).length = nWords t := by simp [splits]
    rw [hl]
    have h5b : (((nWords t : Nat) : Int) != 5) = true := by rw [bne_iff_ne]; omega
    have HF : Hid (ok = false) := Lib.hid (by rw [HQ.out, hd_words h5]; simp)
    clear h5
    cases wh
    all_goals
      go_wp2_with fail
      obtain ⟨Y, HY, hMY, hBY, hblk, -⟩ := put5 M1 zeroHead (.string ⟨#[]⟩) (.string ⟨#[]⟩) (.string ⟨#[]⟩) (.int .i64 0) (.slice none 0 0) (.slice none 0 0) rfl (Nat.le_refl _) hB1
      rw [HY.out]
      obtain ⟨t0, t1, t2, t3, t4⟩ := hMY.c
      simp only [zeroHead] at t0 t1 t2 t3 t4
      exact bodyPost_ret (v := .tuple #[.agg #[.string ⟨#[]⟩, .string ⟨#[]⟩, .string ⟨#[]⟩, .int .i64 0, .slice none 0 0], .bool false]) (by simp [results, Tryz.results55, go_sem, t0, t1, t2, t3, t4]) rfl ⟨HE.out _ zeroHead (by rw [HF.out]; rfl) (fun h => by rw [HF.out] at h; cases h), hBY⟩
end Go.Proofs.YtphoclgibnhjfaaGreat
