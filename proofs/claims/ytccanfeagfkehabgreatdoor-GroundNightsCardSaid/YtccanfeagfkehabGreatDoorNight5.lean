
/- Contracts of the reference: CheckNight, CheckQuota; of the statement: first, when, quota. -/
import Derived.Test.YtccanfeagfkehabGreatDoorNight4
namespace Go.Proofs.YtccanfeagfkehabGreatDoor
open Go Go.RowKit
theorem gFirst_new (es : List Int) (b n c T : Nat) (w : World) (hb : b = w.heap.size) (hn : n = es.length) (hl : es.length ≤ 100) :
    Calls Tryz.prog 32 #[.slice (some ⟨b, 0, none⟩) n c] (w.alloc (.cells (es.map (Value.int .i64)).toArray T)) fun r w' => r = .returned (.int .i64 (fst es)) ∧ w' = w.alloc (.cells (es.map (Value.int .i64)).toArray T) := by
  subst hn hb
  exact qFirst_any es _ c _ (fun i hi => cell_fresh _ _ _ _ _ (by simp [hi])) hl
theorem gfirst_new (es : List Int) (b n c T : Nat) (w : World) (hb : b = w.heap.size) (hn : n = es.length) (hl : es.length ≤ 100) :
    Calls Tryz.prog 9 #[.slice (some ⟨b, 0, none⟩) n c] (w.alloc (.cells (es.map (Value.int .i64)).toArray T)) fun r w' => r = .returned (.int .i64 (fst es)) ∧ w' = w.alloc (.cells (es.map (Value.int .i64)).toArray T) := by
  subst hn hb
  go_enter Tryz.func9, Tryz.ntmps9
  go_wp2_with fail
  refine (qFirst_any es _ c _ (fun i hi => cell_fresh _ _ _ _ _ (by simp [hi])) hl).mono ?_
  rintro e w1 ⟨rfl, rfl⟩
  go_wp2_with fail
  go_ret
  exact ⟨rfl, rfl⟩
theorem gwhen_any (b : Bool) (e : Int) (w : World) :
    Calls Tryz.prog 13 #[.bool b, .int .i64 e] w fun r w' => r = .returned (.int .i64 (if b = true then e else 0)) ∧ w' = w := by
  cases b
  all_goals
    go_enter Tryz.func13, Tryz.ntmps13
    go_wp2
    go_ret
    exact ⟨rfl, rfl⟩
theorem nightErr_eq (f t : Int) : nightErr f t = if fst [rng f 0 1439, rng t 0 1439] = 0 then (if f = t then 11 else 0) else fst [rng f 0 1439, rng t 0 1439] := by
  unfold nightErr
  have h3 : unl (f != t) 11 = if f = t then 11 else 0 := by
    unfold unl
    by_cases h : f = t <;> simp [h]
  rw [h3]
  generalize rng f 0 1439 = a
  generalize rng t 0 1439 = b
  by_cases h1 : a = 0 <;> by_cases h2 : b = 0 <;> by_cases h : f = t <;> simp [fst, h1, h2, h]
set_option maxRecDepth 100000 in
theorem gCheckNight_any (f t : Int) (w : World) : Calls Tryz.prog 10 #[.agg #[.int .i64 f, .int .i64 t]] w fun r w' => r = .returned (.int .i64 (nightErr f t)) ∧ Below w.heap.size w w' := by
  obtain ⟨W, HW, hb0, hc0, hc1⟩ : ∃ W, Hid (w.alloc (.cells #[.int .i64 f, .int .i64 t] 32) = W) ∧ Below w.heap.size w W ∧ W.cell? ⟨w.heap.size, 0, none⟩ = some (.int .i64 f) ∧ W.cell? ⟨w.heap.size, 1, none⟩ = some (.int .i64 t) := ⟨_, Lib.hid rfl, below_alloc w _, by simp, by simp⟩
  have k0 : ∀ x : KeptW W, x.v.cell? ⟨w.heap.size, 0, none⟩ = some (.int .i64 f) := fun x => x.cell hc0
  have k1 : ∀ x : KeptW W, x.v.cell? ⟨w.heap.size, 1, none⟩ = some (.int .i64 t) := fun x => x.cell hc1
  have hne : Nonempty (KeptW W) := ⟨⟨W, Below.refl _ _⟩⟩
  have hcase : (fst [rng f 0 1439, rng t 0 1439] = 0 ∧ f = t ∧ nightErr f t = 11) ∨ (fst [rng f 0 1439, rng t 0 1439] = 0 ∧ f ≠ t ∧ nightErr f t = 0) ∨ (fst [rng f 0 1439, rng t 0 1439] ≠ 0 ∧ nightErr f t = fst [rng f 0 1439, rng t 0 1439]) := by
    rw [nightErr_eq]
    by_cases h1 : fst [rng f 0 1439, rng t 0 1439] = 0
    · by_cases h2 : f = t
      · exact .inl ⟨h1, h2, by rw [if_pos h1, if_pos h2]⟩
      · exact .inr (.inl ⟨h1, h2, by rw [if_pos h1, if_neg h2]⟩)
    · exact .inr (.inr ⟨h1, by rw [if_neg h1]⟩)
  rcases hcase with ⟨h1, h2, h3⟩ | ⟨h1, h2, h3⟩ | ⟨h1, h3⟩
  · subst h2
    have H1 := Lib.hid h1
    have H3 := Lib.hid h3
    clear h1 h3
    go_enter Tryz.func10, Tryz.ntmps10
    go_wp2_with fail
    rw [HW.out]
    refine tail_kept 6 (by kernel_rfl) (by kernel_rfl) ?_
    simp only [List.take_succ_cons, List.take_zero, List.drop_succ_cons, List.drop_zero]
    iterate 2 (go_big_quiet_step (fail))
    go_big_quiet_step (exact KeptW.calls_same (gRange_any _ _ _ _))
    iterate 2 (go_big_quiet_step (fail))
    go_big_quiet_step (exact KeptW.calls_same (gRange_any _ _ _ _))
    refine wpQuiet_nil ?_
    rintro _ ⟨x, rfl⟩
    have hbx := b_then hb0 x.below
    have c0 := k0 x
    have c1 := k1 x
    clear k0 k1 hc0 hc1 hb0
    go_wp2_with fail
    refine (gFirst_new [_, _] _ _ _ _ _ rfl rfl (by simp)).mono ?_
    rintro e2 w2 ⟨rfl, hw⟩
    have hb1 : Below x.v.heap.size x.v w2 := by rw [hw]; exact below_alloc _ _
    have hb2 := b_then hbx hb1
    have d0 := b_old hb1 c0
    have d1 := b_old hb1 c1
    clear hw hb1 c0 c1
    rw [H1.out]
    go_wp2_with fail
    go_ret
    exact ⟨by rw [H3.out]; rfl, hb2⟩
  · have H1 := Lib.hid h1
    have H3 := Lib.hid h3
    have hbq : (f == t) = false := by simpa using h2
    clear h1 h3
    go_enter Tryz.func10, Tryz.ntmps10
    go_wp2_with fail
    rw [HW.out]
    refine tail_kept 6 (by kernel_rfl) (by kernel_rfl) ?_
    simp only [List.take_succ_cons, List.take_zero, List.drop_succ_cons, List.drop_zero]
    iterate 2 (go_big_quiet_step (fail))
    go_big_quiet_step (exact KeptW.calls_same (gRange_any _ _ _ _))
    iterate 2 (go_big_quiet_step (fail))
    go_big_quiet_step (exact KeptW.calls_same (gRange_any _ _ _ _))
    refine wpQuiet_nil ?_
    rintro _ ⟨x, rfl⟩
    have hbx := b_then hb0 x.below
    have c0 := k0 x
    have c1 := k1 x
    clear k0 k1 hc0 hc1 hb0
    go_wp2_with fail
    refine (gFirst_new [_, _] _ _ _ _ _ rfl rfl (by simp)).mono ?_
    rintro e2 w2 ⟨rfl, hw⟩
    have hb1 : Below x.v.heap.size x.v w2 := by rw [hw]; exact below_alloc _ _
    have hb2 := b_then hbx hb1
    have d0 := b_old hb1 c0
    have d1 := b_old hb1 c1
    clear hw hb1 c0 c1
    rw [H1.out]
    go_wp2_with fail
    go_ret
    exact ⟨by rw [H3.out]; rfl, hb2⟩
  · have HN : Hid ((fst [rng f 0 1439, rng t 0 1439] == 0) = false) := Lib.hid (by simpa using h1)
    have H3 := Lib.hid h3
    clear h1 h3
    go_enter Tryz.func10, Tryz.ntmps10
    go_wp2_with fail
    rw [HW.out]
    refine tail_kept 6 (by kernel_rfl) (by kernel_rfl) ?_
    simp only [List.take_succ_cons, List.take_zero, List.drop_succ_cons, List.drop_zero]
    iterate 2 (go_big_quiet_step (fail))
    go_big_quiet_step (exact KeptW.calls_same (gRange_any _ _ _ _))
    iterate 2 (go_big_quiet_step (fail))
    go_big_quiet_step (exact KeptW.calls_same (gRange_any _ _ _ _))
    refine wpQuiet_nil ?_
    rintro _ ⟨x, rfl⟩
    have hbx := b_then hb0 x.below
    clear k0 k1 hc0 hc1 hb0
    go_wp2_with fail
    refine (gFirst_new [_, _] _ _ _ _ _ rfl rfl (by simp)).mono ?_
    rintro e2 w2 ⟨rfl, hw⟩
    have hb2 : Below w.heap.size w w2 := by rw [hw]; exact b_then hbx (below_alloc _ _)
    clear hw
    have hn := HN.out
    have h3 := H3.out
    clear HN H3
    generalize fst [rng f 0 1439, rng t 0 1439] = bad at *
    have H3 := Lib.hid h3
    clear h3
    go_wp2_with fail
    go_ret
    exact ⟨by rw [H3.out]; rfl, hb2⟩
theorem gCheckQuota_any (f t y : Int) (s : ByteArray) (c p : Int) (w : World) :
    Calls Tryz.prog 6 #[.agg #[.int .i64 f, .int .i64 t, .int .i64 y, .string s, .int .i64 c, .int .i64 p]] w fun r w' => r = .returned (.int .i64 (quotaErr f t y s c p)) ∧ Below w.heap.size w w' := by
  obtain ⟨W, HW, hb0, hc⟩ : ∃ W, Hid (w.alloc (.cells #[.int .i64 f, .int .i64 t, .int .i64 y, .string s, .int .i64 c, .int .i64 p] 35) = W) ∧ Below w.heap.size w W ∧
      (W.cell? ⟨w.heap.size, 0, none⟩ = some (.int .i64 f) ∧ W.cell? ⟨w.heap.size, 1, none⟩ = some (.int .i64 t) ∧ W.cell? ⟨w.heap.size, 2, none⟩ = some (.int .i64 y) ∧ W.cell? ⟨w.heap.size, 3, none⟩ = some (.string s) ∧ W.cell? ⟨w.heap.size, 4, none⟩ = some (.int .i64 c) ∧ W.cell? ⟨w.heap.size, 5, none⟩ = some (.int .i64 p)) :=
    ⟨_, Lib.hid rfl, below_alloc w _, by simp, by simp, by simp, by simp, by simp, by simp⟩
  obtain ⟨hc0, hc1, hc2, hc3, hc4, hc5⟩ := hc
  go_enter Tryz.func6, Tryz.ntmps6
  go_wp2_with fail
  rw [HW.out]
  have k0 : ∀ x : KeptW W, x.v.cell? ⟨w.heap.size, 0, none⟩ = some (.int .i64 f) := fun x => x.cell hc0
  have k1 : ∀ x : KeptW W, x.v.cell? ⟨w.heap.size, 1, none⟩ = some (.int .i64 t) := fun x => x.cell hc1
  have k2 : ∀ x : KeptW W, x.v.cell? ⟨w.heap.size, 2, none⟩ = some (.int .i64 y) := fun x => x.cell hc2
  have k3 : ∀ x : KeptW W, x.v.cell? ⟨w.heap.size, 3, none⟩ = some (.string s) := fun x => x.cell hc3
  have k4 : ∀ x : KeptW W, x.v.cell? ⟨w.heap.size, 4, none⟩ = some (.int .i64 c) := fun x => x.cell hc4
  have k5 : ∀ x : KeptW W, x.v.cell? ⟨w.heap.size, 5, none⟩ = some (.int .i64 p) := fun x => x.cell hc5
  have hne : Nonempty (KeptW W) := ⟨⟨W, Below.refl _ _⟩⟩
  refine tail_kept 12 (by kernel_rfl) (by kernel_rfl) ?_
  simp only [List.take_succ_cons, List.take_zero, List.drop_succ_cons, List.drop_zero]
  iterate 2 (go_big_quiet_step (fail))
  go_big_quiet_step (exact KeptW.calls (gCheckNight_any _ _ _))
  iterate 2 (go_big_quiet_step (fail))
  go_big_quiet_step (exact KeptW.calls (gCheckSeason_any _ _ _))
  iterate 2 (go_big_quiet_step (fail))
  go_big_quiet_step (exact KeptW.calls_same (gRange_any _ _ _ _))
  iterate 2 (go_big_quiet_step (fail))
  go_big_quiet_step (exact KeptW.calls_same (gRange_any _ _ _ _))
  refine wpQuiet_nil ?_
  rintro _ ⟨x, rfl⟩
  have hbx := b_then hb0 x.below
  clear k0 k1 k2 k3 k4 k5 hc0 hc1 hc2 hc3 hc4 hc5 hb0
  go_wp2_with fail
  refine (gFirst_new [_, _, _, _] _ _ _ _ _ rfl rfl (by simp)).mono ?_
  rintro e2 w2 ⟨rfl, hw⟩
  have hb2 : Below w.heap.size w w2 := by rw [hw]; exact b_then hbx (below_alloc _ _)
  clear hw
  go_wp2_with fail
  go_ret
  exact ⟨rfl, hb2⟩
set_option maxRecDepth 100000 in
theorem gquota_any (f t y : Int) (s : ByteArray) (c p : Int) (w : World) :
    Calls Tryz.prog 7 #[.agg #[.int .i64 f, .int .i64 t, .int .i64 y, .string s, .int .i64 c, .int .i64 p]] w fun r w' => r = .returned (.agg #[.int .i64 f, .int .i64 t, .int .i64 y, .string s, .int .i64 c, .int .i64 p]) ∧ Below w.heap.size w w' := by
  go_enter Tryz.func7, Tryz.ntmps7
  go_wp2_with fail
  exact bodyPost_ret (v := .agg #[.int .i64 f, .int .i64 t, .int .i64 y, .string s, .int .i64 c, .int .i64 p]) (by simp [results, Tryz.results7, go_sem]) rfl ⟨rfl, below_alloc2 _ _ _⟩
end Go.Proofs.YtccanfeagfkehabGreatDoor
