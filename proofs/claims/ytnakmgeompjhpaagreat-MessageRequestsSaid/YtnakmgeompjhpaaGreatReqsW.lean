/- The walk of the statement MessageRequests. -/
import Derived.Test.YtnakmgeompjhpaaGreatCopied
import Derived.Test.YtnakmgeompjhpaaGreatAwM9
namespace Go.Proofs.YtnakmgeompjhpaaGreat
open Go Go.RowKit Go.ChangeMaps Go.MapKept
theorem pairsGo_len (L : List ReqV) : ∀ (r : List ReqV) (i : Nat) (acc : List (Int × Int)), (pairsGo L r i acc).1.length ≤ acc.length + r.length
  | [], i, acc => by simp [pairsGo]
  | q :: r, i, acc => by
    unfold pairsGo
    have h1 := pairsGo_len L r (i + 1) acc
    have h2 := pairsGo_len L r (i + 1) (acc ++ [((i : Int), findIx q.link L 0)])
    simp only [List.length_append, List.length_cons, List.length_nil] at h2 ⊢
    repeat' split
    all_goals first | omega | (simp only [List.length_nil]; omega)
set_option maxRecDepth 100000 in
theorem refReqs_zero (A : Option Addr) (c : Nat) (w : World) :
    Calls Tryz.prog 9 #[.slice A 0 c] w fun e w' => e = .returned (.int .i64 0) ∧ Below w.heap.size w w' := by
  go_enter Tryz.func9, Tryz.ntmps9
  go_wp2_with fail
  go_loopw [3] (fun i wr => i = .int .i64 0 ∧ wr = w) (fun _ _ => 0)
  case atStart => exact ⟨rfl, rfl⟩
  case round =>
    obtain ⟨rfl, rfl⟩ := hrel
    go_wp2_with fail
    go_ret
    exact ⟨rfl, Below.refl _ _⟩
/-- A call that has returned pairs and an error. -/
structure PairsR (e : Ending) (w w' : World) (P : List (Int × Int) × Int) : Prop where
  ex : ∃ v, e = .returned (.tuple #[v, .int .i64 P.2]) ∧ w'.ownsRow w.heap.size 77 2 v P.1.length (prFlat P.1)
set_option maxRecDepth 100000 in
theorem RefPairs_zero (A : Option Addr) (c : Nat) (w : World) :
    Calls Tryz.prog 10 #[.slice A 0 c] w fun e w' => PairsR e w w' ([], 0) ∧ Below w.heap.size w w' := by
  go_enter Tryz.func10, Tryz.ntmps10
  go_wp2_with fail
  go_loopw [4, 5] (fun v4 v5 wr => v4 = .slice none 0 0 ∧ v5 = .int .i64 0 ∧ wr = w) (fun _ _ _ => 0)
  case atStart => exact ⟨rfl, rfl, rfl⟩
  case round =>
    obtain ⟨rfl, rfl, rfl⟩ := hrel
    go_wp2_with fail
    go_ret2
    exact ⟨⟨_, rfl, World.ownsRow_nil _ _ _ _⟩, Below.refl _ _⟩
/-- A value that is a slice of these requests. -/
def RqArg (w : World) (v : Value) (l : List ReqV) : Prop :=
  (l = [] ∧ ∃ A c, v = .slice A 0 c) ∨ (0 < l.length ∧ ∃ b off cap, v = .slice (some ⟨b, off, none⟩) l.length cap ∧ RqsAt w b off l ∧ l.length ≤ cap ∧ ∀ k, k < l.length → (l.getD k default).name.size ≤ maxLen)
section
variable {w : World} {v : Value} {l : List ReqV}
theorem RqArg.short (h : RqArg w v l) (w' : World) (hb : Below w.heap.size w w') : Calls Tryz.prog 5 #[v, .int .i64 6] w' fun e w'' => BoolR e (l.length ≤ 65) ∧ Below w'.heap.size w' w'' := by
  rcases h with ⟨rfl, A, c, rfl⟩ | ⟨_, b, off, cap, rfl, hl, _, _⟩
  · exact (Short_zero A c w').mono fun e w'' ⟨⟨bb, h1, _⟩, h2⟩ => ⟨⟨bb, h1, fun _ => by simp⟩, h2⟩
  · exact Short_any l b off cap w' (hl.below hb)
theorem RqArg.copy (h : RqArg w v l) (h9 : l.length ≤ 900) (w' : World) (hb : Below w.heap.size w w') : Calls Tryz.prog 8 #[v] w' fun e w'' => CopyR e w'' l ∧ Below w'.heap.size w' w'' := by
  rcases h with ⟨rfl, A, c, rfl⟩ | ⟨h0, b, off, cap, rfl, hl, _, _⟩
  · exact copied_zero A c w'
  · exact copied_any l b off cap w' (hl.below hb) h0 h9
theorem RqArg.names (h : RqArg w v l) : ∀ k, k < l.length → (l.getD k default).name.size ≤ maxLen := by
  rcases h with ⟨rfl, _⟩ | ⟨_, b, off, cap, rfl, _, _, hs⟩
  · intro k hk; simp at hk
  · exact hs
theorem RqArg.ref (h : RqArg w v l) (h9 : l.length ≤ 900) (w' : World) (hb : Below w.heap.size w w') : Calls Tryz.prog 9 #[v] w' fun e w'' => e = .returned (.int .i64 (reqsErr l)) ∧ Below w'.heap.size w' w'' := by
  rcases h with ⟨rfl, A, c, rfl⟩ | ⟨_, b, off, cap, rfl, hl, hc, _⟩
  · exact refReqs_zero A c w'
  · exact refReqs_any l b off cap w' (hl.below hb) hc h9
theorem RqArg.refP (h : RqArg w v l) (h9 : l.length ≤ 64) (w' : World) (hb : Below w.heap.size w w') : Calls Tryz.prog 10 #[v] w' fun e w'' => PairsR e w' w'' (pairsGo l l 0 []) ∧ Below w'.heap.size w' w'' := by
  rcases h with ⟨rfl, A, c, rfl⟩ | ⟨_, b, off, cap, rfl, hl, hc, _⟩
  · exact RefPairs_zero A c w'
  · exact (RefPairs_any l b off cap w' (hl.below hb) h9).mono fun e w'' ⟨v, h1, h2, h3⟩ => ⟨⟨v, h1, h2⟩, h3⟩
end
set_option maxRecDepth 100000 in
set_option maxHeartbeats 8000000 in
theorem Requests_true (q : ReqV) (l : List ReqV) (v : Value) (w : World) (h : RqArg w v l) :
    Calls Tryz.prog 3 #[.agg q.cells, v] w fun e w' => e = .returned (.bool true) ∧ Below w.heap.size w w' := by
  obtain ⟨W, HW, hb0, R⟩ := req_new w q 25
  have hbrief := Brief_any q
  have hreq := CheckRequest_any q
  have href := refReq_any q
  generalize reqErr q = re at hreq href
  have hshort := h.short
  have hcopy := h.copy
  have hrefs := h.ref
  have hrefp := h.refP
  have hnames := h.names
  have hee : (re == re) = true := by simp
  clear h
  obtain ⟨name, carrier, kind, terminal, partner, link, a, b, d, m, s, z, n⟩ := q
  obtain ⟨r0, r1, r2, r3, r4, r5, r6, r7, r8, r9, r10, r11, r12⟩ := R
  simp only [ReqV.cells] at *
  have k0 : ∀ x : KeptW W, x.v.cell? ⟨w.heap.size, 0, none⟩ = _ := fun x => x.cell r0
  have k1 : ∀ x : KeptW W, x.v.cell? ⟨w.heap.size, 1, none⟩ = _ := fun x => x.cell r1
  have k2 : ∀ x : KeptW W, x.v.cell? ⟨w.heap.size, 2, none⟩ = _ := fun x => x.cell r2
  have k3 : ∀ x : KeptW W, x.v.cell? ⟨w.heap.size, 3, none⟩ = _ := fun x => x.cell r3
  have k4 : ∀ x : KeptW W, x.v.cell? ⟨w.heap.size, 4, none⟩ = _ := fun x => x.cell r4
  have k5 : ∀ x : KeptW W, x.v.cell? ⟨w.heap.size, 5, none⟩ = _ := fun x => x.cell r5
  have k6 : ∀ x : KeptW W, x.v.cell? ⟨w.heap.size, 6, none⟩ = _ := fun x => x.cell r6
  have k7 : ∀ x : KeptW W, x.v.cell? ⟨w.heap.size, 7, none⟩ = _ := fun x => x.cell r7
  have k8 : ∀ x : KeptW W, x.v.cell? ⟨w.heap.size, 8, none⟩ = _ := fun x => x.cell r8
  have k9 : ∀ x : KeptW W, x.v.cell? ⟨w.heap.size, 9, none⟩ = _ := fun x => x.cell r9
  have k10 : ∀ x : KeptW W, x.v.cell? ⟨w.heap.size, 10, none⟩ = _ := fun x => x.cell r10
  have k11 : ∀ x : KeptW W, x.v.cell? ⟨w.heap.size, 11, none⟩ = _ := fun x => x.cell r11
  have k12 : ∀ x : KeptW W, x.v.cell? ⟨w.heap.size, 12, none⟩ = _ := fun x => x.cell r12
  clear r0 r1 r2 r3 r4 r5 r6 r7 r8 r9 r10 r11 r12
  obtain ⟨x0, hx0⟩ : ∃ x : KeptW W, W = x.v := ⟨⟨W, Below.refl _ _⟩, rfl⟩
  have HX := Lib.hid (HW.out.trans hx0)
  clear hx0 HW
  go_enter Tryz.func3, Tryz.ntmps3
  go_wp2_with fail
  rw [HX.out]
  clear HX
  go_wp2_with fail
  refine (hbrief _).mono ?_
  rintro e1 w1 ⟨⟨b1, rfl, -⟩, hb1⟩
  obtain ⟨x1, rfl⟩ : ∃ y : KeptW W, w1 = y.v := ⟨⟨w1, b_then x0.below hb1⟩, rfl⟩
  cases b1
  · go_wp2_with fail
    refine (awake2_true _).mono ?_
    rintro e2 w2 ⟨rfl, hb2⟩
    go_wp2_with fail
    go_ret
    exact ⟨rfl, b_then (b_then hb0 x1.below) hb2⟩
  go_wp2_with fail
  refine (hshort _ (b_then hb0 x1.below)).mono ?_
  rintro e2 w2 ⟨⟨b2, rfl, h65⟩, hb2⟩
  obtain ⟨x2, rfl⟩ : ∃ y : KeptW W, w2 = y.v := ⟨⟨w2, b_then x1.below hb2⟩, rfl⟩
  cases b2
  · go_wp2_with fail
    refine (awake2_true _).mono ?_
    rintro e2 w2 ⟨rfl, hb2⟩
    go_wp2_with fail
    go_ret
    exact ⟨rfl, b_then (b_then hb0 x2.below) hb2⟩
  have hlen := h65 rfl
  go_wp2_with fail
  refine (hcopy (by omega) _ (b_then hb0 x2.below)).mono ?_
  rintro e3 w3 ⟨⟨g, c, rfl, hR, hg⟩, hb3⟩
  have HR := Lib.hid hR
  have HNM := Lib.hid hnames
  clear hR hnames hshort hcopy h65 hb1 hb2 hbrief
  obtain ⟨x3, rfl⟩ : ∃ y : KeptW W, w3 = y.v := ⟨⟨w3, b_then x2.below hb3⟩, rfl⟩
  go_wp2_with fail
  refine (Pairs_any l g 0 c _ HR.out hg HNM.out).mono ?_
  rintro e4 w4 ⟨vp, rfl, hown, hb4⟩
  obtain ⟨x4, rfl⟩ : ∃ y : KeptW W, w4 = y.v := ⟨⟨w4, b_then x3.below hb4⟩, rfl⟩
  go_wp2_with fail
  refine (hrefs (by omega) _ (b_then hb0 x4.below)).mono ?_
  rintro e5 w5 ⟨rfl, hb5⟩
  obtain ⟨x5, rfl⟩ : ∃ y : KeptW W, w5 = y.v := ⟨⟨w5, b_then x4.below hb5⟩, rfl⟩
  have hown5 := pr_below hown hb5
  clear hown hrefs hb4 hb3
  by_cases h0 : reqsErr l = 0
  · have h64 : l.length ≤ 64 := by
      unfold reqsErr at h0
      by_cases h2 : 64 < l.length
      · rw [if_pos h2] at h0; omega
      · omega
    have hP : pairsOf l = pairsGo l l 0 [] := by unfold pairsOf; rw [if_neg (by simp [h0])]
    have hPl := pairsGo_len l l 0 []
    have hrefp' := hrefp h64
    rw [h0]
    rw [hP] at hown5 ⊢
    generalize pairsGo l l 0 [] = P at *
    obtain ⟨pl, pe⟩ := P
    simp only [List.length_nil, Nat.zero_add] at hPl hown5 ⊢
    clear hrefp hP h0
    go_wp2_with fail
    refine (hrefp' _ (b_then hb0 x5.below)).mono ?_
    rintro e6 w6 ⟨⟨vw, rfl, hown6⟩, hb6⟩
    obtain ⟨x6, rfl⟩ : ∃ y : KeptW W, w6 = y.v := ⟨⟨w6, b_then x5.below hb6⟩, rfl⟩
    have hown7 := pr_below hown5 hb6
    have hsame : ∀ y : KeptW x6.v, Calls Tryz.prog 13 #[vp, vw] y.v fun e w' => e = .returned (.bool true) ∧ Below y.v.heap.size y.v w' := fun y =>
      (SameP_same pl _ _ vp vw y.v (pr_below hown7 y.below) (pr_below hown6 y.below) (by omega)).mono fun e w' ⟨h1, m, h2⟩ => ⟨h1, by rw [h2]; exact ⟨rfl, rfl, rfl, Nat.le_refl _, fun _ _ => rfl⟩⟩
    clear hown5 hown6 hown7 hrefp' hb5 hb6
    go_wp2_with fail
    have m0 : ∀ y : KeptW x6.v, y.v.cell? ⟨w.heap.size, 0, none⟩ = _ := fun y => y.cell (k0 x6)
    have m1 : ∀ y : KeptW x6.v, y.v.cell? ⟨w.heap.size, 1, none⟩ = _ := fun y => y.cell (k1 x6)
    have m2 : ∀ y : KeptW x6.v, y.v.cell? ⟨w.heap.size, 2, none⟩ = _ := fun y => y.cell (k2 x6)
    have m3 : ∀ y : KeptW x6.v, y.v.cell? ⟨w.heap.size, 3, none⟩ = _ := fun y => y.cell (k3 x6)
    have m4 : ∀ y : KeptW x6.v, y.v.cell? ⟨w.heap.size, 4, none⟩ = _ := fun y => y.cell (k4 x6)
    have m5 : ∀ y : KeptW x6.v, y.v.cell? ⟨w.heap.size, 5, none⟩ = _ := fun y => y.cell (k5 x6)
    have m6 : ∀ y : KeptW x6.v, y.v.cell? ⟨w.heap.size, 6, none⟩ = _ := fun y => y.cell (k6 x6)
    have m7 : ∀ y : KeptW x6.v, y.v.cell? ⟨w.heap.size, 7, none⟩ = _ := fun y => y.cell (k7 x6)
    have m8 : ∀ y : KeptW x6.v, y.v.cell? ⟨w.heap.size, 8, none⟩ = _ := fun y => y.cell (k8 x6)
    have m9 : ∀ y : KeptW x6.v, y.v.cell? ⟨w.heap.size, 9, none⟩ = _ := fun y => y.cell (k9 x6)
    have m10 : ∀ y : KeptW x6.v, y.v.cell? ⟨w.heap.size, 10, none⟩ = _ := fun y => y.cell (k10 x6)
    have m11 : ∀ y : KeptW x6.v, y.v.cell? ⟨w.heap.size, 11, none⟩ = _ := fun y => y.cell (k11 x6)
    have m12 : ∀ y : KeptW x6.v, y.v.cell? ⟨w.heap.size, 12, none⟩ = _ := fun y => y.cell (k12 x6)
    have hne : Nonempty (KeptW x6.v) := ⟨⟨x6.v, Below.refl _ _⟩⟩
    clear k0 k1 k2 k3 k4 k5 k6 k7 k8 k9 k10 k11 k12
    have hpp : (pe == pe) = true := by simp
    refine region_kept (by kernel_rfl) (by kernel_rfl) ?_
    go_big_quiet_step (fail)
    go_big_quiet_step (exact KeptW.calls (hreq _))
    go_big_quiet_step (fail)
    go_big_quiet_step (exact KeptW.calls (href _))
    iterate 4 (go_big_quiet_step (fail))
    go_big_quiet_step (exact KeptW.calls (hsame _))
    iterate 7 (go_big_quiet_step (fail))
    go_big_quiet_step (exact KeptW.calls (awake2_true _))
    iterate 2 (go_big_quiet_step (fail))
    refine wpQuiet_nil ?_
    rintro _ ⟨y, rfl⟩
    have hby := b_then (b_then hb0 x6.below) y.below
    clear m0 m1 m2 m3 m4 m5 m6 m7 m8 m9 m10 m11 m12
    go_wp2_with fail
    go_ret
    exact ⟨rfl, hby⟩
  · have hP : pairsOf l = ([], reqsErr l) := by unfold pairsOf; rw [if_pos h0]
    rw [hP] at hown5 ⊢
    have hb0' : (reqsErr l == 0) = false := by simpa using h0
    generalize reqsErr l = pe at *
    simp only [List.length_nil] at hown5 ⊢
    clear hrefp hP h0
    have hsame : ∀ y : KeptW x5.v, Calls Tryz.prog 13 #[vp, .slice none 0 0] y.v fun e w' => e = .returned (.bool true) ∧ Below y.v.heap.size y.v w' := fun y =>
      (SameP_same [] _ 0 vp (.slice none 0 0) y.v (pr_below hown5 y.below) (World.ownsRow_nil _ _ _ _) (by simp)).mono fun e w' ⟨h1, m, h2⟩ => ⟨h1, by rw [h2]; exact ⟨rfl, rfl, rfl, Nat.le_refl _, fun _ _ => rfl⟩⟩
    clear hown5 hb5
    go_wp2_with fail
    have m0 : ∀ y : KeptW x5.v, y.v.cell? ⟨w.heap.size, 0, none⟩ = _ := fun y => y.cell (k0 x5)
    have m1 : ∀ y : KeptW x5.v, y.v.cell? ⟨w.heap.size, 1, none⟩ = _ := fun y => y.cell (k1 x5)
    have m2 : ∀ y : KeptW x5.v, y.v.cell? ⟨w.heap.size, 2, none⟩ = _ := fun y => y.cell (k2 x5)
    have m3 : ∀ y : KeptW x5.v, y.v.cell? ⟨w.heap.size, 3, none⟩ = _ := fun y => y.cell (k3 x5)
    have m4 : ∀ y : KeptW x5.v, y.v.cell? ⟨w.heap.size, 4, none⟩ = _ := fun y => y.cell (k4 x5)
    have m5 : ∀ y : KeptW x5.v, y.v.cell? ⟨w.heap.size, 5, none⟩ = _ := fun y => y.cell (k5 x5)
    have m6 : ∀ y : KeptW x5.v, y.v.cell? ⟨w.heap.size, 6, none⟩ = _ := fun y => y.cell (k6 x5)
    have m7 : ∀ y : KeptW x5.v, y.v.cell? ⟨w.heap.size, 7, none⟩ = _ := fun y => y.cell (k7 x5)
    have m8 : ∀ y : KeptW x5.v, y.v.cell? ⟨w.heap.size, 8, none⟩ = _ := fun y => y.cell (k8 x5)
    have m9 : ∀ y : KeptW x5.v, y.v.cell? ⟨w.heap.size, 9, none⟩ = _ := fun y => y.cell (k9 x5)
    have m10 : ∀ y : KeptW x5.v, y.v.cell? ⟨w.heap.size, 10, none⟩ = _ := fun y => y.cell (k10 x5)
    have m11 : ∀ y : KeptW x5.v, y.v.cell? ⟨w.heap.size, 11, none⟩ = _ := fun y => y.cell (k11 x5)
    have m12 : ∀ y : KeptW x5.v, y.v.cell? ⟨w.heap.size, 12, none⟩ = _ := fun y => y.cell (k12 x5)
    have hne : Nonempty (KeptW x5.v) := ⟨⟨x5.v, Below.refl _ _⟩⟩
    clear k0 k1 k2 k3 k4 k5 k6 k7 k8 k9 k10 k11 k12
    have hpp : (pe == pe) = true := by simp
    refine region_kept (by kernel_rfl) (by kernel_rfl) ?_
    go_big_quiet_step (fail)
    go_big_quiet_step (exact KeptW.calls (hreq _))
    go_big_quiet_step (fail)
    go_big_quiet_step (exact KeptW.calls (href _))
    iterate 4 (go_big_quiet_step (fail))
    go_big_quiet_step (exact KeptW.calls (hsame _))
    iterate 7 (go_big_quiet_step (fail))
    go_big_quiet_step (exact KeptW.calls (awake2_true _))
    iterate 2 (go_big_quiet_step (fail))
    refine wpQuiet_nil ?_
    rintro _ ⟨y, rfl⟩
    have hby := b_then (b_then hb0 x5.below) y.below
    clear m0 m1 m2 m3 m4 m5 m6 m7 m8 m9 m10 m11 m12
    go_wp2_with fail
    go_ret
    exact ⟨rfl, hby⟩
end Go.Proofs.YtnakmgeompjhpaaGreat
