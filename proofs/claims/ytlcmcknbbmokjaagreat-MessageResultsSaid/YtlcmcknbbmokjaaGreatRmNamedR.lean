/- Contracts of check.Named and check.List at results: the error of a result, and that its name is new. -/
import Derived.Test.YtlcmcknbbmokjaaGreatRmRes
import Derived.OwnWalk
namespace Go.Proofs.YtlcmcknbbmokjaaGreat
open Go Go.RowKit Go.ChangeMaps Go.MapKept
theorem resName_any (q : ResV) (w : World) : Calls Tryz.prog 177 #[.agg q.cells] w fun r w' => r = .returned (.string q.name) ∧ Below w.heap.size w w' := by
  obtain ⟨W, HW, hb0, R⟩ := res_new w q 120
  obtain ⟨name, granted, minute⟩ := q
  obtain ⟨c0, c1, c2⟩ := R
  simp only [ResV.cells] at *
  clear c1 c2
  go_enter Tryz.func177, Tryz.ntmps177
  go_wp2_with fail
  rw [HW.out]
  go_wp2_with fail
  go_ret
  exact ⟨rfl, hb0⟩
/-- The four cells of the closure of check.Named, and the strings that were seen. -/
structure NamedRW (w : World) (c1 c2 c3 cm m n : Nat) (S : ByteArray → Bool) : Prop where
  f1 : w.cell? ⟨c1, 0, none⟩ = some (.func (.func 178) #[] #[])
  f2 : w.cell? ⟨c2, 0, none⟩ = some (.func (.func 222) #[] #[.pointer (some ⟨cm, 0, none⟩)])
  f3 : w.cell? ⟨c3, 0, none⟩ = some (.func (.func 177) #[] #[])
  f4 : w.cell? ⟨cm, 0, none⟩ = some (.map (some m))
  seen : SeenM w m n S
  n1 : c1 ≠ m
  n2 : c2 ≠ m
  n3 : c3 ≠ m
  n4 : cm ≠ m
set_option maxRecDepth 100000 in
theorem namedR1_any (c1 c2 c3 cm m n : Nat) (S : ByteArray → Bool) (q : ResV) (w : World) (h : NamedRW w c1 c2 c3 cm m n S) (hq : q.name.size ≤ maxLen) (hn : n < 1000) :
    Calls Tryz.prog 213 #[.agg q.cells, .pointer (some ⟨c1, 0, none⟩), .pointer (some ⟨c2, 0, none⟩), .pointer (some ⟨c3, 0, none⟩)] w
      fun e w' => e = .returned (.int .i64 (fst [resErr q, unl (!(S q.name)) 9])) ∧ SeenM w' m (n + 1) (onceStep S q.name) ∧ w.grownBy w' (some m) := by
  obtain ⟨W, HW, hb0, R⟩ := res_new w q 120
  obtain ⟨f1, f2, f3, f4, hS, n1, n2, n3, n4⟩ := h
  have g1 := b_old hb0 f1
  have g2 := b_old hb0 f2
  have g3 := b_old hb0 f3
  have g4 := b_old hb0 f4
  have HSW := Lib.hid (hS.below hb0)
  clear f1 f2 f3 f4 hS
  have HQ : Hid (q = q) := Lib.hid rfl
  generalize hr : resErr q = re
  have hcall : ∀ w : World, Calls Tryz.prog 178 #[.agg q.cells] w fun r w' => r = .returned (.int .i64 re) ∧ Below w.heap.size w w' := fun w => hr ▸ checkResult_any q w
  have hname := resName_any q
  obtain ⟨name, granted, minute⟩ := q
  obtain ⟨r0, r1, r2⟩ := R
  simp only [ResV.cells] at *
  have k0 : ∀ x : KeptW W, x.v.cell? ⟨w.heap.size, 0, none⟩ = _ := fun x => x.cell r0
  have k1 : ∀ x : KeptW W, x.v.cell? ⟨w.heap.size, 1, none⟩ = _ := fun x => x.cell r1
  have k2 : ∀ x : KeptW W, x.v.cell? ⟨w.heap.size, 2, none⟩ = _ := fun x => x.cell r2
  have j1 : ∀ x : KeptW W, x.v.cell? ⟨c1, 0, none⟩ = _ := fun x => x.cell g1
  have j2 : ∀ x : KeptW W, x.v.cell? ⟨c2, 0, none⟩ = _ := fun x => x.cell g2
  have j3 : ∀ x : KeptW W, x.v.cell? ⟨c3, 0, none⟩ = _ := fun x => x.cell g3
  have hne : Nonempty (KeptW W) := ⟨⟨W, Below.refl _ _⟩⟩
  clear r0 r1 r2 g1 g2 g3
  go_enter Tryz.func213, Tryz.ntmps213
  go_wp2_with fail
  rw [HW.out]
  refine tail_kept 7 (by kernel_rfl) (by kernel_rfl) ?_
  simp only [List.take_succ_cons, List.take_zero, List.drop_succ_cons, List.drop_zero]
  iterate 2 (go_big_quiet_step (fail))
  go_big_quiet_step (exact KeptW.calls (hcall _))
  iterate 3 (go_big_quiet_step (fail))
  go_big_quiet_step (exact KeptW.calls (hname _))
  refine wpQuiet_nil ?_
  rintro _ ⟨x, rfl⟩
  have hbx := b_then hb0 x.below
  have hSx : SeenM x.v m n S := HSW.out.below x.below
  have g4x := x.cell g4
  clear k0 k1 k2 j1 j2 j3 hcall hname HSW g4
  go_wp2_with fail
  refine (once_any cm m n S name x.v g4x hSx hq hn).mono ?_
  rintro e1 w1 ⟨rfl, hS1, hg1⟩
  have hgw : w.grownBy w1 (some m) := gb_trans (gb_but (grown_below hbx) _) hg1
  clear hSx g4x hg1
  go_wp2_with fail
  refine (fe_new [_, _] _ _ _ _ _ rfl rfl (by simp)).mono ?_
  rintro e2 w2 ⟨rfl, hw⟩
  go_wp2_with fail
  go_ret
  subst hw
  exact ⟨rfl, hS1.below (below_alloc _ _), gb_trans hgw (gb_but (grown_below (below_alloc _ _)) _)⟩
theorem NamedRW.grown {w w' : World} {c1 c2 c3 cm m n n' : Nat} {S S' : ByteArray → Bool} (h : NamedRW w c1 c2 c3 cm m n S) (hg : w.grownBy w' (some m)) (hS : SeenM w' m n' S') : NamedRW w' c1 c2 c3 cm m n' S' :=
  ⟨gb_cell hg h.f1 h.n1, gb_cell hg h.f2 h.n2, gb_cell hg h.f3 h.n3, gb_cell hg h.f4 h.n4, hS, h.n1, h.n2, h.n3, h.n4⟩
theorem NamedRW.below {w w' : World} {c1 c2 c3 cm m n : Nat} {S : ByteArray → Bool} (h : NamedRW w c1 c2 c3 cm m n S) (hb : Below w.heap.size w w') : NamedRW w' c1 c2 c3 cm m n S :=
  h.grown (gb_but (grown_below hb) _) (h.seen.below hb)
/-- The first error of results, with the names that were seen before them. -/
def namedRErr : List ResV → (ByteArray → Bool) → Int
  | [], _ => 0
  | q :: r, S => if fst [resErr q, unl (!(S q.name)) 9] ≠ 0 then fst [resErr q, unl (!(S q.name)) 9] else namedRErr r (onceStep S q.name)
theorem namedRErr_drop (l : List ResV) (k : Nat) (h : k < l.length) (S : ByteArray → Bool) (q : ResV) (hq : l.getD k default = q) :
    namedRErr (l.drop k) S = if fst [resErr q, unl (!(S q.name)) 9] ≠ 0 then fst [resErr q, unl (!(S q.name)) 9] else namedRErr (l.drop (k + 1)) (onceStep S q.name) := by
  subst hq
  rw [List.drop_eq_getElem_cons h]
  simp only [List.getD_eq_getElem?_getD, List.getElem?_eq_getElem h, Option.getD_some]
  rfl
theorem resList_many (A : Option Addr) (n cap : Nat) (most : Int) (f : Value) (w : World) (h : most < (n : Int)) :
    Calls Tryz.prog 212 #[.slice A n cap, .int .i64 most, f] w fun e w' => e = .returned (.int .i64 5) ∧ w' = w := by
  go_enter Tryz.func212, Tryz.ntmps212
  go_wp2_with fail
  go_ret
  exact ⟨rfl, rfl⟩
set_option maxRecDepth 100000 in
set_option maxHeartbeats 2000000 in
theorem resList_any (c1 c2 c3 cm m : Nat) (S : ByteArray → Bool) (l : List ResV) (b off cap : Nat) (most : Int) (w : World) (h : NamedRW w c1 c2 c3 cm m 0 S) (hl : RowsAt ResV.cells 3 w b off l) (hbm : b ≠ m) (hn : (l.length : Int) ≤ most) (hm : most ≤ 900)
    (hs : ∀ k, k < l.length → (l.getD k default).name.size ≤ maxLen) :
    Calls Tryz.prog 212 #[.slice (some ⟨b, off, none⟩) l.length cap, .int .i64 most, .func (.func 213) #[] #[.pointer (some ⟨c1, 0, none⟩), .pointer (some ⟨c2, 0, none⟩), .pointer (some ⟨c3, 0, none⟩)]] w
      fun e w' => e = .returned (.int .i64 (namedRErr l S)) ∧ w.grownBy w' (some m) := by
  have hgt : ¬ (most < (l.length : Int)) := by omega
  have HN := Lib.hid h
  have HL := Lib.hid hl
  have HS := Lib.hid hs
  clear h hl hs
  have hlen : l.length ≤ 900 := by omega
  go_enter Tryz.func212, Tryz.ntmps212
  go_wp2_with fail
  go_loopw [16] (fun i wr => ∃ (k : Nat) (T : ByteArray → Bool), k ≤ l.length ∧ i = .int .i64 k ∧ Hid (namedRErr l S = namedRErr (l.drop k) T) ∧ Hid (NamedRW wr c1 c2 c3 cm m k T) ∧ Hid (RowsAt ResV.cells 3 wr b off l) ∧ Hid (w.grownBy wr (some m))) (fun i _ => l.length - (intOf i).toNat)
  case atStart => exact ⟨0, S, Nat.zero_le _, rfl, Lib.hid (by simp), HN, HL, Lib.hid (World.grownBy.refl _ _)⟩
  case round =>
    obtain ⟨k, T, hk, rfl, HF, HNW, HQ, HG⟩ := hrel
    by_cases hlt : k < l.length
    · have hd := namedRErr_drop l k hlt T _ rfl
      have hsz := HS.out k hlt
      have hrow := HQ.out.c k hlt
      generalize l.getD k default = q at hd hsz hrow
      have hcall : ∀ w1 : World, NamedRW w1 c1 c2 c3 cm m k T → Calls Tryz.prog 213 #[.agg q.cells, .pointer (some ⟨c1, 0, none⟩), .pointer (some ⟨c2, 0, none⟩), .pointer (some ⟨c3, 0, none⟩)] w1
          fun e w' => e = .returned (.int .i64 (fst [resErr q, unl (!(T q.name)) 9])) ∧ SeenM w' m (k + 1) (onceStep T q.name) ∧ w1.grownBy w' (some m) := fun w1 h1 => namedR1_any c1 c2 c3 cm m k T q w1 h1 hsz (by omega)
      generalize fst [resErr q, unl (!(T q.name)) 9] = e at hd hcall
      generalize onceStep T q.name = T' at hd hcall
      have HD := Lib.hid hd
      clear hd
      obtain ⟨qa, qb, qc⟩ := q
      dsimp only [ResV.cells] at hcall hrow
      have x0 := hrow 0 _ rfl
      have x1 := hrow 1 _ rfl
      have x2 := hrow 2 _ rfl
      clear hrow
      simp only [Nat.add_zero] at x0
      go_wp2_with fail
      refine (hcall _ (HNW.out.below (below_alloc _ _))).mono ?_
      rintro e1 w1 ⟨rfl, hS1, hg1⟩
      have HN1 : Hid (NamedRW w1 c1 c2 c3 cm m (k + 1) T') := Lib.hid ((HNW.out.below (below_alloc _ _)).grown hg1 hS1)
      have hg2 : wr.grownBy w1 (some m) := gb_trans (gb_but (grown_below (below_alloc _ _)) _) hg1
      have HG1 : Hid (w.grownBy w1 (some m)) := Lib.hid (gb_trans HG.out hg2)
      have HQ1 : Hid (RowsAt ResV.cells 3 w1 b off l) := Lib.hid (HQ.out.grown hg2 hbm)
      clear x0 x1 x2 hg1 hg2 hS1 hcall
      by_cases he : e = 0
      · subst he
        go_wp2_with fail
        go_round
        case rel => exact ⟨k + 1, T', by omega, by go_num, Lib.hid (by rw [HF.out, HD.out, if_neg (by simp)]), HN1, HQ1, HG1⟩
        case measure => simp [intOf]; omega
      · have hb : (e != 0) = true := by simpa using he
        have HE := Lib.hid (show namedRErr l S = e by rw [HF.out, HD.out, if_pos he])
        clear he
        go_wp2_with fail
        go_ret
        exact ⟨by rw [HE.out]; rfl, HG1.out⟩
    · have HE := Lib.hid (show namedRErr l S = 0 by rw [HF.out, List.drop_of_length_le (by omega)]; rfl)
      go_wp2_with fail
      go_ret
      exact ⟨by rw [HE.out]; rfl, HG.out⟩
set_option maxRecDepth 100000 in
set_option maxHeartbeats 2000000 in
theorem resNamed_any (l : List ResV) (b off cap : Nat) (most : Int) (w : World) (hl : RowsAt ResV.cells 3 w b off l) (hbs : b < w.heap.size) (hn : (l.length : Int) ≤ most) (hm : most ≤ 900)
    (hs : ∀ k, k < l.length → (l.getD k default).name.size ≤ maxLen) :
    Calls Tryz.prog 176 #[.slice (some ⟨b, off, none⟩) l.length cap, .int .i64 most, .func (.func 177) #[] #[], .func (.func 178) #[] #[]] w
      fun e w' => e = .returned (.int .i64 (namedRErr l fun _ => false)) ∧ Below w.heap.size w w' := by
  have HL := Lib.hid hl
  have HS := Lib.hid hs
  clear hl hs
  go_enter Tryz.func176, Tryz.ntmps176
  go_wp2_with fail
  obtain ⟨W2, HW2, hb2, hs2, x0, x1⟩ : ∃ W2, (w.alloc (.cells #[.func (.func 177) #[] #[]] 237)).alloc (.cells #[.func (.func 178) #[] #[]] 238) = W2 ∧
      Below w.heap.size w W2 ∧ W2.heap.size = w.heap.size + 2 ∧ W2.cell? ⟨w.heap.size, 0, none⟩ = some (.func (.func 177) #[] #[]) ∧ W2.cell? ⟨w.heap.size + 1, 0, none⟩ = some (.func (.func 178) #[] #[]) :=
    ⟨_, rfl, below_alloc2 _ _ _, by simp, b_old (below_alloc _ _) (cell_fresh w [_] _ 0 _ rfl), by have := cell_fresh (w.alloc (.cells #[.func (.func 177) #[] #[]] 237)) [.func (.func 178) #[] #[]] 238 0 (.func (.func 178) #[] #[]) rfl; rw [show (w.alloc (.cells #[.func (.func 177) #[] #[]] 237)).heap.size = w.heap.size + 1 by simp] at this; exact this⟩
  rw [HW2]
  clear HW2
  have hon := Once_new W2
  rw [hs2] at hon
  refine hon.mono ?_
  rintro e1 w1 ⟨rfl, hS1, hcm, hb1, hs1⟩
  clear hon
  have hB1 : Below w.heap.size w w1 := hb2.trans (hb1.mono (by omega))
  have y0 := b_keep hb1 (show w.heap.size < w.heap.size + 2 by omega) x0
  have y1 := b_keep hb1 (show w.heap.size + 1 < w.heap.size + 2 by omega) x1
  have HS1 := Lib.hid hs1
  have hsf := store_func
  clear x0 x1 hb1 hb2 hs1
  go_wp2_with fail
  have hs1 := HS1.out
  have hb3 := below_alloc w1 (.cells #[.func (.func 222) #[] #[.pointer (some ⟨w.heap.size + 2 + 1, 0, none⟩)]] 215)
  have hNW : NamedRW (w1.alloc (.cells #[.func (.func 222) #[] #[.pointer (some ⟨w.heap.size + 2 + 1, 0, none⟩)]] 215)) (w.heap.size + 1) w1.heap.size w.heap.size (w.heap.size + 2 + 1) (w.heap.size + 2) 0 (fun _ => false) :=
    ⟨b_old hb3 y1, cell_fresh w1 [_] _ 0 _ rfl, b_old hb3 y0, b_old hb3 hcm, hS1.below hb3, by omega, by omega, by omega, by omega⟩
  have hB3 := hB1.trans (hb3.mono (by omega))
  refine (resList_any _ _ _ _ _ _ l b off cap most _ hNW (HL.out.below hB3) (by omega) hn hm HS.out).mono ?_
  rintro e2 w2 ⟨rfl, hg⟩
  have hB := hB3.grown hg (by simp; omega) (by rintro k ⟨⟩; omega)
  clear hNW hg hb3
  go_wp2_with fail
  go_ret
  exact ⟨rfl, hB⟩
set_option maxRecDepth 100000 in
theorem resNamed_many (A : Option Addr) (n cap : Nat) (most : Int) (w : World) (h : most < (n : Int)) :
    Calls Tryz.prog 176 #[.slice A n cap, .int .i64 most, .func (.func 177) #[] #[], .func (.func 178) #[] #[]] w
      fun e w' => e = .returned (.int .i64 5) ∧ Below w.heap.size w w' := by
  go_enter Tryz.func176, Tryz.ntmps176
  go_wp2_with fail
  obtain ⟨W2, HW2, hb2⟩ : ∃ W2, (w.alloc (.cells #[.func (.func 177) #[] #[]] 237)).alloc (.cells #[.func (.func 178) #[] #[]] 238) = W2 ∧
      Below w.heap.size w W2 := ⟨_, rfl, below_alloc2 _ _ _⟩
  rw [HW2]
  clear HW2
  refine (Once_new W2).mono ?_
  rintro e1 w1 ⟨rfl, hS1, hcm, hb1, hs1⟩
  have hB1 := b_then hb2 hb1
  have hsf := store_func
  clear hS1 hcm hb1 hb2 hs1
  go_wp2_with fail
  have hB3 := b_then hB1 (below_alloc w1 (.cells #[.func (.func 222) #[] #[.pointer (some ⟨W2.heap.size + 1, 0, none⟩)]] 215))
  refine (resList_many _ _ _ _ _ _ h).mono ?_
  rintro e2 w2 ⟨rfl, rfl⟩
  go_wp2_with fail
  go_ret
  exact ⟨rfl, hB3⟩
/-- The error of results. -/
def ressErr (l : List ResV) : Int := if 64 < l.length then 5 else namedRErr l fun _ => false
theorem checkRess_any (l : List ResV) (b off cap : Nat) (w : World) (hl : RowsAt ResV.cells 3 w b off l) (hbs : b < w.heap.size) (hs : ∀ k, k < l.length → (l.getD k default).name.size ≤ maxLen) :
    Calls Tryz.prog 112 #[.slice (some ⟨b, off, none⟩) l.length cap] w fun e w' => e = .returned (.int .i64 (ressErr l)) ∧ Below w.heap.size w w' := by
  have hH : Calls Tryz.prog 176 #[.slice (some ⟨b, off, none⟩) l.length cap, .int .i64 64, .func (.func 177) #[] #[], .func (.func 178) #[] #[]] w
      fun e w' => e = .returned (.int .i64 (ressErr l)) ∧ Below w.heap.size w w' := by
    unfold ressErr
    by_cases h : 64 < l.length
    · rw [if_pos h]; exact resNamed_many _ _ _ _ _ (by omega)
    · rw [if_neg h]; exact resNamed_any l b off cap 64 w hl hbs (by omega) (by omega) hs
  generalize ressErr l = e at *
  generalize l.length = n at *
  go_enter Tryz.func112, Tryz.ntmps112
  go_wp2_with fail
  refine hH.mono ?_
  rintro e2 w2 ⟨rfl, hb⟩
  go_wp2_with fail
  go_ret
  exact ⟨rfl, hb⟩
end Go.Proofs.YtlcmcknbbmokjaaGreat
