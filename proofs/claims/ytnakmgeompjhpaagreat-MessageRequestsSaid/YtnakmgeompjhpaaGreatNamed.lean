
/- Contracts of check.Named at requests: the error of a request, and that its name is new. -/
import Derived.Test.YtnakmgeompjhpaaGreatReq
import Derived.Test.YtnakmgeompjhpaaGreatSeen
namespace Go.Proofs.YtnakmgeompjhpaaGreat
open Go Go.RowKit Go.ChangeMaps Go.MapKept
theorem reqName_any (q : ReqV) (w : World) : Calls Tryz.prog 71 #[.agg q.cells] w fun r w' => r = .returned (.string q.name) ∧ Below w.heap.size w w' := by
  obtain ⟨W, HW, hb0, R⟩ := req_new w q 25
  obtain ⟨name, carrier, kind, terminal, partner, link, a, b, d, m, s, z, n⟩ := q
  obtain ⟨c0, c1, c2, c3, c4, c5, c6, c7, c8, c9, c10, c11, c12⟩ := R
  simp only [ReqV.cells] at *
  clear c1 c2 c3 c4 c5 c6 c7 c8 c9 c10 c11 c12
  go_enter Tryz.func71, Tryz.ntmps71
  go_wp2_with fail
  rw [HW.out]
  go_wp2_with fail
  go_ret
  exact ⟨rfl, hb0⟩
theorem gb_but {a c : World} (h : a.grownBy c none) (row : Option Nat) : a.grownBy c row := ⟨h.os, h.tape, h.output, h.size, fun i hi _ => h.block i hi (by simp)⟩
theorem gb_trans {a b c : World} {row : Option Nat} (h : a.grownBy b row) (k : b.grownBy c row) : a.grownBy c row :=
  ⟨k.os.trans h.os, k.tape.trans h.tape, k.output.trans h.output, Nat.le_trans h.size k.size, fun i hi hne => (k.block i (Nat.lt_of_lt_of_le hi h.size) hne).trans (h.block i hi hne)⟩
theorem gb_cell {w w' : World} {r : Nat} (h : w.grownBy w' (some r)) {b o : Nat} {v : Value} (hc : w.cell? ⟨b, o, none⟩ = some v) (hne : b ≠ r) : w'.cell? ⟨b, o, none⟩ = some v := by
  rw [World.cell?_of_block (h.block b (cell_in hc) (by simpa using hne))]; exact hc
/-- The four cells of the closure of check.Named, and the strings that were seen. -/
structure NamedW (w : World) (c1 c2 c3 cm m n : Nat) (S : ByteArray → Bool) : Prop where
  f1 : w.cell? ⟨c1, 0, none⟩ = some (.func (.func 11) #[] #[])
  f2 : w.cell? ⟨c2, 0, none⟩ = some (.func (.func 150) #[] #[.pointer (some ⟨cm, 0, none⟩)])
  f3 : w.cell? ⟨c3, 0, none⟩ = some (.func (.func 71) #[] #[])
  f4 : w.cell? ⟨cm, 0, none⟩ = some (.map (some m))
  seen : SeenM w m n S
  n1 : c1 ≠ m
  n2 : c2 ≠ m
  n3 : c3 ≠ m
  n4 : cm ≠ m
set_option maxRecDepth 100000 in
theorem named1_any (c1 c2 c3 cm m n : Nat) (S : ByteArray → Bool) (q : ReqV) (w : World) (h : NamedW w c1 c2 c3 cm m n S) (hq : q.name.size ≤ maxLen) (hn : n < 1000) :
    Calls Tryz.prog 126 #[.agg q.cells, .pointer (some ⟨c1, 0, none⟩), .pointer (some ⟨c2, 0, none⟩), .pointer (some ⟨c3, 0, none⟩)] w
      fun e w' => e = .returned (.int .i64 (fst [reqErr q, unl (!(S q.name)) 9])) ∧ SeenM w' m (n + 1) (onceStep S q.name) ∧ w.grownBy w' (some m) := by
  obtain ⟨W, HW, hb0, R⟩ := req_new w q 25
  obtain ⟨f1, f2, f3, f4, hS, n1, n2, n3, n4⟩ := h
  have g1 := b_old hb0 f1
  have g2 := b_old hb0 f2
  have g3 := b_old hb0 f3
  have g4 := b_old hb0 f4
  have HSW := Lib.hid (hS.below hb0)
  clear f1 f2 f3 f4 hS
  have HQ : Hid (q = q) := Lib.hid rfl
  generalize hr : reqErr q = re
  have hcall : ∀ w : World, Calls Tryz.prog 11 #[.agg q.cells] w fun r w' => r = .returned (.int .i64 re) ∧ Below w.heap.size w w' := fun w => hr ▸ CheckRequest_any q w
  have hname := reqName_any q
  obtain ⟨name, carrier, kind, terminal, partner, link, a, b, d, m', s, z, n'⟩ := q
  obtain ⟨r0, r1, r2, r3, r4, r5, r6, r7, r8, r9, r10, r11, r12⟩ := R
  simp only [ReqV.cells] at *
  have k0 : ∀ x : KeptW W, x.v.cell? ⟨w.heap.size, 0, none⟩ = _ := fun x => x.cell r0
  have k1 : ∀ x : KeptW W, x.v.cell? ⟨w.heap.size, 1, none⟩ = _ := fun x => x.cell r1
  have k2 : ∀ x : KeptW W, x.v.cell? ⟨w.heap.size, 2, none⟩ = _ := fun x => x.cell r2
  have k3 : ∀ x : KeptW W, x.v.cell? ⟨w.heap.size, 3, none⟩ = _ := fun x => x.cell r3
  have k4 : ∀ x : KeptW W, x.v.cell? ⟨w.heap.size, 4, none⟩ = _ := fun x => x.cell r4
  have k5 : ∀ x : KeptW W, x.v.cell? ⟨w.heap.size, 5, none⟩ = _ := fun x => x.cell r5
  have k6 : ∀ x : KeptW W, x.v.cell? ⟨w.heap.size, 6, none⟩ = _ := fun x => x.cell r6
  have k7 : ∀ x : KeptW W, x.v.cell? ⟨w.heap.size, 7, none⟩ = _ := fun x => x.cell r7
  have k8 : ∀ x : KeptW W, x.v.cell? ⟨w.heap.size, 8, none⟩ = _ := fun x => x.cell r8
  have k9 : ∀ x : KeptW W, x.v.cell? ⟨w.heap.size, 9, none⟩ = _ := fun x => x.cell r9
  have k10 : ∀ x : KeptW W, x.v.cell? ⟨w.heap.size, 10, none⟩ = _ := fun x => x.cell r10
  have k11 : ∀ x : KeptW W, x.v.cell? ⟨w.heap.size, 11, none⟩ = _ := fun x => x.cell r11
  have k12 : ∀ x : KeptW W, x.v.cell? ⟨w.heap.size, 12, none⟩ = _ := fun x => x.cell r12
  have j1 : ∀ x : KeptW W, x.v.cell? ⟨c1, 0, none⟩ = _ := fun x => x.cell g1
  have j2 : ∀ x : KeptW W, x.v.cell? ⟨c2, 0, none⟩ = _ := fun x => x.cell g2
  have j3 : ∀ x : KeptW W, x.v.cell? ⟨c3, 0, none⟩ = _ := fun x => x.cell g3
  have hne : Nonempty (KeptW W) := ⟨⟨W, Below.refl _ _⟩⟩
  clear r0 r1 r2 r3 r4 r5 r6 r7 r8 r9 r10 r11 r12 g1 g2 g3
  go_enter Tryz.func126, Tryz.ntmps126
  go_wp2_with fail
  rw [HW.out]
  refine tail_kept 7 (by kernel_rfl) (by kernel_rfl) ?_
  simp only [List.take_succ_cons, List.take_zero, List.drop_succ_cons, List.drop_zero]
  iterate 2 (go_big_quiet_step (fail))
  go_big_quiet_step (exact KeptW.calls (hcall _))
  iterate 3 (go_big_quiet_step (fail))
  go_big_quiet_step (exact KeptW.calls (hname _))
  refine wpQuiet_nil ?_
  rintro _ ⟨x, rfl⟩
  have hbx := b_then hb0 x.below
  have hSx : SeenM x.v m n S := HSW.out.below x.below
  have g4x := x.cell g4
  clear k0 k1 k2 k3 k4 k5 k6 k7 k8 k9 k10 k11 k12 j1 j2 j3 hcall hname HSW g4
  go_wp2_with fail
  refine (once_any cm m n S name x.v g4x hSx hq hn).mono ?_
  rintro e1 w1 ⟨rfl, hS1, hg1⟩
  have hgw : w.grownBy w1 (some m) := gb_trans (gb_but (grown_below hbx) _) hg1
  clear hSx g4x hg1
  go_wp2_with fail
  refine (fe_new [_, _] _ _ _ _ _ rfl rfl (by simp)).mono ?_
  rintro e2 w2 ⟨rfl, hw⟩
  go_wp2_with fail
  go_ret
  subst hw
  exact ⟨rfl, hS1.below (below_alloc _ _), gb_trans hgw (gb_but (grown_below (below_alloc _ _)) _)⟩
end Go.Proofs.YtnakmgeompjhpaaGreat
