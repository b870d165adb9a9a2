/- Contracts of package calendar: Equivalent with an error; blocks of two or three cells. -/
import Derived.Test.YtijnabgehlkghaaGreatDoorEqui
import Derived.Test.YtijnabgehlkghaaGreatDoorCal3
namespace Go.Proofs.YtijnabgehlkghaaGreatDoor
open Go Go.RowKit
def equiE (e y : Int) (s ok : ByteArray) : Int := fst [e, seasonErr y s, unl (ok.toList == s.toList) 13]
set_option maxRecDepth 100000 in
set_option maxHeartbeats 1000000 in
theorem Equi_err (d y oy e : Int) (s ok : ByteArray) (w : World) (ht : HeldTab w) (hs : HeldSea w)
    (hSO : ∀ w, HeldTab w → HeldSea w → Calls Tryz.prog 46 #[.int .i64 d] w fun r w' => r = .returned (.tuple #[.agg #[.int .i64 oy, .string ok], .int .i64 e]) ∧ Below w.heap.size w w') (he : equiE e y s ok ≠ 0) :
    Calls Tryz.prog 47 #[.int .i64 d, .agg #[.int .i64 y, .string s]] w fun r w' => r = .returned (.tuple #[.int .i64 0, .int .i64 (equiE e y s ok)]) ∧ Below w.heap.size w w' := by
  have HE : Hid ((equiE e y s ok != 0) = true) := Lib.hid (by rw [bne_iff_ne]; exact he)
  have HSO := Lib.hid hSO
  have HT := Lib.hid ht; have HS := Lib.hid hs
  clear ht hs he hSO
  obtain ⟨W, HW, hb0, hc0, hc1⟩ : ∃ W, Hid (w.alloc (.cells #[.int .i64 y, .string s] 61) = W) ∧ Below w.heap.size w W ∧ W.cell? ⟨w.heap.size, 0, none⟩ = some (.int .i64 y) ∧ W.cell? ⟨w.heap.size, 1, none⟩ = some (.string s) := ⟨_, Lib.hid rfl, below_alloc w _, by simp, by simp⟩
  go_enter Tryz.func47, Tryz.ntmps47
  go_wp2_with fail
  rw [HW.out]
  refine (HSO.out _ (HT.out.below hb0) (HS.out.below hb0)).mono ?_
  rintro e1 w1 ⟨rfl, hb1⟩
  have k0 := b_old hb1 hc0
  have k1 := b_old hb1 hc1
  have hb01 := b_then hb0 hb1
  clear hb1 hc0 hc1
  go_wp2_with fail
  obtain ⟨V, hV, hbV, c0, c1, o0, o1⟩ : ∃ V, w1.alloc (.cells #[.int .i64 oy, .string ok] 61) = V ∧ Below w.heap.size w V ∧ V.cell? ⟨w.heap.size, 0, none⟩ = some (.int .i64 y) ∧ V.cell? ⟨w.heap.size, 1, none⟩ = some (.string s) ∧ V.cell? ⟨w1.heap.size, 0, none⟩ = some (.int .i64 oy) ∧ V.cell? ⟨w1.heap.size, 1, none⟩ = some (.string ok) :=
    ⟨_, rfl, b_then hb01 (below_alloc _ _), b_old (below_alloc _ _) k0, b_old (below_alloc _ _) k1, by simp, by simp⟩
  rw [hV]
  clear hV k0 k1 hb01
  have k0 : ∀ x : KeptW V, x.v.cell? ⟨w.heap.size, 0, none⟩ = some (.int .i64 y) := fun x => x.cell c0
  have k1 : ∀ x : KeptW V, x.v.cell? ⟨w.heap.size, 1, none⟩ = some (.string s) := fun x => x.cell c1
  have l1 : ∀ x : KeptW V, x.v.cell? ⟨w1.heap.size, 1, none⟩ = some (.string ok) := fun x => x.cell o1
  have hne : Nonempty (KeptW V) := ⟨⟨V, Below.refl _ _⟩⟩
  refine tail_kept 9 (by kernel_rfl) (by kernel_rfl) ?_
  simp only [List.take_succ_cons, List.take_zero, List.drop_succ_cons, List.drop_zero]
  iterate 2 (go_big_quiet_step (fail))
  go_big_quiet_step (exact KeptW.calls (CheckSeason_any _ _ _))
  iterate 5 (go_big_quiet_step (fail))
  go_big_quiet_step (exact KeptW.calls_same (unless_any _ _ _))
  refine wpQuiet_nil ?_
  rintro _ ⟨x, rfl⟩
  have hbx := b_then hbV x.below
  clear k0 k1 l1 c0 c1 o0 o1 hbV
  go_wp2_with fail
  refine (fe_new [_, _, _] _ _ _ _ _ rfl rfl (by simp)).mono ?_
  rintro e2 w2 ⟨rfl, hw⟩
  have hb2 : Below w.heap.size w w2 := by rw [hw]; exact b_then hbx (below_alloc _ _)
  rw [show fst [e, seasonErr y s, unl (ok.toList == s.toList) 13] = equiE e y s ok from rfl]
  clear hw
  have hz := HE.out
  go_wp2_with fail
  exact bodyPost_ret (v := .tuple #[.int .i64 0, .int .i64 (equiE e y s ok)]) (by simp [results, Tryz.results47, go_sem]) rfl ⟨rfl, hb2⟩
structure K2 (w : World) (b : Nat) (x y : Value) : Prop where
  a0 : w.cell? ⟨b, 0, none⟩ = some x
  a1 : w.cell? ⟨b, 1, none⟩ = some y
  f0 : w.frozen? ⟨b, 0, none⟩ = false
  f1 : w.frozen? ⟨b, 1, none⟩ = false
structure K3 (w : World) (b : Nat) (x y z : Value) : Prop where
  a0 : w.cell? ⟨b, 0, none⟩ = some x
  a1 : w.cell? ⟨b, 1, none⟩ = some y
  a2 : w.cell? ⟨b, 2, none⟩ = some z
  f0 : w.frozen? ⟨b, 0, none⟩ = false
  f1 : w.frozen? ⟨b, 1, none⟩ = false
  f2 : w.frozen? ⟨b, 2, none⟩ = false
theorem K2.of {w W : World} {b : Nat} {x y : Value} (k : K2 w b x y) (h : W.heap[b]? = w.heap[b]?) : K2 W b x y :=
  ⟨(World.cell?_of_block (w := w) (a := ⟨b, 0, none⟩) h).trans k.a0, (World.cell?_of_block (w := w) (a := ⟨b, 1, none⟩) h).trans k.a1, (World.frozen?_of_block (w := w) (a := ⟨b, 0, none⟩) h).trans k.f0, (World.frozen?_of_block (w := w) (a := ⟨b, 1, none⟩) h).trans k.f1⟩
theorem K3.of {w W : World} {b : Nat} {x y z : Value} (k : K3 w b x y z) (h : W.heap[b]? = w.heap[b]?) : K3 W b x y z :=
  ⟨(World.cell?_of_block (w := w) (a := ⟨b, 0, none⟩) h).trans k.a0, (World.cell?_of_block (w := w) (a := ⟨b, 1, none⟩) h).trans k.a1, (World.cell?_of_block (w := w) (a := ⟨b, 2, none⟩) h).trans k.a2, (World.frozen?_of_block (w := w) (a := ⟨b, 0, none⟩) h).trans k.f0, (World.frozen?_of_block (w := w) (a := ⟨b, 1, none⟩) h).trans k.f1, (World.frozen?_of_block (w := w) (a := ⟨b, 2, none⟩) h).trans k.f2⟩
theorem K2.lt {w : World} {b : Nat} {x y : Value} (k : K2 w b x y) : b < w.heap.size := by have := cell_in k.a0; simpa using this
theorem K3.lt {w : World} {b : Nat} {x y z : Value} (k : K3 w b x y z) : b < w.heap.size := by have := cell_in k.a0; simpa using this
theorem K2.below {w W : World} {b : Nat} {x y : Value} (k : K2 w b x y) (h : Below w.heap.size w W) : K2 W b x y := k.of (h.block b k.lt)
theorem K3.below {w W : World} {b : Nat} {x y z : Value} (k : K3 w b x y z) (h : Below w.heap.size w W) : K3 W b x y z := k.of (h.block b k.lt)
theorem K2.new (w : World) (x y : Value) (T : TypeId) : K2 (w.alloc (.cells #[x, y] T)) w.heap.size x y := ⟨by simp, by simp, by simp, by simp⟩
theorem K3.new (w : World) (x y z : Value) (T : TypeId) : K3 (w.alloc (.cells #[x, y, z] T)) w.heap.size x y z := ⟨by simp, by simp, by simp, by simp, by simp, by simp⟩
theorem K2.set {w W : World} {p : Nat} {a b x y : Value} (h : (w.setCell ⟨p, 0, none⟩ x).setCell ⟨p, 1, none⟩ y = W) (k : K2 w p a b) :
    K2 W p x y ∧ (∀ j, j ≠ p → W.heap[j]? = w.heap[j]?) ∧ Below p w W ∧ W.heap.size = w.heap.size := by
  subst h
  have n01 : (⟨p, 0, none⟩ : Addr) ≠ ⟨p, 1, none⟩ := by simp
  have a0 : (w.setCell ⟨p, 0, none⟩ x).cell? ⟨p, 0, none⟩ = some x := World.cell?_setCell_same _ _ _ k.a0
  have a1 : (w.setCell ⟨p, 0, none⟩ x).cell? ⟨p, 1, none⟩ = some b := (World.cell?_setCell_other _ _ _ _ n01).trans k.a1
  refine ⟨⟨(World.cell?_setCell_other _ _ _ _ n01.symm).trans a0, World.cell?_setCell_same _ _ _ a1, by simp [k.f0], by simp [k.f1]⟩, fun j hj => ?_, ?_, ?_⟩
  · exact (Below.heap_setCell _ ⟨p, 1, none⟩ y j hj).trans (Below.heap_setCell _ ⟨p, 0, none⟩ x j hj)
  · exact ((Below.refl _ _).setCell (p := ⟨p, 0, none⟩) (Nat.le_refl _) x).setCell (p := ⟨p, 1, none⟩) (Nat.le_refl _) y
  · rw [set_size, set_size]
theorem K3.set {w W : World} {p : Nat} {a b c x y z : Value} (h : ((w.setCell ⟨p, 0, none⟩ x).setCell ⟨p, 1, none⟩ y).setCell ⟨p, 2, none⟩ z = W) (k : K3 w p a b c) :
    K3 W p x y z ∧ (∀ j, j ≠ p → W.heap[j]? = w.heap[j]?) ∧ Below p w W ∧ W.heap.size = w.heap.size := by
  subst h
  have n01 : (⟨p, 0, none⟩ : Addr) ≠ ⟨p, 1, none⟩ := by simp
  have n02 : (⟨p, 0, none⟩ : Addr) ≠ ⟨p, 2, none⟩ := by simp
  have n12 : (⟨p, 1, none⟩ : Addr) ≠ ⟨p, 2, none⟩ := by simp
  have a0 : (w.setCell ⟨p, 0, none⟩ x).cell? ⟨p, 0, none⟩ = some x := World.cell?_setCell_same _ _ _ k.a0
  have a1 : (w.setCell ⟨p, 0, none⟩ x).cell? ⟨p, 1, none⟩ = some b := (World.cell?_setCell_other _ _ _ _ n01).trans k.a1
  have a2 : (w.setCell ⟨p, 0, none⟩ x).cell? ⟨p, 2, none⟩ = some c := (World.cell?_setCell_other _ _ _ _ n02).trans k.a2
  have b0 : ((w.setCell ⟨p, 0, none⟩ x).setCell ⟨p, 1, none⟩ y).cell? ⟨p, 0, none⟩ = some x := (World.cell?_setCell_other _ _ _ _ n01.symm).trans a0
  have b1 : ((w.setCell ⟨p, 0, none⟩ x).setCell ⟨p, 1, none⟩ y).cell? ⟨p, 1, none⟩ = some y := World.cell?_setCell_same _ _ _ a1
  have b2 : ((w.setCell ⟨p, 0, none⟩ x).setCell ⟨p, 1, none⟩ y).cell? ⟨p, 2, none⟩ = some c := (World.cell?_setCell_other _ _ _ _ n12).trans a2
  refine ⟨⟨(World.cell?_setCell_other _ _ _ _ n02.symm).trans b0, (World.cell?_setCell_other _ _ _ _ n12.symm).trans b1, World.cell?_setCell_same _ _ _ b2, by simp [k.f0], by simp [k.f1], by simp [k.f2]⟩, fun j hj => ?_, ?_, ?_⟩
  · exact (Below.heap_setCell _ ⟨p, 2, none⟩ z j hj).trans ((Below.heap_setCell _ ⟨p, 1, none⟩ y j hj).trans (Below.heap_setCell _ ⟨p, 0, none⟩ x j hj))
  · exact (((Below.refl _ _).setCell (p := ⟨p, 0, none⟩) (Nat.le_refl _) x).setCell (p := ⟨p, 1, none⟩) (Nat.le_refl _) y).setCell (p := ⟨p, 2, none⟩) (Nat.le_refl _) z
  · rw [set_size, set_size, set_size]
end Go.Proofs.YtijnabgehlkghaaGreatDoor
