/- Contracts of package calendar: Draw. -/
import Derived.Test.YtijnabgehlkghaaGreatDoorDraw
import Derived.Deep.WholeRow
namespace Go.Proofs.YtijnabgehlkghaaGreatDoor
open Go Go.RowKit
theorem row_data {w W : World} {b n : Nat} {g : Nat → Int} (h : Row w b n g W) : ∀ j v, ((List.range n).map fun i => Value.int .i64 (g i))[j]? = some v → W.cell? ((⟨b, 0, none⟩ : Addr).add j) = some v := by
  intro j v hj
  have hlt : j < n := by
    have := (List.getElem?_eq_some_iff.1 hj).1
    simpa using this
  have e : v = .int .i64 (g j) := by simpa [hlt] using hj.symm
  subst e
  have := h.c j hlt
  by_cases e0 : j = 0
  · subst e0; simpa [Addr.add] using this
  · simpa [Addr.add, e0] using this
theorem Row.fresh {w V : World} (hb : Below w.heap.size w V) (n : Nat) (g : Nat → Int) (T : TypeId) : Row w V.heap.size n g (V.alloc (.cells ((List.range n).map fun i => Value.int .i64 (g i)).toArray T)) :=
  have hh : (V.alloc (.cells ((List.range n).map fun i => Value.int .i64 (g i)).toArray T)).heap[V.heap.size]? = some (.cells ((List.range n).map fun i => Value.int .i64 (g i)).toArray T (0, 0)) := by show (V.heap.push _)[_]? = _; simp
  ⟨fun i hi => cell_fresh _ _ _ _ _ (by simp [hi]), fun i hi => by
    unfold World.frozen?
    simp only [hh]
    simp, hb.size, b_then hb (below_alloc _ _)⟩
/-- A row that was made is filled by a copy of another one. -/
theorem Row.copied {w V : World} {b n : Nat} {g : Nat → Int} (h : Row w b n g V) :
    ∃ W, (Builtin.copy_ #[50, 50] 3 #[.slice (some ⟨V.heap.size, 0, none⟩) n n, .slice (some ⟨b, 0, none⟩) n n]).run Tryz.prog (V.alloc (.cells (madeCells #[Value.int .i64 0] n) 3)) = .ok (.int .i64 n) W ∧ Row w V.heap.size n g W := by
  have hh : (V.alloc (.cells (madeCells #[Value.int .i64 0] n) 3)).heap[V.heap.size]? = some (.cells (madeCells #[Value.int .i64 0] n) 3 (0, 0)) := by show (V.heap.push _)[_]? = _; simp
  have h' := h.more (below_alloc V (.cells (madeCells #[Value.int .i64 0] n) 3))
  have hr := run_copy_row (P := Tryz.prog) (V.alloc (.cells (madeCells #[Value.int .i64 0] n) 3)) 50 50 3 3 V.heap.size 0 n n ⟨b, 0, none⟩ n n _ 3 ((List.range n).map fun i => Value.int .i64 (g i)) Tryz.underlying50 (by kernel_rfl) hh (by simp)
    (row_data h') (by simp [size_madeCells]) (by intro v hv; obtain ⟨i, _, rfl⟩ := List.mem_map.1 hv; rfl)
  have hlen : ((List.range n).map fun i => Value.int .i64 (g i)).length = n := by simp
  rw [hlen] at hr
  have hcells : ((madeCells #[Value.int .i64 0] n).toList.take 0 ++ ((List.range n).map fun i => Value.int .i64 (g i)) ++ (madeCells #[Value.int .i64 0] n).toList.drop (0 + n)).toArray = ((List.range n).map fun i => Value.int .i64 (g i)).toArray := by
    rw [List.take_zero, List.nil_append, Nat.zero_add, List.drop_of_length_le (by rw [Array.length_toList, size_madeCells]; exact Nat.le_refl _), List.append_nil]
  rw [hcells] at hr
  rw [World.setRow_alloc_new] at hr
  exact ⟨_, hr, Row.fresh h.below n g 3⟩
set_option maxRecDepth 100000 in
set_option maxHeartbeats 1000000 in
theorem shuffled_ok (n b : Nat) (key : Int) (hn : n ≤ 256) (hk1 : 1 ≤ key) (hk2 : key ≤ 2147483646) (w0 w : World) (hb : Row w0 b n upF w) :
    Calls Tryz.prog 107 #[.slice (some ⟨b, 0, none⟩) n n, .int .i64 key] w fun r w' => ∃ b', r = .returned (.slice (some ⟨b', 0, none⟩) n n) ∧ Row w0 b' n (drawF key n) w' := by
  have hmk := run_makeInts n (by omega)
  obtain ⟨V, hcp, R0⟩ := hb.copied
  have HF : Hid (drawF key n = deal (n - 1) key upF) := Lib.hid rfl
  go_enter Tryz.func107, Tryz.ntmps107
  go_wp2_with fail
  clear hmk hcp hb
  go_loopw [6, 7, 8] (fun x i _ wr => ∃ (j : Nat) (X : Int) (g : Nat → Int), j ≤ n ∧ i = .int .i64 ((j : Int) - 1) ∧ x = .int .i64 X ∧ 0 ≤ X ∧ X ≤ 2147483646 ∧ Hid (deal (j - 1) X g = drawF key n) ∧ Row w0 w.heap.size n g wr) (fun _ i _ _ => (intOf i + 1).toNat)
  case atStart => exact ⟨n, key, upF, Nat.le_refl _, rfl, rfl, by omega, by omega, Lib.hid HF.out.symm, R0⟩
  case round =>
    obtain ⟨j, X, g, hj, rfl, rfl, hX1, hX2, HG, hr⟩ := hrel
    by_cases hlt : 2 ≤ j
    · obtain ⟨m, rfl⟩ : ∃ m, j = m + 2 := ⟨j - 2, by omega⟩
      rw [show ((m + 2 : Nat) : Int) - 1 = (m : Int) + 1 from by omega]
      have hN1 : 0 ≤ nextX X ∧ nextX X ≤ 2147483646 := by unfold nextX; omega
      have hNX : Hid (nextX X = 48271 * X % 2147483647) := Lib.hid rfl
      obtain ⟨k, hk, hkm⟩ : ∃ k : Nat, nextX X % ((m : Int) + 1 + 1) = (k : Int) ∧ k < m + 2 := by
        have h1 := Int.emod_nonneg (nextX X) (show (m : Int) + 1 + 1 ≠ 0 by omega)
        have h2 := Int.emod_lt_of_pos (nextX X) (show 0 < (m : Int) + 1 + 1 by omega)
        exact ⟨(nextX X % ((m : Int) + 1 + 1)).toNat, by omega, by omega⟩
      have ci := hr.c (m + 1) (by omega)
      have fi := hr.f (m + 1) (by omega)
      have ck := hr.c k (by omega)
      have fk := hr.f k (by omega)
      have HG2 : Hid (deal m (nextX X) (swapF g (m + 1) k) = drawF key n) := Lib.hid (by
        have := HG.out
        rw [show m + 2 - 1 = m + 1 from rfl] at this
        rw [← this]
        show _ = deal m (nextX X) (swapF g (m + 1) (nextX X % ((m : Int) + 1 + 1)).toNat)
        rw [hk, Int.toNat_natCast])
      clear HG
      go_wp2_with fail
      rw [← hNX.out, hk]
      have hi1 : m + 1 < n := by omega
      have hk1' : k < n := by omega
      have hr2 := hr.set (m + 1) hi1 (g k)
      have d2 := hr2.c k hk1'; have e2 := hr2.f k hk1'
      have hr3 := hr2.set k hk1' (g (m + 1))
      go_region
      go_wp2_with fail
      go_roundw
      case rel => exact ⟨m + 1, nextX X, swapF g (m + 1) k, by omega, by go_num, rfl, hN1.1, hN1.2, HG2, hr3.more (below_drew _)⟩
      case measure => simp [intOf]; omega
    · have HD : Hid (deal (j - 1) X g = g) := Lib.hid (by rw [show j - 1 = 0 from by omega]; rfl)
      have HG3 : Hid (g = drawF key n) := Lib.hid (by rw [← HG.out, HD.out])
      have hlt' : ¬ (1 : Int) ≤ (j : Int) - 1 := by omega
      go_wp2_with fail
      go_ret
      exact ⟨_, rfl, hr.congr fun i _ => by rw [HG3.out]⟩
set_option maxRecDepth 100000 in
theorem Draw_ok (n : Nat) (key : Int) (hn : n ≤ 256) (hk1 : 1 ≤ key) (hk2 : key ≤ 2147483646) (w : World) :
    Calls Tryz.prog 66 #[.int .i64 key, .int .i64 n] w fun r w' => ∃ b, r = .returned (.tuple #[.slice (some ⟨b, 0, none⟩) n n, .int .i64 0]) ∧ Row w b n (drawF key n) w' := by
  have R1 : Hid (rng key 1 2147483646 = 0) := Lib.hid (rng_ok hk1 hk2)
  have R2 : Hid (rng n 0 256 = 0) := Lib.hid (rng_ok (by omega) (by omega))
  go_enter Tryz.func66, Tryz.ntmps66
  go_wp2_with fail
  refine (checkRange_any _ _ _ _).mono ?_
  rintro e w1 ⟨rfl, hw⟩
  rw [hw, R1.out]
  clear hw
  go_wp2_with fail
  refine (checkRange_any _ _ _ _).mono ?_
  rintro e w1 ⟨rfl, hw⟩
  rw [hw, R2.out]
  clear hw
  go_wp2_with fail
  refine (fe_new [_, _] _ _ _ _ _ rfl rfl (by simp)).mono ?_
  rintro e w2 ⟨rfl, hw⟩
  have hb2 : Below w.heap.size w w2 := by rw [hw]; exact below_alloc _ _
  rw [show fst [0, 0] = 0 from rfl]
  clear hw
  go_wp2_with fail
  refine (ascending_ok n hn _).mono ?_
  rintro e w3 ⟨b, rfl, hr⟩
  go_wp2_with fail
  refine (shuffled_ok n b key hn hk1 hk2 _ _ hr).mono ?_
  rintro e w4 ⟨b', rfl, hr4⟩
  have hrw : Row w b' n (drawF key n) w4 := ⟨hr4.c, hr4.f, Nat.le_trans hb2.size hr4.lo, b_then hb2 hr4.below⟩
  go_wp2_with fail
  go_ret2
  exact ⟨_, rfl, hrw⟩
end Go.Proofs.YtijnabgehlkghaaGreatDoor
