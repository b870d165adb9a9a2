/- Contracts of package calendar: Summer. -/
import Derived.Test.YtoaimgfekbnijaaDoorUniv
import Derived.Test.YtoaimgfekbnijaaDoorSeason
import Derived.Test.YtoaimgfekbnijaaDoorFlatC
namespace Go.Proofs.YtoaimgfekbnijaaDoor
open Go.RowKit
def cm (y : Int) (m : Nat) : Int := 1440 * Cal.ls y m + 60
def sumCs (o y : Int) : Nat → List (Int × Int)
  | 0 => []
  | n + 1 => sumCs o y n ++ [(cm (y + n) 3, o + 60), (cm (y + n) 10, o)]
theorem sumCs_len (o y : Int) (n : Nat) : (sumCs o y n).length = 2 * n := by
  induction n with
  | zero => rfl
  | succ k ih => simp [sumCs, ih]; omega
theorem flat2_two (l : List (Int × Int)) (a b c d : Int) : flat2 (l ++ [(a, b), (c, d)]) = flat2 l ++ [.int .i64 a, .int .i64 b, .int .i64 c, .int .i64 d] := by simp [flat2]
theorem infoChg : (Tryd.prog.info? 83).map (fun i => (i.zero, i.size, i.bytes)) = some (some (.agg #[.int .i64 0, .int .i64 0]), 2, 16) := by kernel_rfl
theorem changeMoment_any (y m : Int) (w : World) (ht : HeldTab w) (h1 : 2000 ≤ y) (h2 : y ≤ 2300) (h3 : 1 ≤ m) (h4 : m ≤ 12) :
    Calls Tryd.prog 85 #[.int .i64 y, .int .i64 m] w fun r w' => r = .returned (.int .i64 (cm y m.toNat)) ∧ w' = w := by
  have hl := ls_bd y m.toNat h1 h2 (by omega)
  have HC : Hid (cm y m.toNat = 1440 * Cal.ls y m.toNat + 60) := Lib.hid rfl
  go_enter Tryd.func85, Tryd.ntmps85
  go_wp2_with fail
  refine (lastSunday_any _ _ _ ht h1 h2 h3 h4).mono ?_
  rintro e w' ⟨rfl, rfl⟩
  generalize Cal.ls y m.toNat = x at *
  go_wp2_with fail
  go_ret
  exact ⟨ret_int (by rw [HC.out]), rfl⟩
def SumRes (w : World) (o y : Int) (n : Nat) (r : Ending) (w' : World) : Prop :=
  ∃ v, r = .returned (.tuple #[.agg #[.int .i64 o, v], .int .i64 0]) ∧ w'.ownsRow w.heap.size 83 2 v (2 * n) (flat2 (sumCs o y n)) ∧ Below w.heap.size w w'
set_option maxRecDepth 100000 in
set_option maxHeartbeats 1000000 in
theorem Summer_ok (o y z : Int) (w : World) (ht : HeldTab w) (h1 : -720 ≤ o) (h2 : o ≤ 780) (h3 : 2000 ≤ y) (h4 : y ≤ z) (h5 : z ≤ 2272) (h6 : z - y < 32) :
    Calls Tryd.prog 45 #[.int .i64 o, .int .i64 y, .int .i64 z] w (SumRes w o y (z - y + 1).toNat) := by
  obtain ⟨i0, hi, hz0, hz1, hz2⟩ := info_parts infoChg
  obtain ⟨n, hn⟩ : ∃ n : Nat, z = y + n - 1 := ⟨(z - y + 1).toNat, by omega⟩
  subst hn
  have HN : Hid ((y + n - 1 - y + 1).toNat = n) := Lib.hid (by omega)
  have HA : Hid (rng o (-720) 780 = 0) := Lib.hid (rng_ok h1 h2)
  have HB : Hid (rng y 2000 2272 = 0) := Lib.hid (rng_ok h3 (by omega))
  have HC : Hid (rng (y + n - 1) 2000 2272 = 0) := Lib.hid (rng_ok (by omega) h5)
  obtain ⟨W, HW, hb0, R0, hsz⟩ : ∃ W, Hid (w.alloc (.cells #[.int .i64 0, .slice none 0 0] 72) = W) ∧ Below w.heap.size w W ∧ Res 2 w.heap.size W W ∧ w.heap.size + 1 ≤ W.heap.size :=
    ⟨_, Lib.hid rfl, below_alloc w _, ⟨fun i hi => by
        match i, hi with
        | 0, _ => exact ⟨.int .i64 0, by simp⟩
        | 1, _ => exact ⟨.slice none 0 0, by simp⟩, fun i hi => by
        match i, hi with
        | 0, _ => simp
        | 1, _ => simp, Below.refl _ _⟩, by simp⟩
  go_enter Tryd.func45, Tryd.ntmps45
  go_wp2_with fail
  rw [HW.out]
  refine (checkRange_any _ _ _ _).mono ?_
  rintro e w1 ⟨rfl, hw⟩
  rw [HA.out, hw]
  clear hw
  go_wp2_with fail
  refine (checkRange_any _ _ _ _).mono ?_
  rintro e w1 ⟨rfl, hw⟩
  rw [HB.out, hw]
  clear hw
  go_wp2_with fail
  refine (checkRange_any _ _ _ _).mono ?_
  rintro e w1 ⟨rfl, hw⟩
  rw [HC.out, hw]
  clear hw
  go_wp2_with fail
  refine (unless_t _ _).mono ?_
  rintro e w1 ⟨rfl, hw⟩
  rw [hw]
  clear hw
  go_wp2_with fail
  refine (unless_t _ _).mono ?_
  rintro e w1 ⟨rfl, hw⟩
  rw [hw]
  clear hw
  go_wp2_with fail
  refine (fe_new [_, _, _, _, _] _ _ _ _ _ rfl rfl (by simp)).mono ?_
  rintro e w2 ⟨rfl, hw⟩
  have hz00 : (fst [0, 0, 0, 0, 0] != 0) = false := rfl
  have hb2 : Below W.heap.size W w2 := by rw [hw]; exact below_alloc _ _
  have R2 := R0.more (by omega) hb2
  have hb02 := b_then hb0 hb2
  have hs2 : w.heap.size + 1 ≤ w2.heap.size := Nat.le_trans hsz hb2.size
  clear hw hb2 hsz R0
  have HF : Hid ((y + n - 1 - y + 1).toNat = n) := HN
  go_wp2_with fail
  go_loopw [9, 37] (fun v i wr => ∃ (k : Nat), k ≤ n ∧ i = .int .i64 k ∧ wr.ownsRow w2.heap.size 83 2 v (2 * k) (flat2 (sumCs o y k)) ∧ Below w2.heap.size w2 wr) (fun _ i _ => n - (intOf i).toNat)
  case atStart => exact ⟨0, Nat.zero_le _, rfl, World.ownsRow_nil _ _ _ _, Below.refl _ _⟩
  case round =>
    obtain ⟨k, hk, rfl, hown, hbr⟩ := hrel
    by_cases hlt : k < n
    · have htr := ht.below (b_then hb02 hbr)
      have HS : Hid (sumCs o y (k + 1) = sumCs o y k ++ [(cm (y + k) 3, o + 60), (cm (y + k) 10, o)]) := Lib.hid rfl
      have hsr := hbr.size
      go_wp2_with fail
      refine (changeMoment_any _ _ _ htr (by omega) (by omega) (by omega) (by omega)).mono ?_
      rintro e w4 ⟨rfl, hw⟩
      rw [hw, show (3 : Int).toNat = 3 from rfl]
      clear hw
      generalize cm (y + k) 3 = m1 at *
      go_wp2_with fail
      refine (changeMoment_any _ _ _ htr (by omega) (by omega) (by omega) (by omega)).mono ?_
      rintro e w4 ⟨rfl, hw⟩
      rw [hw, show (10 : Int).toNat = 10 from rfl]
      clear hw
      generalize cm (y + k) 10 = m2 at *
      go_wp2_with (at_builtin; refine Hid.out ?_)
      refine Lib.hid ?_
      have hl1 : 2 * k + 2 ≤ maxLen := by unfold maxLen; omega
      refine wpList_append_own _ rfl _ _ 70 rfl w2.heap.size 83 i0 (.agg #[.int .i64 0, .int .i64 0]) 2 16 Tryd.underlying70 hi hz0 hz1 hz2 rfl (by decide) _ (2 * k) _ rfl (hown.alloc _) ⟨wr.heap.size, 0, none⟩ 2 2 [.int .i64 m1, .int .i64 (o + 60), .int .i64 m2, .int .i64 o] rfl rfl
        (World.news_of_block (cs := #[.int .i64 m1, .int .i64 (o + 60), .int .i64 m2, .int .i64 o]) (t := 83) (fr := (0, 0)) (heap_alloc_new wr _)) (by simp [Value.oneCell']) hl1 (by omega) (by simp; omega) ?_
      intro v' w4 hown' hgrow _
      have hgrow2 : (wr.alloc (.cells #[.int .i64 m1, .int .i64 (o + 60), .int .i64 m2, .int .i64 o] 83)).grownBy w4 u9.ownBlock := hgrow
      have hb4 : Below w2.heap.size w2 w4 := (hbr.alloc hbr.size _).grown hgrow2 (by simp; omega) (own_block hown)
      have HOW : Hid (w4.ownsRow w2.heap.size 83 2 v' (2 * (k + 1)) (flat2 (sumCs o y (k + 1)))) := Lib.hid (by rw [HS.out, flat2_two]; exact hown')
      clear hgrow hgrow2 hown' hown HS
      go_wp2_with fail
      go_roundw
      case rel => exact ⟨k + 1, by omega, by go_num, HOW.out, hb4⟩
      case measure => simp [intOf]; omega
    · obtain rfl : k = n := by omega
      have Rr := R2.more (by omega) hbr
      obtain ⟨x0, y0⟩ := Rr.cell 0 (by decide)
      obtain ⟨x1, y1⟩ := Rr.cell 1 (by decide)
      have z0 := Rr.frozen 0 (by decide)
      have z1 := Rr.frozen 1 (by decide)
      obtain ⟨j, hj⟩ : ∃ j, k = j + 1 := ⟨k - 1, by omega⟩
      have hown1 : wr.ownsRow w2.heap.size 83 2 u9 (2 * j + 1 + 1) (flat2 (sumCs o y k)) := by rw [show 2 * j + 1 + 1 = 2 * k from by omega]; exact hown
      obtain ⟨g, cap, rfl⟩ := ownsRow_succ hown1
      have HOW : Hid (((wr.setCell ⟨w.heap.size, 0, none⟩ (.int .i64 o)).setCell ⟨w.heap.size, 1, none⟩ (.slice (some ⟨g, 0, none⟩) (2 * j + 1 + 1) cap)).ownsRow w.heap.size 83 2 (.slice (some ⟨g, 0, none⟩) (2 * j + 1 + 1) cap) (2 * k) (flat2 (sumCs o y k))) :=
        Lib.hid (own_mono (ownsRow_setCell_below (a := ⟨w.heap.size, 1, none⟩) (ownsRow_setCell_below (a := ⟨w.heap.size, 0, none⟩) hown hs2 _) hs2 _) (by omega))
      have hbf : Below w.heap.size w _ := hb0.trans ((Rr.set 0 (.int .i64 o)).set 1 (.slice (some ⟨g, 0, none⟩) (2 * j + 1 + 1) cap)).below
      clear hown hown1
      go_wp2_with fail
      exact bodyPost_ret (v := .tuple #[.agg #[.int .i64 o, .slice (some ⟨g, 0, none⟩) (2 * j + 1 + 1) cap], .int .i64 0]) (by simp [results, Tryd.results45, go_sem, y0, y1]) rfl ⟨_, rfl, by rw [HN.out]; exact HOW.out, hbf⟩
end Go.Proofs.YtoaimgfekbnijaaDoor
