/- Contracts: the reference's texts of dates. -/
import Derived.Test.YtbpoljebkhccjaaGreatDoorRef1
import Derived.Test.YtbpoljebkhccjaaGreatDoorPrint2
import Derived.Test.YtbpoljebkhccjaaGreatDoorArr3
namespace Go.Proofs.YtbpoljebkhccjaaGreatDoor
open Go Go.RowKit
def wideL : Nat → Nat → List UInt8
  | _, 0 => []
  | n, k + 1 => wideL (n / 10) k ++ [dig (n % 10)]
theorem wide_2 (n : Nat) (h : n < 100) : wideL n 2 = pad2 n := by
  simp only [wideL, pad2, List.nil_append, List.cons_append]
  rw [show n / 10 % 10 = n / 10 by omega]
theorem wide_4 (n : Nat) (h : n < 10000) : wideL n 4 = pad4 n := by
  simp only [wideL, pad4, pad2, List.nil_append, List.cons_append]
  rw [show n / 10 / 10 / 10 % 10 = n / 100 / 10 by omega, show n / 10 / 10 % 10 = n / 100 % 10 by omega, show n / 10 % 10 = n % 100 / 10 by omega, show n % 10 = n % 100 % 10 by omega]
theorem qdigit_any (n : Nat) (w : World) (h : n < 10) :
    Calls Tryz.prog 88 #[.int .i64 n] w fun r w' => r = .returned (.string ⟨#[dig n]⟩) ∧ w' = w := by
  have hn : n = 0 ∨ n = 1 ∨ n = 2 ∨ n = 3 ∨ n = 4 ∨ n = 5 ∨ n = 6 ∨ n = 7 ∨ n = 8 ∨ n = 9 := by omega
  rcases hn with rfl | rfl | rfl | rfl | rfl | rfl | rfl | rfl | rfl | rfl
  all_goals
    go_enter Tryz.func88, Tryz.ntmps88
    go_wp2_with fail
    go_ret
    exact ⟨by rfl, rfl⟩
theorem qwide_any (k : Nat) : ∀ (n : Nat) (w : World), k ≤ 9 → n ≤ 100000 →
    Calls Tryz.prog 83 #[.int .i64 n, .int .i64 k] w fun r w' => r = .returned (.string ⟨(wideL n k).toArray⟩) ∧ Below w.heap.size w w' := by
  induction k with
  | zero =>
    intro n w hk hn
    go_enter Tryz.func83, Tryz.ntmps83
    go_wp2_with fail
    go_ret
    exact ⟨rfl, Below.refl _ _⟩
  | succ k ih =>
    intro n w hk hn
    have HI := Lib.hid (fun w => ih (n / 10) w (by omega) (by omega))
    clear ih
    have HD := Lib.hid (fun w => qdigit_any (n % 10) w (by omega))
    have HT : Hid ((⟨(wideL (n / 10) k).toArray⟩ : ByteArray) ++ ⟨#[dig (n % 10)]⟩ = ⟨(wideL n (k + 1)).toArray⟩) := Lib.hid (by rw [cat_lists _ [dig (n % 10)]]; rfl)
    have HS : Hid ((wideL (n / 10) k).length ≤ 9) := Lib.hid (by
      have : ∀ k n, (wideL n k).length = k := fun k => by
        induction k with
        | zero => intro n; rfl
        | succ k ih => intro n; simp [wideL, ih]
      rw [this]; omega)
    generalize wideL (n / 10) k = l at *
    have hs := HS.out
    go_enter Tryz.func83, Tryz.ntmps83
    go_wp2_with fail
    refine (HI.out _).mono ?_
    rintro e w1 ⟨rfl, hb⟩
    go_wp2_with fail
    refine (HD.out _).mono ?_
    rintro e w2 ⟨rfl, hw⟩
    rw [hw]
    clear hw
    go_wp2_with fail
    go_ret
    exact ⟨by rw [HT.out]; rfl, hb⟩
set_option maxRecDepth 100000 in
set_option maxHeartbeats 1000000 in
theorem qPrintDate_any (d y t : Int) (m : Nat) (w : World) (h0 : 0 ≤ d) (h1 : d ≤ 99999) (hd : IsDate d y m t) :
    Calls Tryz.prog 21 #[.int .i64 d] w fun r w' => r = .returned (.string (dateT y m t)) ∧ Below w.heap.size w w' := by
  go_enter Tryz.func21, Tryz.ntmps21
  go_wp2_with fail
  refine (qDate_any d y t m _ h0 h1 hd).mono ?_
  rintro e w2 ⟨rfl, hb2⟩
  go_wp2_with fail
  obtain ⟨W, hW, hbW, c0, c1, c2⟩ : ∃ W, w2.alloc (.cells #[.int .i64 y, .int .i64 m, .int .i64 t] 22) = W ∧ Below w.heap.size w W ∧ W.cell? ⟨w2.heap.size, 0, none⟩ = some (.int .i64 y) ∧ W.cell? ⟨w2.heap.size, 1, none⟩ = some (.int .i64 m) ∧ W.cell? ⟨w2.heap.size, 2, none⟩ = some (.int .i64 t) :=
    ⟨_, rfl, b_then hb2 (below_alloc _ _), by simp, by simp, by simp⟩
  rw [hW]
  clear hW hb2
  have hy := hd.y1; have hy2 := hd.y2; have hm := hd.m2; have htt := date_t hd
  have P4 : Hid (∀ w, Calls Tryz.prog 83 #[.int .i64 y, .int .i64 4] w fun r w' => r = .returned (.string ⟨(pad4 y.toNat).toArray⟩) ∧ Below w.heap.size w w') := Lib.hid (fun w => by
    have := qwide_any 4 y.toNat w (by omega) (by omega)
    rw [wide_4 _ (by omega)] at this
    rwa [Int.toNat_of_nonneg (by omega)] at this)
  have P2 : Hid (∀ w, Calls Tryz.prog 83 #[.int .i64 t, .int .i64 2] w fun r w' => r = .returned (.string ⟨(pad2 t.toNat).toArray⟩) ∧ Below w.heap.size w w') := Lib.hid (fun w => by
    have := qwide_any 2 t.toNat w (by omega) (by omega)
    rw [wide_2 _ (by omega)] at this
    rwa [Int.toNat_of_nonneg (by omega)] at this)
  have PM : Hid (∀ w, Calls Tryz.prog 83 #[.int .i64 m, .int .i64 2] w fun r w' => r = .returned (.string ⟨(pad2 m).toArray⟩) ∧ Below w.heap.size w w') := Lib.hid (fun w => by
    have := qwide_any 2 m w (by omega) (by omega)
    rwa [wide_2 _ (by omega)] at this)
  have L4 : Hid ((pad4 y.toNat).toArray.size = 4) := Lib.hid rfl
  have L2 : Hid ((pad2 m).toArray.size = 2) := Lib.hid rfl
  have L3 : Hid ((pad2 t.toNat).toArray.size = 2) := Lib.hid rfl
  have HT : Hid ((⟨(pad4 y.toNat).toArray⟩ : ByteArray) ++ ⟨#[45]⟩ ++ ⟨(pad2 m).toArray⟩ ++ ⟨#[45]⟩ ++ ⟨(pad2 t.toNat).toArray⟩ = dateT y m t) := Lib.hid (by
    rw [cat_lists _ [45], cat_lists, cat_lists _ [45], cat_lists]
    unfold dateT dateL
    simp)
  generalize pad4 y.toNat = l4 at *
  generalize pad2 m = l2 at *
  generalize pad2 t.toNat = l3 at *
  have e4 := L4.out; have e2 := L2.out; have e3 := L3.out
  have k0 : ∀ x : KeptW W, x.v.cell? ⟨w2.heap.size, 0, none⟩ = some (.int .i64 y) := fun x => x.cell c0
  have k1 : ∀ x : KeptW W, x.v.cell? ⟨w2.heap.size, 1, none⟩ = some (.int .i64 m) := fun x => x.cell c1
  have k2 : ∀ x : KeptW W, x.v.cell? ⟨w2.heap.size, 2, none⟩ = some (.int .i64 t) := fun x => x.cell c2
  have hne : Nonempty (KeptW W) := ⟨⟨W, Below.refl _ _⟩⟩
  refine region_kept (by kernel_rfl) (by kernel_rfl) ?_
  iterate 2 (go_big_quiet_step (fail))
  go_big_quiet_step (exact KeptW.calls (P4.out _))
  iterate 3 (go_big_quiet_step (fail))
  go_big_quiet_step (exact KeptW.calls (PM.out _))
  iterate 4 (go_big_quiet_step (fail))
  go_big_quiet_step (exact KeptW.calls (P2.out _))
  iterate 2 (go_big_quiet_step (fail))
  refine wpQuiet_nil ?_
  rintro _ ⟨x, rfl⟩
  have hbx := b_then hbW x.below
  rw [HT.out]
  go_wp2_with fail
  go_ret
  exact ⟨rfl, hbx⟩
end Go.Proofs.YtbpoljebkhccjaaGreatDoor
