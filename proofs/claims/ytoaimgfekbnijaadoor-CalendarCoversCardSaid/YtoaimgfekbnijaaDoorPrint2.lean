/- Contracts of package calendar: PrintDate. -/
import Derived.Test.YtoaimgfekbnijaaDoorPrint
import Derived.Test.YtoaimgfekbnijaaDoorKept
namespace Go.Proofs.YtoaimgfekbnijaaDoor
open Go.RowKit
theorem HeldPow.below {w w' : World} (h : HeldPow w) (hb : Below w.heap.size w w') : HeldPow w' := Lib.tabBelow_of_tabIs h _ hb
set_option maxRecDepth 100000 in
set_option maxHeartbeats 1000000 in
theorem PrintDate_ok (d y t : Int) (m : Nat) (w : World) (ht : HeldTab w) (hp : HeldPow w) (h0 : 0 ≤ d) (h1 : d ≤ 99999) (hd : IsDate d y m t) :
    Calls Tryd.prog 27 #[.int .i64 d] w fun r w' => r = .returned (.tuple #[.string (dateT y m t), .int .i64 0]) ∧ Below w.heap.size w w' := by
  have HR : Hid (rng d 0 99999 = 0) := Lib.hid (rng_ok h0 h1)
  go_enter Tryd.func27, Tryd.ntmps27
  go_wp2_with fail
  refine (checkDay_any _ _).mono ?_
  rintro e w1 ⟨rfl, hw⟩
  rw [hw, HR.out]
  clear hw
  go_wp2_with fail
  refine (dateOf_any d y t m _ ht h0 h1 hd).mono ?_
  rintro e w2 ⟨rfl, hb2⟩
  go_wp2_with fail
  obtain ⟨W, hW, hbW, c0, c1, c2⟩ : ∃ W, w2.alloc (.cells #[.int .i64 y, .int .i64 m, .int .i64 t] 45) = W ∧ Below w.heap.size w W ∧ W.cell? ⟨w2.heap.size, 0, none⟩ = some (.int .i64 y) ∧ W.cell? ⟨w2.heap.size, 1, none⟩ = some (.int .i64 m) ∧ W.cell? ⟨w2.heap.size, 2, none⟩ = some (.int .i64 t) :=
    ⟨_, rfl, b_then hb2 (below_alloc _ _), by simp, by simp, by simp⟩
  rw [hW]
  clear hW hb2
  have hy := hd.y1; have hy2 := hd.y2; have hm := hd.m2; have htt := date_t hd
  have P4 : Hid (∀ w, HeldPow w → Calls Tryd.prog 70 #[.int .i64 y, .int .i64 4] w fun r w' => r = .returned (.string ⟨(pad4 y.toNat).toArray⟩) ∧ Below w.heap.size w w') := Lib.hid (fun w hp => by
    have := padded_4 y.toNat w (by omega) (by omega) hp
    rwa [Int.toNat_of_nonneg (by omega)] at this)
  have P2 : Hid (∀ w, Calls Tryd.prog 70 #[.int .i64 t, .int .i64 2] w fun r w' => r = .returned (.string ⟨(pad2 t.toNat).toArray⟩) ∧ Below w.heap.size w w') := Lib.hid (fun w => by
    have := padded_2 t.toNat w (by omega)
    rwa [Int.toNat_of_nonneg (by omega)] at this)
  have PM : Hid (∀ w, Calls Tryd.prog 70 #[.int .i64 m, .int .i64 2] w fun r w' => r = .returned (.string ⟨(pad2 m).toArray⟩) ∧ Below w.heap.size w w') := Lib.hid (fun w => padded_2 m w (by omega))
  have L4 : Hid ((pad4 y.toNat).toArray.size = 4) := Lib.hid rfl
  have L2 : Hid ((pad2 m).toArray.size = 2) := Lib.hid rfl
  have L3 : Hid ((pad2 t.toNat).toArray.size = 2) := Lib.hid rfl
  have HT : Hid ((⟨(pad4 y.toNat).toArray⟩ : ByteArray) ++ ⟨#[45]⟩ ++ ⟨(pad2 m).toArray⟩ ++ ⟨#[45]⟩ ++ ⟨(pad2 t.toNat).toArray⟩ = dateT y m t) := Lib.hid (by
    rw [cat_lists _ [45], cat_lists, cat_lists _ [45], cat_lists]
    unfold dateT dateL
    simp)
  have HP := Lib.hid hp
  have HM := hm
  generalize pad4 y.toNat = l4 at *
  generalize pad2 m = l2 at *
  generalize pad2 t.toNat = l3 at *
  have e4 := L4.out; have e2 := L2.out; have e3 := L3.out
  clear hp ht
  have k0 : ∀ x : KeptW W, x.v.cell? ⟨w2.heap.size, 0, none⟩ = some (.int .i64 y) := fun x => x.cell c0
  have k1 : ∀ x : KeptW W, x.v.cell? ⟨w2.heap.size, 1, none⟩ = some (.int .i64 m) := fun x => x.cell c1
  have k2 : ∀ x : KeptW W, x.v.cell? ⟨w2.heap.size, 2, none⟩ = some (.int .i64 t) := fun x => x.cell c2
  have hne : Nonempty (KeptW W) := ⟨⟨W, Below.refl _ _⟩⟩
  refine region_kept (by kernel_rfl) (by kernel_rfl) ?_
  iterate 2 (go_big_quiet_step (fail))
  go_big_quiet_step (exact KeptW.calls (P4.out _ (HP.out.below (b_then hbW (KeptW.below _)))))
  iterate 3 (go_big_quiet_step (fail))
  go_big_quiet_step (exact KeptW.calls (PM.out _))
  iterate 4 (go_big_quiet_step (fail))
  go_big_quiet_step (exact KeptW.calls (P2.out _))
  iterate 3 (go_big_quiet_step (fail))
  refine wpQuiet_nil ?_
  rintro _ ⟨x, rfl⟩
  have hbx := b_then hbW x.below
  rw [HT.out]
  go_wp2_with fail
  exact bodyPost_ret (v := .tuple #[.string (dateT y m t), .int .i64 0]) (by simp [results, Tryd.results27, go_sem]) rfl ⟨rfl, hbx⟩
end Go.Proofs.YtoaimgfekbnijaaDoor
