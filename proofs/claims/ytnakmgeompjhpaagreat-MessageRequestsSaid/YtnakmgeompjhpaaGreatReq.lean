
/- Contracts of package message: CheckRequest. -/
import Derived.Test.YtnakmgeompjhpaaGreatTerms
import Derived.Test.YtnakmgeompjhpaaGreatPer
import Derived.Test.YtnakmgeompjhpaaGreatKept
namespace Go.Proofs.YtnakmgeompjhpaaGreat
open Go Go.RowKit
/-- The cells of a request. -/
structure ReqV where
  name : ByteArray
  carrier : ByteArray
  kind : ByteArray
  terminal : ByteArray
  partner : ByteArray
  link : ByteArray
  from_ : Int
  to : Int
  days : Int
  minute : Int
  seats : Int
  size : Int
  noise : Int
def ReqV.cells (q : ReqV) : Array Value := #[.string q.name, .string q.carrier, .string q.kind, .string q.terminal, .string q.partner, .string q.link, .int .i64 q.from_, .int .i64 q.to, .int .i64 q.days, .int .i64 q.minute, .int .i64 q.seats, .int .i64 q.size, .int .i64 q.noise]
def reqErr (q : ReqV) : Int := fst [nameE q.name, nameE q.carrier, nameE q.partner, optE q.terminal, optE q.link, kindE q.kind, unl (q.link.toList != q.name.toList) 32, perErr q.from_ q.to q.days, rng q.minute 0 1439, rng q.seats 0 999, rng q.size 1 9, rng q.noise 0 99]
structure ReqW (w : World) (b : Nat) (q : ReqV) : Prop where
  c0 : w.cell? ⟨b, 0, none⟩ = some (.string q.name)
  c1 : w.cell? ⟨b, 1, none⟩ = some (.string q.carrier)
  c2 : w.cell? ⟨b, 2, none⟩ = some (.string q.kind)
  c3 : w.cell? ⟨b, 3, none⟩ = some (.string q.terminal)
  c4 : w.cell? ⟨b, 4, none⟩ = some (.string q.partner)
  c5 : w.cell? ⟨b, 5, none⟩ = some (.string q.link)
  c6 : w.cell? ⟨b, 6, none⟩ = some (.int .i64 q.from_)
  c7 : w.cell? ⟨b, 7, none⟩ = some (.int .i64 q.to)
  c8 : w.cell? ⟨b, 8, none⟩ = some (.int .i64 q.days)
  c9 : w.cell? ⟨b, 9, none⟩ = some (.int .i64 q.minute)
  c10 : w.cell? ⟨b, 10, none⟩ = some (.int .i64 q.seats)
  c11 : w.cell? ⟨b, 11, none⟩ = some (.int .i64 q.size)
  c12 : w.cell? ⟨b, 12, none⟩ = some (.int .i64 q.noise)
theorem req_new (w : World) (q : ReqV) (T : TypeId) : ∃ W, Hid (w.alloc (.cells q.cells T) = W) ∧ Below w.heap.size w W ∧ ReqW W w.heap.size q := by
  refine ⟨_, Lib.hid rfl, below_alloc w _, ?_⟩
  unfold ReqV.cells
  constructor <;> simp
set_option maxRecDepth 100000 in
set_option maxHeartbeats 1000000 in
theorem CheckRequest_any (q : ReqV) (w : World) :
    Calls Tryz.prog 11 #[.agg q.cells] w fun r w' => r = .returned (.int .i64 (reqErr q)) ∧ Below w.heap.size w w' := by
  have HE : Hid (reqErr q = fst [nameE q.name, nameE q.carrier, nameE q.partner, optE q.terminal, optE q.link, kindE q.kind, unl (q.link.toList != q.name.toList) 32, perErr q.from_ q.to q.days, rng q.minute 0 1439, rng q.seats 0 999, rng q.size 1 9, rng q.noise 0 99]) := Lib.hid rfl
  obtain ⟨W, HW, hb0, R⟩ := req_new w q 25
  obtain ⟨name, carrier, kind, terminal, partner, link, a, b, d, m, s, z, n⟩ := q
  obtain ⟨c0, c1, c2, c3, c4, c5, c6, c7, c8, c9, c10, c11, c12⟩ := R
  simp only [ReqV.cells] at *
  have k0 : ∀ x : KeptW W, x.v.cell? ⟨w.heap.size, 0, none⟩ = _ := fun x => x.cell c0
  have k1 : ∀ x : KeptW W, x.v.cell? ⟨w.heap.size, 1, none⟩ = _ := fun x => x.cell c1
  have k2 : ∀ x : KeptW W, x.v.cell? ⟨w.heap.size, 2, none⟩ = _ := fun x => x.cell c2
  have k3 : ∀ x : KeptW W, x.v.cell? ⟨w.heap.size, 3, none⟩ = _ := fun x => x.cell c3
  have k4 : ∀ x : KeptW W, x.v.cell? ⟨w.heap.size, 4, none⟩ = _ := fun x => x.cell c4
  have k5 : ∀ x : KeptW W, x.v.cell? ⟨w.heap.size, 5, none⟩ = _ := fun x => x.cell c5
  have k6 : ∀ x : KeptW W, x.v.cell? ⟨w.heap.size, 6, none⟩ = _ := fun x => x.cell c6
  have k7 : ∀ x : KeptW W, x.v.cell? ⟨w.heap.size, 7, none⟩ = _ := fun x => x.cell c7
  have k8 : ∀ x : KeptW W, x.v.cell? ⟨w.heap.size, 8, none⟩ = _ := fun x => x.cell c8
  have k9 : ∀ x : KeptW W, x.v.cell? ⟨w.heap.size, 9, none⟩ = _ := fun x => x.cell c9
  have k10 : ∀ x : KeptW W, x.v.cell? ⟨w.heap.size, 10, none⟩ = _ := fun x => x.cell c10
  have k11 : ∀ x : KeptW W, x.v.cell? ⟨w.heap.size, 11, none⟩ = _ := fun x => x.cell c11
  have k12 : ∀ x : KeptW W, x.v.cell? ⟨w.heap.size, 12, none⟩ = _ := fun x => x.cell c12
  have hne : Nonempty (KeptW W) := ⟨⟨W, Below.refl _ _⟩⟩
  clear c0 c1 c2 c3 c4 c5 c6 c7 c8 c9 c10 c11 c12
  go_enter Tryz.func11, Tryz.ntmps11
  go_wp2_with fail
  rw [HW.out]
  refine tail_kept 39 (by kernel_rfl) (by kernel_rfl) ?_
  simp only [List.take_succ_cons, List.take_zero, List.drop_succ_cons, List.drop_zero]
  iterate 3
    iterate 2 (go_big_quiet_step (fail))
    go_big_quiet_step (exact KeptW.calls (CName_any _ _))
  iterate 2
    iterate 2 (go_big_quiet_step (fail))
    go_big_quiet_step (exact KeptW.calls (COpt_any _ _))
  iterate 2 (go_big_quiet_step (fail))
  go_big_quiet_step (exact KeptW.calls_same (CKind_any _ _))
  iterate 5 (go_big_quiet_step (fail))
  go_big_quiet_step (exact KeptW.calls_same (unless_any _ _ _))
  iterate 2 (go_big_quiet_step (fail))
  go_big_quiet_step (exact KeptW.calls (CheckPeriod_any _ _ _ _))
  iterate 2 (go_big_quiet_step (fail))
  go_big_quiet_step (exact KeptW.calls_same (CMinute_any _ _))
  iterate 3
    iterate 2 (go_big_quiet_step (fail))
    go_big_quiet_step (exact KeptW.calls_same (checkRange_any _ _ _ _))
  refine wpQuiet_nil ?_
  rintro _ ⟨x, rfl⟩
  have hbx := b_then hb0 x.below
  clear k0 k1 k2 k3 k4 k5 k6 k7 k8 k9 k10 k11 k12 hb0
  go_wp2_with fail
  refine (fe_new [_, _, _, _, _, _, _, _, _, _, _, _] _ _ _ _ _ rfl rfl (by simp)).mono ?_
  rintro e2 w2 ⟨rfl, hw⟩
  have hb2 : Below w.heap.size w w2 := by rw [hw]; exact b_then hbx (below_alloc _ _)
  clear hw
  go_wp2_with fail
  go_ret
  exact ⟨by rw [HE.out]; rfl, hb2⟩
end Go.Proofs.YtnakmgeompjhpaaGreat
