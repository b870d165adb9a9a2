/- Contracts of package message: a result, and the error of one. -/
import Derived.Test.YtlcmcknbbmokjaaGreatRmRowsG
import Derived.Test.YtlcmcknbbmokjaaGreatPm2
namespace Go.Proofs.YtlcmcknbbmokjaaGreat
open Go Go.RowKit Go.ChangeMaps Go.MapKept
/-- The cells of a result. -/
structure ResV where
  name : ByteArray
  granted : Bool
  minute : Int
def ResV.cells (q : ResV) : Array Value := #[.string q.name, .bool q.granted, .int .i64 q.minute]
instance : Inhabited ResV := ⟨⟨ByteArray.empty, false, 0⟩⟩
def resErr (q : ResV) : Int := fst [nameE q.name, rng q.minute 0 (if q.granted then 1439 else 0)]
structure ResW (w : World) (b : Nat) (q : ResV) : Prop where
  c0 : w.cell? ⟨b, 0, none⟩ = some (.string q.name)
  c1 : w.cell? ⟨b, 1, none⟩ = some (.bool q.granted)
  c2 : w.cell? ⟨b, 2, none⟩ = some (.int .i64 q.minute)
theorem res_new (w : World) (q : ResV) (T : TypeId) : ∃ W, Hid (w.alloc (.cells q.cells T) = W) ∧ Below w.heap.size w W ∧ ResW W w.heap.size q := by
  refine ⟨_, Lib.hid rfl, below_alloc w _, ?_⟩
  unfold ResV.cells
  constructor <;> simp
set_option maxRecDepth 100000 in
set_option maxHeartbeats 1000000 in
theorem checkResult_any (q : ResV) (w : World) :
    Calls Tryz.prog 178 #[.agg q.cells] w fun r w' => r = .returned (.int .i64 (resErr q)) ∧ Below w.heap.size w w' := by
  obtain ⟨name, g, m⟩ := q
  cases g
  all_goals
    obtain ⟨W, HW, hb0, R⟩ := res_new w ⟨name, _, m⟩ 120
    obtain ⟨c0, c1, c2⟩ := R
    simp only [ResV.cells] at *
    go_enter Tryz.func178, Tryz.ntmps178
    go_wp2_with fail
    try rw [HW.out]
    try go_wp2_with fail
    have k0 : ∀ x : KeptW W, x.v.cell? ⟨w.heap.size, 0, none⟩ = _ := fun x => x.cell c0
    have k1 : ∀ x : KeptW W, x.v.cell? ⟨w.heap.size, 1, none⟩ = _ := fun x => x.cell c1
    have k2 : ∀ x : KeptW W, x.v.cell? ⟨w.heap.size, 2, none⟩ = _ := fun x => x.cell c2
    have hne : Nonempty (KeptW W) := ⟨⟨W, Below.refl _ _⟩⟩
    clear c0 c1 c2
    refine tail_kept 7 (by kernel_rfl) (by kernel_rfl) ?_
    simp only [List.take_succ_cons, List.take_zero, List.drop_succ_cons, List.drop_zero]
    iterate 2 (go_big_quiet_step (fail))
    go_big_quiet_step (exact KeptW.calls (CName_any _ _))
    iterate 3 (go_big_quiet_step (fail))
    go_big_quiet_step (exact KeptW.calls_same (checkRange_any _ _ _ _))
    refine wpQuiet_nil ?_
    rintro _ ⟨x, rfl⟩
    have hbx := b_then hb0 x.below
    clear k0 k1 k2 hb0
    go_wp2_with fail
    refine (fe_new [_, _] _ _ _ _ _ rfl rfl (by simp)).mono ?_
    rintro e2 w2 ⟨rfl, hw⟩
    have hb2 : Below w.heap.size w w2 := by rw [hw]; exact b_then hbx (below_alloc _ _)
    clear hw
    go_wp2_with fail
    go_ret
    exact ⟨rfl, hb2⟩
end Go.Proofs.YtlcmcknbbmokjaaGreat
