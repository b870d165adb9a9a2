/- Contracts: the reference's ShortZone. -/
import Derived.Test.YtbpoljebkhccjaaDoorLocalV
import Derived.Test.YtbpoljebkhccjaaDoorArr3
namespace Go.Proofs.YtbpoljebkhccjaaDoor
open Go Go.RowKit
theorem slv_len {w : World} {v : Value} {cs : List (Int × Int)} (h : SlV w v cs) : ∃ A cap, v = .slice A cs.length cap := by
  rcases h with ⟨A, c, rfl, rfl⟩ | ⟨b, off, cap, rfl, -⟩
  · exact ⟨A, c, rfl⟩
  · exact ⟨_, _, rfl⟩
def shortB (n : Nat) : Bool := decide ((n : Int) ≤ 6) || (decide ((64 : Int) < n) && decide ((n : Int) ≤ 66))
set_option maxRecDepth 100000 in
theorem ShortZone_v (o : Int) (v : Value) (cs : List (Int × Int)) (w : World) (h : SlV w v cs) :
    Calls Tryd.prog 39 #[.agg #[.int .i64 o, v], .int .i64 6] w fun r w' => r = .returned (.bool (shortB cs.length)) ∧ Below w.heap.size w w' := by
  obtain ⟨A, cap, rfl⟩ := slv_len h
  generalize cs.length = n at *
  obtain ⟨W, HW, hb0, c0, c1⟩ : ∃ W, Hid (w.alloc (.cells #[.int .i64 o, .slice A n cap] 75) = W) ∧ Below w.heap.size w W ∧ W.cell? ⟨w.heap.size, 0, none⟩ = some (.int .i64 o) ∧ W.cell? ⟨w.heap.size, 1, none⟩ = some (.slice A n cap) := ⟨_, Lib.hid rfl, below_alloc w _, by simp, by simp⟩
  have HS : Hid (shortB n = (decide ((n : Int) ≤ 6) || (decide ((64 : Int) < n) && decide ((n : Int) ≤ 66)))) := Lib.hid rfl
  cases h1 : decide ((n : Int) ≤ 6) <;> cases h2 : decide ((64 : Int) < n) <;> cases h3 : decide ((n : Int) ≤ 66)
  all_goals
    have HB : Hid (shortB n = _) := Lib.hid (by rw [HS.out, h1, h2, h3])
    go_enter Tryd.func39, Tryd.ntmps39
    go_wp2_with fail
    rw [HW.out]
    first
    | (go_quiet (fail)
       go_wp2_with fail
       go_ret
       exact ⟨by rw [HB.out]; rfl, b_drewN hb0 _⟩)
    | (go_wp2_with fail
       go_ret
       exact ⟨by rw [HB.out]; rfl, hb0⟩)
end Go.Proofs.YtbpoljebkhccjaaDoor
