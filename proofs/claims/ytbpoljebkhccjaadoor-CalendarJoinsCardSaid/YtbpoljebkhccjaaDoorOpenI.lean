/- An argument that is a slice of integers. -/
import Derived.Test.YtbpoljebkhccjaaDoorJoinsW
import Derived.Test.YtbpoljebkhccjaaDoorStay
import Derived.ChangeSlices
import Derived.OpenShut
import Derived.WideShapes
namespace Go.Proofs.YtbpoljebkhccjaaDoor
open Go Go.RowKit Go.ChangeShapes
section
variable {H : Type} {enc : TypeId × Value → H} {w : World}
set_option maxRecDepth 100000 in
theorem open_intsl {r : Reach} {b0 : Nat} {v : Value} {d : DataW H} {ps : List MemPlace} (hval : Value.okWide Tryd.prog w r b0 36 v) (hd : DataW.Trod enc Tryd.prog w 0 (fun _ => true) true 36 v d ps) :
    ∃ ds : List Int, SlI w v ds := by
  obtain ⟨A, m, c, rfl⟩ := Go.WideShapes.okWide_slice Tryd.underlying36 hval
  obtain ⟨n, hn⟩ := hd
  rcases open_ints Tryd.underlying36 Tryd.underlying3 (by kernel_rfl) hn with ⟨e, -⟩ | ⟨a, len, cap, zs, e, -, hlc, -, hz, -, hc, -⟩
  · exact ⟨[], .inl ⟨none, 0, by simpa [Value.cells] using e, rfl⟩⟩
  · have hv : Value.slice A m c = .slice (some a) len cap := by simpa [Value.cells] using e
    have hz' : zs.length = cap := by simpa using hz
    rcases Nat.eq_zero_or_pos len with h | h
    · subst h; exact ⟨[], .inl ⟨_, _, hv, rfl⟩⟩
    · obtain ⟨b, off, rfl, hat⟩ := ints_at hc (by omega)
      refine ⟨zs.take len, .inr ⟨b, off, cap, by rw [hv]; simp; omega, ?_, by simp; omega, fun j hj => ?_⟩⟩
      · have := cell_in (hat 0 (by omega))
        simpa using this
      · have hj' : j < len := by simp at hj; omega
        rw [hat j (by omega)]
        simp [hj']
end
end Go.Proofs.YtbpoljebkhccjaaDoor
