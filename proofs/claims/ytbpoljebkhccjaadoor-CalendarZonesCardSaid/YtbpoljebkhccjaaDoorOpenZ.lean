/- An argument that is a zone: its offset and its slice of changes. -/
import Derived.Test.YtbpoljebkhccjaaDoorZoneE
import Derived.Test.YtbpoljebkhccjaaDoorStay
import Derived.Deep.SlicePairs
import Derived.Lib.SmallJoins
import Derived.SizedLaws
namespace Go.Proofs.YtbpoljebkhccjaaDoor
open Go Go.RowKit Go.ChangeShapes Go.WideShapes Go.Deep Go.Joins
theorem bytesChg : Tryd.prog.bytesOf 83 = 16 := by kernel_rfl
def numv : Value → Int
  | .int _ n => n
  | _ => 0
section
variable {H : Type} {enc : TypeId × Value → H} {w : World}
set_option maxRecDepth 100000 in
theorem open_zone {r : Reach} {b0 : Nat} {v : Value} {d : DataW H} {ps : List MemPlace} (hval : Value.okWide Tryd.prog w r b0 72 v) (hd : DataW.Trod enc Tryd.prog w 0 (fun _ => true) true 72 v d ps) :
    ∃ (o : Int) (s : Value) (cs : List (Int × Int)) (x y : DataW H), v = .agg #[.int .i64 o, s] ∧ SlV w s cs ∧ d = .agg [x, y] ∧ (cs.length = 0 ∨ ∃ e sp, y = .slice e sp ∧ cs.length ≤ e.length + sp.length) := by
  obtain ⟨v0, v1, y0, y1, n, rfl, rfl, -, h0, h1⟩ := open_agg2 Tryd.underlying72 (by kernel_rfl) (by kernel_rfl) hval hd
  obtain ⟨o, e1, -, -⟩ := DataW.trod_int Tryd.underlying3 h0
  obtain rfl : v0 = .int .i64 o := by simpa using e1
  rcases open_slice_pairs Tryd.underlying70 Tryd.underlying83 (by kernel_rfl) rfl rfl (by kernel_rfl) (by kernel_rfl) h1 with ⟨e2, -⟩ | ⟨a, len, cap, m, n2, V0, V1, D0, D1, P0, P1, e2, -, hlc, -, hm, hy, hc⟩
  · obtain rfl : v1 = .slice none 0 0 := by simpa using e2
    exact ⟨o, _, [], y0.1, y1.1, rfl, .inl ⟨none, 0, rfl, rfl⟩, rfl, .inl rfl⟩
  · obtain rfl : v1 = .slice (some a) len cap := by simpa using e2
    have hm' : m = cap := by rw [hm]; rfl
    refine ⟨o, _, (List.range len).map fun i => (numv (V0 i), numv (V1 i)), y0.1, y1.1, rfl, ?_, rfl, .inr ⟨_, _, by rw [hy], by simp⟩⟩
    rcases Nat.eq_zero_or_pos len with h | h
    · subst h; exact .inl ⟨some a, cap, rfl, rfl⟩
    · have hsp : a.spot = none := by
        have := (hc 0 (by omega)).1
        rw [Nat.zero_mul] at this
        exact World.cell?_spot this
      obtain ⟨b, off, sp⟩ := a
      simp only at hsp
      subst hsp
      have each : ∀ i, i < len → w.cell? ⟨b, off + i * 2, none⟩ = some (.int .i64 (numv (V0 i))) ∧ w.cell? ⟨b, off + i * 2 + 1, none⟩ = some (.int .i64 (numv (V1 i))) := fun i hi => by
        obtain ⟨c0, c1, t0, t1⟩ := hc i (by omega)
        obtain ⟨k0, f0, -, -⟩ := DataW.trod_int Tryd.underlying3 t0
        obtain ⟨k1, f1, -, -⟩ := DataW.trod_int Tryd.underlying3 t1
        have g0 : V0 i = .int .i64 k0 := by simpa using f0
        have g1 : V1 i = .int .i64 k1 := by simpa using f1
        rw [add_plain] at c0 c1
        rw [← Nat.add_assoc] at c1
        rw [c0, c1, g0, g1]
        exact ⟨rfl, rfl⟩
      have hg : ∀ i, i < len → ((List.range len).map fun i => (numv (V0 i), numv (V1 i))).getD i (0, 0) = (numv (V0 i), numv (V1 i)) := fun i hi => by
        simp [List.getD, hi]
      refine .inr ⟨b, off, cap, by simp, ⟨fun i hi => ?_, fun i hi => ?_⟩⟩
      · have hi' : i < len := by simpa using hi
        rw [hg i hi']; exact (each i hi').1
      · have hi' : i < len := by simpa using hi
        rw [hg i hi']; exact (each i hi').2
end
theorem zone_room {H : Type} {x y : DataW H} {ts : List TypeId} {ds : List (DataW H)} {n : Nat} (hsz : (DataW.weightsEach Tryd.prog (72 :: ts) (.agg [x, y] :: ds)).all (· ≤ reachBytes) = true)
    (h : n = 0 ∨ ∃ e sp, y = .slice e sp ∧ n ≤ e.length + sp.length) : n * 16 ≤ 140737488355328 := by
  rcases h with rfl | ⟨e, sp, rfl, hn⟩
  · omega
  · have h2 : (e.length + sp.length) * Tryd.prog.bytesOf 83 ≤ reachBytes := of_decide_eq_true (List.all_eq_true.1 hsz ((e.length + sp.length) * Tryd.prog.bytesOf 83) (by simp [DataW.weights, DataW.weightsEach, Tryd.underlying72, Tryd.underlying70]))
    rw [bytesChg] at h2
    simp only [reachBytes] at h2
    omega
end Go.Proofs.YtbpoljebkhccjaaDoor
