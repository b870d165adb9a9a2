/- The walk of the statement MessageLines. -/
import Derived.Test.YtlcmcknbbmokjaaGreatPm20
namespace Go.Proofs.YtlcmcknbbmokjaaGreat
open Go Go.RowKit
theorem jn_all (xs : List ByteArray) : jn xs xs.length = ⟨(Lib.join (xs.map (·.data.toList)) [32]).toArray⟩ := by
  unfold jn; rw [List.take_length]
set_option maxRecDepth 100000 in
set_option maxHeartbeats 1000000 in
theorem qPrintLine_any (l : LineV) (hok : LineOk l) (w : World) :
    Calls Tryz.prog 81 #[.agg l.cells] w fun e w' => e = .returned (.string (lineT l)) ∧ Below w.heap.size w w' := by
  have hf := fun w => Fields_any l hok w
  have hj := fun b c w hc => joined_any (words l) b c w hc (by rw [words_len]; decide) (fun x hx => Nat.le_trans (words_le hok x hx) (by decide))
  have HE : Hid (jn (words l) (words l).length = lineT l) := Lib.hid (jn_all _)
  generalize lineT l = lt at HE ⊢
  generalize words l = ws at *
  obtain ⟨W, HW, hb0, R⟩ := line_new w l 32
  clear hok
  obtain ⟨act, q⟩ := l
  obtain ⟨name, carrier, kind, terminal, partner, link, a, b, d, m, s, z, n⟩ := q
  obtain ⟨r0, r1, r2, r3, r4, r5, r6, r7, r8, r9, r10, r11, r12, r13⟩ := R
  simp only [LineV.cells] at *
  have HX := Lib.hid (HW.out.trans (show W = (KeptW.mk (w := W) W (Below.refl _ _)).v from rfl))
  have k0 : ∀ x : KeptW W, x.v.cell? ⟨w.heap.size, 0, none⟩ = _ := fun x => x.cell r0
  have k1 : ∀ x : KeptW W, x.v.cell? ⟨w.heap.size, 1, none⟩ = _ := fun x => x.cell r1
  have k2 : ∀ x : KeptW W, x.v.cell? ⟨w.heap.size, 2, none⟩ = _ := fun x => x.cell r2
  have k3 : ∀ x : KeptW W, x.v.cell? ⟨w.heap.size, 3, none⟩ = _ := fun x => x.cell r3
  have k4 : ∀ x : KeptW W, x.v.cell? ⟨w.heap.size, 4, none⟩ = _ := fun x => x.cell r4
  have k5 : ∀ x : KeptW W, x.v.cell? ⟨w.heap.size, 5, none⟩ = _ := fun x => x.cell r5
  have k6 : ∀ x : KeptW W, x.v.cell? ⟨w.heap.size, 6, none⟩ = _ := fun x => x.cell r6
  have k7 : ∀ x : KeptW W, x.v.cell? ⟨w.heap.size, 7, none⟩ = _ := fun x => x.cell r7
  have k8 : ∀ x : KeptW W, x.v.cell? ⟨w.heap.size, 8, none⟩ = _ := fun x => x.cell r8
  have k9 : ∀ x : KeptW W, x.v.cell? ⟨w.heap.size, 9, none⟩ = _ := fun x => x.cell r9
  have k10 : ∀ x : KeptW W, x.v.cell? ⟨w.heap.size, 10, none⟩ = _ := fun x => x.cell r10
  have k11 : ∀ x : KeptW W, x.v.cell? ⟨w.heap.size, 11, none⟩ = _ := fun x => x.cell r11
  have k12 : ∀ x : KeptW W, x.v.cell? ⟨w.heap.size, 12, none⟩ = _ := fun x => x.cell r12
  have k13 : ∀ x : KeptW W, x.v.cell? ⟨w.heap.size, 13, none⟩ = _ := fun x => x.cell r13
  generalize KeptW.mk (w := W) W (Below.refl _ _) = x0 at HX
  clear r0 r1 r2 r3 r4 r5 r6 r7 r8 r9 r10 r11 r12 r13 HW
  go_enter Tryz.func81, Tryz.ntmps81
  go_wp2_with fail
  rw [HX.out]
  clear HX
  go_wp2_with fail
  refine (hf _).mono ?_
  rintro e1 w1 ⟨⟨g, c, rfl, hc⟩, hb1⟩
  have HB1 := Lib.hid (b_then (b_then hb0 x0.below) hb1)
  clear hb1
  go_wp2_with fail
  refine (hj g c w1 hc).mono ?_
  rintro e2 w2 ⟨rfl, rfl⟩
  go_wp2_with fail
  go_ret
  exact ⟨by rw [HE.out]; rfl, HB1.out⟩
end Go.Proofs.YtlcmcknbbmokjaaGreat
