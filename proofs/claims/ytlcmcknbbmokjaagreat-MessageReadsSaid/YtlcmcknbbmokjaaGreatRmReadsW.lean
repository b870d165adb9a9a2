/- The walk of MessageReads. -/
import Derived.Test.YtlcmcknbbmokjaaGreatRmQParse
import Derived.Test.YtlcmcknbbmokjaaGreatRmEqG
import Derived.Test.YtlcmcknbbmokjaaGreatPm19
namespace Go.Proofs.YtlcmcknbbmokjaaGreat
open Go Go.RowKit
set_option maxRecDepth 100000 in
set_option maxHeartbeats 4000000 in
theorem Reads_true (s : ByteArray) (w : World) :
    Calls Tryz.prog 3 #[.string s] w fun e w' => e = .returned (.bool true) ∧ Below w.heap.size w w' := by
  have haw := awake2_true
  by_cases h3 : (300 : Int) < (s.size : Int)
  · go_enter Tryz.func3, Tryz.ntmps3
    go_wp2_with fail
    refine (haw _).mono ?_
    rintro e1 w1 ⟨rfl, hb1⟩
    go_wp2_with fail
    go_ret
    exact ⟨rfl, hb1⟩
  · have hpl := fun w => ParseLine_any s (by omega) w
    have hql := fun w => qParseLine_any s (by omega) w
    generalize lineIs s = p at *
    obtain ⟨l, i, er⟩ := p
    have hs := sameLn l
    have h1 : (i == i) = true := by simp
    have h2 : (er == er) = true := by simp
    have HLA := Lib.hid (fun w1 => line_new w1 l 28)
    have HLB := Lib.hid (fun w1 => line_new w1 l 32)
    obtain ⟨act, ⟨name, carrier, kind, terminal, partner, link, fa, fb, d, m, sx, z, nn⟩⟩ := l
    simp only [LineV.cells] at hpl hql hs HLA HLB
    go_enter Tryz.func3, Tryz.ntmps3
    go_wp2_with fail
    refine (hpl _).mono ?_
    rintro e1 w1 ⟨rfl, hb1⟩
    obtain ⟨WA, HWA, hbA, LA⟩ := HLA.out w1
    have hB1 := b_then hb1 hbA
    clear hpl HLA hb1 hbA
    go_wp2_with fail
    rw [HWA.out]
    refine (hql _).mono ?_
    rintro e2 w2 ⟨rfl, hb2⟩
    have LA2 := LA.below hb2
    obtain ⟨WB, HWB, hbB, LB⟩ := HLB.out w2
    have LA3 := LA2.below hbB
    have hB2 := b_then (b_then hB1 hb2) hbB
    rw [← HWB.out] at LA3 LB hB2
    obtain ⟨r0, r1, r2, r3, r4, r5, r6, r7, r8, r9, r10, r11, r12, r13⟩ := LA3
    obtain ⟨q0, q1, q2, q3, q4, q5, q6, q7, q8, q9, q10, q11, q12, q13⟩ := LB
    dsimp only at r0 r1 r2 r3 r4 r5 r6 r7 r8 r9 r10 r11 r12 r13 q0 q1 q2 q3 q4 q5 q6 q7 q8 q9 q10 q11 q12 q13
    have HB2 := Lib.hid hB2
    clear hql HLB hb2 hbB LA LA2 HWA hB1 hB2 HWB
    go_wp2_with fail
    refine (haw _).mono ?_
    rintro e3 w3 ⟨rfl, hb3⟩
    go_wp2_with fail
    go_ret
    exact ⟨rfl, b_then HB2.out hb3⟩
end Go.Proofs.YtlcmcknbbmokjaaGreat
