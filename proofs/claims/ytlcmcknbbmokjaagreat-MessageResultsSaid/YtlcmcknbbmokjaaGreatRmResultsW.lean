/- The walk of MessageResults. -/
import Derived.Test.YtlcmcknbbmokjaaGreatRmResults
import Derived.Test.YtlcmcknbbmokjaaGreatRmSameRes
import Derived.Test.YtlcmcknbbmokjaaGreatRmOwnRes
import Derived.Test.YtlcmcknbbmokjaaGreatPm24
import Derived.Test.YtlcmcknbbmokjaaGreatPm19
namespace Go.Proofs.YtlcmcknbbmokjaaGreat
open Go Go.RowKit
theorem resultsOf_len (h : HeadV) (L : List LineV) (hn : L.length ≤ 900) : (resultsOf h L).1.length ≤ 5000 := by
  unfold resultsOf
  split
  · simp
  · split
    · simp
    · split
      · simp; omega
      · simp
set_option maxRecDepth 100000 in
set_option maxHeartbeats 4000000 in
theorem ResultsT_true (h : HeadV) (L : List LineV) (v : Value) (w0 w : World) (hv : LnArg w0 v L) (hb : Below w0.heap.size w0 w) :
    Calls Tryz.prog 9 #[.agg (h.cells v)] w fun e w' => e = .returned (.bool true) ∧ Below w.heap.size w w' := by
  obtain ⟨W, HW, hb0, R⟩ := head_new w h v 38
  have haw := awake2_true
  have HB0 : Hid (∀ x : KeptW W, Below w0.heap.size w0 x.v) := Lib.hid (fun x => b_then (b_then hb hb0) x.below)
  have HSH := Lib.hid (fun x : KeptW W => ShortMessage_any h L v 8 w0 x.v (by decide) hv (HB0.out x))
  have HPR := Lib.hid (fun (x : KeptW W) hn => program_any h L v w0 x.v hv (HB0.out x) hn)
  have HRS := Lib.hid (fun (v' : Value) (w1 : World) hl => Results_any h L v' w1 w1 hl (Below.refl _ _))
  have HQR := Lib.hid (fun x : KeptW W => refRes_any h L v w0 x.v hv (HB0.out x))
  have HLN := Lib.hid (resultsOf_len h L)
  obtain ⟨A, c, hve⟩ := hv.len
  obtain ⟨x0, HX⟩ : ∃ x0 : KeptW W, Hid (w.alloc (.cells (h.cells v) 38) = x0.v) := ⟨KeptW.mk (w := W) W (Below.refl _ _), HW⟩
  obtain ⟨r0, r1, r2, r3, r4⟩ := R
  have k0 : ∀ x : KeptW W, x.v.cell? ⟨w.heap.size, 0, none⟩ = _ := fun x => x.cell r0
  have k1 : ∀ x : KeptW W, x.v.cell? ⟨w.heap.size, 1, none⟩ = _ := fun x => x.cell r1
  have k2 : ∀ x : KeptW W, x.v.cell? ⟨w.heap.size, 2, none⟩ = _ := fun x => x.cell r2
  have k3 : ∀ x : KeptW W, x.v.cell? ⟨w.heap.size, 3, none⟩ = _ := fun x => x.cell r3
  have k4 : ∀ x : KeptW W, x.v.cell? ⟨w.heap.size, 4, none⟩ = _ := fun x => x.cell r4
  clear r0 r1 r2 r3 r4 HW
  obtain ⟨rs, re⟩ : ∃ p, p = resultsOf h L := ⟨_, rfl⟩
  rw [← re] at HRS HQR HLN
  clear re
  obtain ⟨rs, re⟩ := rs
  have hee : (re == re) = true := by simp
  subst hve
  obtain ⟨kind, airport, season, day⟩ := h
  simp only [HeadV.cells] at *
  clear hv hb HB0
  go_enter Tryz.func9, Tryz.ntmps9
  go_wp2_with fail
  rw [HX.out]
  clear HX
  go_wp2_with fail
  refine (HSH.out x0).mono ?_
  rintro e1 w1 ⟨⟨bb, rfl, hn⟩, hb1⟩
  obtain ⟨x1, rfl⟩ : ∃ x1 : KeptW W, w1 = x1.v := ⟨⟨w1, b_then x0.below hb1⟩, rfl⟩
  clear HSH hb1
  cases bb
  · clear hn
    go_wp2_with fail
    refine (KeptW.calls (haw _)).mono ?_
    rintro e2 _ ⟨rfl, x2, rfl⟩
    go_wp2_with fail
    go_ret
    exact ⟨rfl, b_then hb0 x2.below⟩
  · have hn9 : L.length ≤ 900 := Nat.le_trans (hn rfl) (by decide)
    have hrl := HLN.out hn9
    clear hn
    go_wp2_with fail
    refine (HPR.out x1 hn9).mono ?_
    rintro e2 w2 ⟨⟨v2, rfl, hL2⟩, hb2⟩
    obtain ⟨x2, rfl⟩ : ∃ x2 : KeptW W, w2 = x2.v := ⟨⟨w2, b_then x1.below hb2⟩, rfl⟩
    have hp2 := HRS.out v2 x2.v hL2
    obtain ⟨A2, c2, rfl⟩ := hL2.len
    clear hb2 hL2
    go_wp2_with fail
    refine hp2.mono ?_
    rintro e3 w3 ⟨⟨v3, rfl, hs3⟩, hb3⟩
    obtain ⟨x3, rfl⟩ : ∃ x3 : KeptW W, w3 = x3.v := ⟨⟨w3, b_then x2.below hb3⟩, rfl⟩
    clear hb3 hp2
    have HS3 : Hid (SlArg ResV.cells 3 x3.v v3 rs) := Lib.hid hs3
    clear hs3
    go_wp2_with fail
    refine (HQR.out x3).mono ?_
    rintro e4 w4 ⟨⟨v4, rfl, hs4⟩, hb4⟩
    obtain ⟨x4, rfl⟩ : ∃ x4 : KeptW W, w4 = x4.v := ⟨⟨w4, b_then x3.below hb4⟩, rfl⟩
    have HS4 : Hid (SlArg ResV.cells 3 x4.v v4 rs) := Lib.hid hs4
    have hown := OwnRes_any rs v3 x3.v x4.v HS3.out hb4 hrl
    clear hb4 hs4 HS3
    go_wp2_with fail
    refine hown.mono ?_
    rintro e5 w5 ⟨⟨v5, rfl, hs5⟩, hb5⟩
    obtain ⟨x5, rfl⟩ : ∃ x5 : KeptW W, w5 = x5.v := ⟨⟨w5, b_then x4.below hb5⟩, rfl⟩
    have hsame := SameRes_any rs v5 v4 x5.v x4.v x5.v (slArg_own (f := ResV.cells) (k := 3) (fun _ => rfl) (by decide) hs5) HS4.out (Below.refl _ _) hb5 hrl
    clear hown hs5 hb5 HS4
    go_wp2_with fail
    refine hsame.mono ?_
    rintro e6 w6 ⟨rfl, hb6⟩
    obtain ⟨x6, rfl⟩ : ∃ x6 : KeptW W, w6 = x6.v := ⟨⟨w6, b_then x5.below hb6⟩, rfl⟩
    clear hsame hb6
    go_wp2_with fail
    refine (KeptW.calls (haw _)).mono ?_
    rintro e8 _ ⟨rfl, x8, rfl⟩
    go_wp2_with fail
    go_ret
    exact ⟨rfl, b_then hb0 x8.below⟩
end Go.Proofs.YtlcmcknbbmokjaaGreat
