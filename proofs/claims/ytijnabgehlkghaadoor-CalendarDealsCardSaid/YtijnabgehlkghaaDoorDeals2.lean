/- The walk of CalendarDeals. -/
import Derived.Test.YtijnabgehlkghaaDoorDeals
import Derived.Test.YtijnabgehlkghaaDoorYears0
import Derived.Test.YtijnabgehlkghaaDoorKept
namespace Go.Proofs.YtijnabgehlkghaaDoor
open Go Go.RowKit
theorem qCheckDraw_any (key n : Int) (w : World) :
    Calls Tryd.prog 46 #[.int .i64 key, .int .i64 n] w fun r w' => r = .returned (.int .i64 (fst [rng key 1 2147483646, rng n 0 256])) ∧ w' = w := by
  by_cases h1 : 1 ≤ key ∧ key ≤ 2147483646
  · have R1 : Hid (rng key 1 2147483646 = 0) := Lib.hid (rng_ok h1.1 h1.2)
    by_cases h2 : 0 ≤ n ∧ n ≤ 256
    · have R2 : Hid (rng n 0 256 = 0) := Lib.hid (rng_ok h2.1 h2.2)
      go_enter Tryd.func46, Tryd.ntmps46
      go_wp2_with (go_at_call 18; refine (qRange_any _ _ _ _).mono ?_; rintro e w' ⟨rfl, rfl⟩; first | rw [R1.out] | rw [R2.out])
      go_ret
      exact ⟨by rw [R1.out, R2.out]; rfl, rfl⟩
    · have R2 : Hid (rng n 0 256 = 3) := Lib.hid (rng_bad h2)
      go_enter Tryd.func46, Tryd.ntmps46
      go_wp2_with (go_at_call 18; refine (qRange_any _ _ _ _).mono ?_; rintro e w' ⟨rfl, rfl⟩; first | rw [R1.out] | rw [R2.out])
      go_ret
      exact ⟨by rw [R1.out, R2.out]; rfl, rfl⟩
  · have R1 : Hid (rng key 1 2147483646 = 3) := Lib.hid (rng_bad h1)
    go_enter Tryd.func46, Tryd.ntmps46
    go_wp2_with (go_at_call 18; refine (qRange_any _ _ _ _).mono ?_; rintro e w' ⟨rfl, rfl⟩; rw [R1.out])
    go_ret
    exact ⟨by rw [R1.out]; rfl, rfl⟩
theorem ret_bt (b : Bool) (h : b = true) : Ending.returned (.bool b) = .returned (.bool true) := by rw [h]
theorem fst2_zero {a b : Int} (h : fst [a, b] = 0) : a = 0 ∧ b = 0 := by
  obtain ⟨h1, h2⟩ := fst_cons_zero h
  exact ⟨h1, (fst_cons_zero h2).1⟩
set_option maxRecDepth 100000 in
set_option maxHeartbeats 2000000 in
theorem Deals_true (key nn : Int) (w : World) (hl : Ev.Reads lst w) :
    Calls Tryd.prog 9 #[.int .i64 key, .int .i64 nn] w (IsTrue w) := by
  have HL := Lib.hid hl
  clear hl
  by_cases hv : fst [rng key 1 2147483646, rng nn 0 256] = 0
  · obtain ⟨a1, a2⟩ := fst2_zero hv
    obtain ⟨k1, k2⟩ := rng_zero a1
    obtain ⟨n1, n2⟩ := rng_zero a2
    obtain ⟨n, rfl⟩ := Int.eq_ofNat_of_zero_le n1
    have HV := Lib.hid hv
    clear hv a1 a2 n1
    by_cases hn : (n : Int) ≤ 100
    · have HP := Lib.hid (perm_draw key n)
      have HLA : Hid (∀ m : Nat, n = m + 2 → drawF key n (m + 1) = nextX key % ((m : Int) + 1 + 1)) := Lib.hid (fun m e => by rw [e]; exact draw_last key m)
      go_enter Tryd.func9, Tryd.ntmps9
      go_wp2_with fail
      refine (awake_true _ HL.out).mono ?_
      rintro e w1 ⟨rfl, hb1⟩
      go_wp2_with fail
      refine (qCheckDraw_any _ _ _).mono ?_
      rintro e w2 ⟨rfl, hw⟩
      rw [hw, HV.out]
      clear hw
      go_wp2_with fail
      refine (Draw_ok n key (by omega) k1 k2 _).mono ?_
      rintro e w3 ⟨b, rfl, hr3⟩
      go_wp2_with fail
      refine (Draw_ok n key (by omega) k1 k2 _).mono ?_
      rintro e w4 ⟨b', rfl, hr4⟩
      have hb34 : Below w3.heap.size w3 w4 := hr4.below
      have hr3' := hr3.more hb34
      have hbw : Below w.heap.size w w4 := b_then hb1 hr3'.below
      go_wp2_with fail
      refine (IsOrder_ok n b (drawF key n) _ _ (by omega) hr3' HP.out).mono ?_
      rintro e w5 ⟨rfl, q, rfl⟩
      go_wp2_with fail
      have hx : IntAt (w4.drewN q) b 0 ((List.range n).map (drawF key n)) := fun i hi => by
        have hi' : i < n := by simpa using hi
        have := (hr3'.drewN q).c i hi'
        simpa [hi'] using this
      have hy : IntAt (w4.drewN q) b' 0 ((List.range n).map (drawF key n)) := fun i hi => by
        have hi' : i < n := by simpa using hi
        have := (hr4.drewN q).c i hi'
        simpa [hi'] using this
      have hlen : ((List.range n).map (drawF key n)).length = n := by simp
      have hsame := SameInts_some _ _ b 0 n b' 0 n (w4.drewN q) hx hy (by rw [hlen]; omega) (by rw [hlen]; omega)
      rw [hlen] at hsame
      refine hsame.mono ?_
      rintro e w6 ⟨rfl, q2, rfl⟩
      rw [decide_eq_true rfl]
      have hbf := b_drewN (b_drewN hbw q) q2
      have hrf := (hr3'.drewN q).drewN q2
      clear hx hy hlen hsame hr3 hr4 hb34 hr3' hbw
      generalize (w4.drewN q).drewN q2 = V at *
      by_cases hs : (n : Int) < 2
      · go_wp2_with fail
        go_quiet (fail)
        go_wp2_with fail
        go_ret
        exact ⟨rfl, b_drewN hbf nq⟩
      · obtain ⟨m, hm⟩ : ∃ m, n = m + 2 := ⟨n - 2, by omega⟩
        have hc := hrf.c (n - 1) (by omega)
        rw [show drawF key n (n - 1) = nextX key % (n : Int) from by
          have := HLA.out m hm
          rw [show n - 1 = m + 1 from by omega, this, hm]
          congr 1] at hc
        have hNX : Hid (nextX key = 48271 * key % 2147483647) := Lib.hid rfl
        rw [hNX.out] at hc
        clear hm HLA HP
        have hi1 : 0 ≤ (n : Int) - 1 := by omega
        have hi2 : (n : Int) - 1 < n := by omega
        have hi3 : ((n : Int) - 1).toNat = n - 1 := by omega
        have hn0 : (n : Int) ≠ 0 := by omega
        have hm0 : 0 ≤ 48271 * key % 2147483647 := by omega
        have hg : decide ((n : Int) < 2) = false := decide_eq_false hs
        go_wp2_with fail
        go_quiet (fail)
        go_wp2_with fail
        go_ret
        exact ⟨rfl, b_drewN hbf nq⟩
    · go_enter Tryd.func9, Tryd.ntmps9
      go_wp2_with fail
      refine (awake_true _ HL.out).mono ?_
      rintro e w1 ⟨rfl, hb1⟩
      go_wp2_with fail
      refine (qCheckDraw_any _ _ _).mono ?_
      rintro e w2 ⟨rfl, hw⟩
      rw [hw, HV.out]
      clear hw
      go_wp2_with fail
      refine (awake_true _ (reads_below HL.out hb1)).mono ?_
      rintro e w4 ⟨rfl, hb4⟩
      have hb04 := b_then hb1 hb4
      go_wp2_with fail
      go_ret
      exact ⟨rfl, hb04⟩
  · go_enter Tryd.func9, Tryd.ntmps9
    have HV : Hid ((fst [rng key 1 2147483646, rng nn 0 256] != 0) = true) := Lib.hid (by rw [bne_iff_ne]; exact hv)
    clear hv
    go_wp2_with fail
    refine (awake_true _ HL.out).mono ?_
    rintro e w1 ⟨rfl, hb1⟩
    go_wp2_with fail
    refine (qCheckDraw_any _ _ _).mono ?_
    rintro e w2 ⟨rfl, hw⟩
    rw [hw]
    clear hw
    have hvv := HV.out
    generalize fst [rng key 1 2147483646, rng nn 0 256] = z at *
    go_wp2_with fail
    refine (awake_true _ (reads_below HL.out hb1)).mono ?_
    rintro e w4 ⟨rfl, hb4⟩
    have hb04 := b_then hb1 hb4
    go_wp2_with fail
    go_ret
    exact ⟨rfl, hb04⟩
end Go.Proofs.YtijnabgehlkghaaDoor
