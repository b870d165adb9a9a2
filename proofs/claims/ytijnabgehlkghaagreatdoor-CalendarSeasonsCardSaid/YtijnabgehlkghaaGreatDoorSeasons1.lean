/- The walk of CalendarSeasons. -/
import Derived.Test.YtijnabgehlkghaaGreatDoorAwake
import Derived.Test.YtijnabgehlkghaaGreatDoorSeaErr
import Derived.Test.YtijnabgehlkghaaGreatDoorEquiErr
import Derived.Test.YtijnabgehlkghaaGreatDoorRefSeaOf
import Derived.Test.YtijnabgehlkghaaGreatDoorArr3
import Derived.Test.YtijnabgehlkghaaGreatDoorQFirst
import Derived.Test.YtijnabgehlkghaaGreatDoorNum
namespace Go.Proofs.YtijnabgehlkghaaGreatDoor
open Go Go.RowKit
theorem eqIn_perS (d : Nat) (a b c a' b' c' : Int) (w : World) :
    (Op.equalIn (d + 1 + 1) 45 (.agg #[.int .i64 a, .int .i64 b, .int .i64 c]) (.agg #[.int .i64 a', .int .i64 b', .int .i64 c'])).run Tryz.prog w = .ok (a == a' && (b == b' && c == c')) w := by
  rw [run_equalIn_struct w (d + 1) 45 _ _ (by kernel_rfl) (by kernel_rfl)]
  have hi : ∀ x y : Int, (Op.equalIn (d + 1) 3 (.int .i64 x) (.int .i64 y)).run Tryz.prog w = .ok (x == y) w := fun x y => run_equalIn_int w d 3 .i64 .i64 x y Tryz.underlying3
  cases h1 : (a == a') <;> cases h2 : (b == b') <;> cases h3 : (c == c') <;> simp [Program.fieldsOf, Tryz.underlying45, Op.eqFields, part, hi, h1, h2, h3]
theorem run_eqIn_perS (a b c a' b' c' : Int) (w : World) :
    (Op.equalIn 10000 45 (.agg #[.int .i64 a, .int .i64 b, .int .i64 c]) (.agg #[.int .i64 a', .int .i64 b', .int .i64 c'])).run Tryz.prog w = .ok (a == a' && (b == b' && c == c')) w := eqIn_perS 9998 a b c a' b' c' w
theorem reads_seas {w : World} (h : Ev.Reads lst w) : HeldSea w :=
  ⟨reads_cell h (.head _) 0 _ rfl, reads_cell h (.head _) 1 _ rfl, reads_cell h (.tail _ (.head _)) 0 _ rfl, reads_cell h (.tail _ (.head _)) 1 _ rfl⟩
theorem run_field_per (a b c : Int) (w : World) : (Instr.field 45 (.agg #[.int .i64 a, .int .i64 b, .int .i64 c]) 0).run Tryz.prog w = .ok (.int .i64 a) w := by
  simp [Instr.field, run_underlying Tryz.underlying45, asAgg, part]
attribute [local go_sem] run_eqIn_perS run_field_per
set_option maxRecDepth 100000 in
set_option maxHeartbeats 16000000 in
theorem Seasons_walk (y day se p0 p1 p2 ny ne pvy pe oy oe qv qe fe : Int) (k nk pk ok : ByteArray) (w : World) (hl : Ev.Reads lst w) (hse : seasonErr y k = se) (hfe : fst [oe, se] = fe)
    (hSpan : ∀ w, HeldTab w → Calls Tryz.prog 43 #[.agg #[.int .i64 y, .string k]] w fun r w' => r = .returned (.tuple #[.agg #[.int .i64 p0, .int .i64 p1, .int .i64 p2], .int .i64 se]) ∧ Below w.heap.size w w')
    (hNext : ∀ w, HeldSea w → Calls Tryz.prog 44 #[.agg #[.int .i64 y, .string k]] w fun r w' => r = .returned (.tuple #[.agg #[.int .i64 ny, .string nk], .int .i64 ne]) ∧ Below w.heap.size w w')
    (hPrev : ∀ w, HeldSea w → Calls Tryz.prog 45 #[.agg #[.int .i64 y, .string k]] w fun r w' => r = .returned (.tuple #[.agg #[.int .i64 pvy, .string pk], .int .i64 pe]) ∧ Below w.heap.size w w')
    (hSO : ∀ w, HeldTab w → HeldSea w → Calls Tryz.prog 46 #[.int .i64 day] w fun r w' => r = .returned (.tuple #[.agg #[.int .i64 oy, .string ok], .int .i64 oe]) ∧ Below w.heap.size w w')
    (hEq : ∀ w, HeldTab w → HeldSea w → Calls Tryz.prog 47 #[.int .i64 day, .agg #[.int .i64 y, .string k]] w fun r w' => r = .returned (.tuple #[.int .i64 qv, .int .i64 qe]) ∧ Below w.heap.size w w')
    (h1 : (se ≠ 0 ∧ p0 = 0 ∧ p1 = 0 ∧ p2 = 0 ∧ ny = 0 ∧ nk = ⟨#[]⟩ ∧ ne = se ∧ pvy = 0 ∧ pk = ⟨#[]⟩ ∧ pe = se) ∨
      (se = 0 ∧ (∀ w, Calls Tryz.prog 48 #[.agg #[.int .i64 y, .string k]] w fun r w' => r = .returned (.agg #[.int .i64 p0, .int .i64 p1, .int .i64 p2]) ∧ Below w.heap.size w w') ∧
        ∃ nf pf : Bool, (∀ w, Calls Tryz.prog 49 #[.agg #[.int .i64 y, .string k]] w fun r w' => r = .returned (.tuple #[.agg #[.int .i64 ny, .string nk], .bool nf]) ∧ Below w.heap.size w w') ∧
          (∀ w, Calls Tryz.prog 50 #[.agg #[.int .i64 y, .string k]] w fun r w' => r = .returned (.tuple #[.agg #[.int .i64 pvy, .string pk], .bool pf]) ∧ Below w.heap.size w w') ∧
          ((nf = true ∧ ne = 0 ∧ pf = true ∧ pe = 0) ∨ (nf = true ∧ ne = 0 ∧ pf = false ∧ pe = 7) ∨ (nf = false ∧ ne = 7 ∧ pf = true ∧ pe = 0))))
    (h2 : (fe ≠ 0 ∧ qe = fe ∧ qv = 0 ∧ ((rng day 0 99999 = 3 ∧ oe = 3 ∧ oy = 0 ∧ ok = ⟨#[]⟩) ∨
        (rng day 0 99999 = 0 ∧ ∃ f : Bool, (∀ w, Calls Tryz.prog 51 #[.int .i64 day] w fun r w' => r = .returned (.tuple #[.agg #[.int .i64 oy, .string ok], .bool f]) ∧ Below w.heap.size w w') ∧ ((f = false ∧ oe = 30) ∨ (f = true ∧ oe = 0))))) ∨
      (fe = 0 ∧ se = 0 ∧ oe = 0 ∧ rng day 0 99999 = 0 ∧ (∀ w, Calls Tryz.prog 51 #[.int .i64 day] w fun r w' => r = .returned (.tuple #[.agg #[.int .i64 oy, .string ok], .bool true]) ∧ Below w.heap.size w w') ∧
        (((ok.toList == k.toList) = false ∧ qe = 13 ∧ qv = 0) ∨
          ((ok.toList == k.toList) = true ∧ (0 ≤ day ∧ day ≤ 99999) ∧ (-10 ≤ p0 ∧ p0 ≤ 150000) ∧ ∃ f0 f1 : Int, (-10 ≤ f0 ∧ f0 ≤ 150000) ∧ (∀ w, Calls Tryz.prog 48 #[.agg #[.int .i64 oy, .string ok]] w fun r w' => r = .returned (.agg #[.int .i64 f0, .int .i64 f1, .int .i64 127]) ∧ Below w.heap.size w w') ∧
            ((day - f0 + p0 ≤ p1 ∧ qe = 0 ∧ qv = day - f0 + p0) ∨ (p1 < day - f0 + p0 ∧ qe = 7 ∧ qv = 0)))))) :
    Calls Tryz.prog 6 #[.agg #[.int .i64 y, .string k], .int .i64 day] w (IsTrue w) := by
  have HL := Lib.hid hl
  have HSE := Lib.hid hse
  have HFE := Lib.hid hfe
  have HSpan := Lib.hid hSpan
  have HNext := Lib.hid hNext
  have HPrev := Lib.hid hPrev
  have HSO := Lib.hid hSO
  have HEq := Lib.hid hEq
  have H1 := Lib.hid h1
  have H2 := Lib.hid h2
  clear hl hse hfe hSpan hNext hPrev hSO hEq h1 h2
  have PT := fun (w1 : World) (h : Below w.heap.size w w1) => (reads_tab (reads_below HL.out h))
  have PS := fun (w1 : World) (h : Below w.heap.size w w1) => (reads_seas (reads_below HL.out h))
  obtain ⟨W, HW, hB, Pa⟩ : ∃ W, Hid (w.alloc (.cells #[.int .i64 y, .string k] 61) = W) ∧ Below w.heap.size w W ∧ K2 W w.heap.size (.int .i64 y) (.string k) := ⟨_, Lib.hid rfl, below_alloc w _, K2.new _ _ _ _⟩
  have PT := Lib.hid PT
  have PS := Lib.hid PS
  go_enter Tryz.func6, Tryz.ntmps6
  go_wp2_with fail
  rw [HW.out]
  clear HW
  refine (awake_true _ (reads_below HL.out hB)).mono ?_
  rintro e w1 ⟨rfl, hb⟩
  replace Pa := Pa.below hb
  replace hB := b_then hB hb
  clear hb
  have rPa0 := Pa.a0
  have rPa1 := Pa.a1
  obtain ⟨V1, HV1, hb, Ow⟩ : ∃ V, Hid (w1.alloc (.cells #[.int .i64 y, .string k] 62) = V) ∧ Below w1.heap.size w1 V ∧ K2 V w1.heap.size (.int .i64 y) (.string k) := ⟨_, Lib.hid rfl, below_alloc _ _, K2.new _ _ _ _⟩
  replace Pa := Pa.below hb
  replace hB := b_then hB hb
  clear hb
  go_wp2_with fail
  rw [HV1.out]
  clear HV1
  clear rPa0 rPa1
  refine (qCheckSeason_any _ _ _).mono ?_
  rintro e w2 ⟨rfl, hb⟩
  rw [HSE.out]
  replace Pa := Pa.below hb
  replace Ow := Ow.below hb
  replace hB := b_then hB hb
  clear hb
  have rPa0 := Pa.a0
  have rPa1 := Pa.a1
  go_wp2_with fail
  clear rPa0 rPa1
  refine (CheckSeason_any _ _ _).mono ?_
  rintro e w3 ⟨rfl, hb⟩
  rw [HSE.out]
  replace Pa := Pa.below hb
  replace Ow := Ow.below hb
  replace hB := b_then hB hb
  clear hb
  have rPa0 := Pa.a0
  have rPa1 := Pa.a1
  go_wp2_with fail
  clear rPa0 rPa1
  refine (HSpan.out _ (PT.out _ hB)).mono ?_
  rintro e w4 ⟨rfl, hb⟩
  replace Pa := Pa.below hb
  replace Ow := Ow.below hb
  replace hB := b_then hB hb
  clear hb
  obtain ⟨V4, HV4, hb, Pp⟩ : ∃ V, Hid (w4.alloc (.cells #[.int .i64 p0, .int .i64 p1, .int .i64 p2] 45) = V) ∧ Below w4.heap.size w4 V ∧ K3 V w4.heap.size (.int .i64 p0) (.int .i64 p1) (.int .i64 p2) := ⟨_, Lib.hid rfl, below_alloc _ _, K3.new _ _ _ _ _⟩
  have rPa0 := (Pa.below (below_alloc w4 (.cells #[.int .i64 p0, .int .i64 p1, .int .i64 p2] 45))).a0
  have rPa1 := (Pa.below (below_alloc w4 (.cells #[.int .i64 p0, .int .i64 p1, .int .i64 p2] 45))).a1
  replace Pa := Pa.below hb
  replace Ow := Ow.below hb
  replace hB := b_then hB hb
  clear hb
  go_wp2_with fail
  rw [HV4.out]
  clear rPa0 rPa1
  clear HV4
  refine (HNext.out _ (PS.out _ hB)).mono ?_
  rintro e w5 ⟨rfl, hb⟩
  replace Pa := Pa.below hb
  replace Ow := Ow.below hb
  replace Pp := Pp.below hb
  replace hB := b_then hB hb
  clear hb
  obtain ⟨V5, HV5, hb, Nn⟩ : ∃ V, Hid (w5.alloc (.cells #[.int .i64 ny, .string nk] 61) = V) ∧ Below w5.heap.size w5 V ∧ K2 V w5.heap.size (.int .i64 ny) (.string nk) := ⟨_, Lib.hid rfl, below_alloc _ _, K2.new _ _ _ _⟩
  have rPa0 := (Pa.below (below_alloc w5 (.cells #[.int .i64 ny, .string nk] 61))).a0
  have rPa1 := (Pa.below (below_alloc w5 (.cells #[.int .i64 ny, .string nk] 61))).a1
  replace Pa := Pa.below hb
  replace Ow := Ow.below hb
  replace Pp := Pp.below hb
  replace hB := b_then hB hb
  clear hb
  go_wp2_with fail
  rw [HV5.out]
  clear rPa0 rPa1
  clear HV5
  refine (HPrev.out _ (PS.out _ hB)).mono ?_
  rintro e w6 ⟨rfl, hb⟩
  replace Pa := Pa.below hb
  replace Ow := Ow.below hb
  replace Pp := Pp.below hb
  replace Nn := Nn.below hb
  replace hB := b_then hB hb
  clear hb
  obtain ⟨V6, HV6, hb, Bb⟩ : ∃ V, Hid (w6.alloc (.cells #[.int .i64 pvy, .string pk] 61) = V) ∧ Below w6.heap.size w6 V ∧ K2 V w6.heap.size (.int .i64 pvy) (.string pk) := ⟨_, Lib.hid rfl, below_alloc _ _, K2.new _ _ _ _⟩
  replace Pa := Pa.below hb
  replace Ow := Ow.below hb
  replace Pp := Pp.below hb
  replace Nn := Nn.below hb
  replace hB := b_then hB hb
  clear hb
  go_wp2_with fail
  rw [HV6.out]
  clear HV6
  refine (HSO.out _ (PT.out _ hB) (PS.out _ hB)).mono ?_
  rintro e w7 ⟨rfl, hb⟩
  replace Pa := Pa.below hb
  replace Ow := Ow.below hb
  replace Pp := Pp.below hb
  replace Nn := Nn.below hb
  replace Bb := Bb.below hb
  replace hB := b_then hB hb
  clear hb
  obtain ⟨V7, HV7, hb, Xx⟩ : ∃ V, Hid (w7.alloc (.cells #[.int .i64 oy, .string ok] 61) = V) ∧ Below w7.heap.size w7 V ∧ K2 V w7.heap.size (.int .i64 oy) (.string ok) := ⟨_, Lib.hid rfl, below_alloc _ _, K2.new _ _ _ _⟩
  have rPa0 := (Pa.below (below_alloc w7 (.cells #[.int .i64 oy, .string ok] 61))).a0
  have rPa1 := (Pa.below (below_alloc w7 (.cells #[.int .i64 oy, .string ok] 61))).a1
  replace Pa := Pa.below hb
  replace Ow := Ow.below hb
  replace Pp := Pp.below hb
  replace Nn := Nn.below hb
  replace Bb := Bb.below hb
  replace hB := b_then hB hb
  clear hb
  go_wp2_with fail
  rw [HV7.out]
  clear rPa0 rPa1
  clear HV7
  refine (HEq.out _ (PT.out _ hB) (PS.out _ hB)).mono ?_
  rintro e w8 ⟨rfl, hb⟩
  replace Pa := Pa.below hb
  replace Ow := Ow.below hb
  replace Pp := Pp.below hb
  replace Nn := Nn.below hb
  replace Bb := Bb.below hb
  replace Xx := Xx.below hb
  replace hB := b_then hB hb
  clear hb
  clear Pa
  have hLW8 : w.heap.size ≤ w8.heap.size := hB.size
  go_upto_region 14 with (fail)
  go_name_world V8 hV8
  have hb : Below w8.heap.size w8 V8 := by rw [← hV8]; exact ((below_alloc w8 _).alloc (by simp) _).alloc (by simp; omega) _
  have Ss : K3 V8 w8.heap.size (.int .i64 0) (.int .i64 0) (.int .i64 0) := by rw [← hV8]; exact ((K3.new w8 _ _ _ _).below (below_alloc _ _)).below (below_alloc _ _)
  have Nx : K2 V8 (w8.heap.size + 1) (.int .i64 0) (.string ⟨#[]⟩) := by rw [← hV8]; have := (K2.new (w8.alloc (.cells #[.int .i64 0, .int .i64 0, .int .i64 0] 45)) (.int .i64 0) (.string ⟨#[]⟩) 62).below (below_alloc _ (.cells #[.int .i64 0, .string ⟨#[]⟩] 62)); rwa [World.size_alloc] at this
  have Bf : K2 V8 (w8.heap.size + 2) (.int .i64 0) (.string ⟨#[]⟩) := by rw [← hV8]; have := K2.new ((w8.alloc (.cells #[.int .i64 0, .int .i64 0, .int .i64 0] 45)).alloc (.cells #[.int .i64 0, .string ⟨#[]⟩] 62)) (.int .i64 0) (.string ⟨#[]⟩) 62; rw [World.size_alloc, World.size_alloc] at this; exact this
  have lts := Ow.lt
  have ltp := Pp.lt
  have ltn := Nn.lt
  have ltb := Bb.lt
  have ltx := Xx.lt
  replace Ow := Ow.below hb
  replace Pp := Pp.below hb
  replace Nn := Nn.below hb
  replace Bb := Bb.below hb
  replace Xx := Xx.below hb
  replace hB := b_then hB hb
  clear hb
  clear hV8
  have hlw0 : w.heap.size ≤ w8.heap.size := hLW8
  rcases H1.out with ⟨hs0, rfl, rfl, rfl, rfl, rfl, rfl, rfl, rfl, rfl⟩ | ⟨rfl, hqs, nf, pf, hqn, hqp, hcs⟩
  · have hs1 := beq_eq_false_iff_ne.2 hs0
    have rPp0 := Pp.a0
    have rPp1 := Pp.a1
    have rPp2 := Pp.a2
    have rSs0 := Ss.a0
    have rSs1 := Ss.a1
    have rSs2 := Ss.a2
    have rNn0 := Nn.a0
    have rNn1 := Nn.a1
    have rNx0 := Nx.a0
    have rNx1 := Nx.a1
    have rBb0 := Bb.a0
    have rBb1 := Bb.a1
    have rBf0 := Bf.a0
    have rBf1 := Bf.a1
    go_wp2_with fail
    clear rPp0 rPp1 rPp2 rSs0 rSs1 rSs2 rNn0 rNn1 rNx0 rNx1 rBb0 rBb1 rBf0 rBf1
    have hlw : w.heap.size ≤ V8.heap.size := hB.size
    clear Pp Nn Nx Bb Bf
    have hx1 := Xx.lt
    have hx2 := Ow.lt
    have hx3 := Ss.lt
    refine (qCheckDay_any _ _).mono ?_
    rintro e w20 ⟨rfl, hw⟩
    rw [hw]
    clear hw
    rcases H2.out with ⟨hf0, rfl, rfl, hcd⟩ | ⟨hf0, hse0, hoe0, hr0, hqo, hcd⟩
    · have hfb := bne_iff_ne.2 hf0
      have hfb2 := beq_eq_false_iff_ne.2 hf0
      rcases hcd with ⟨hr0, rfl, rfl, rfl⟩ | ⟨hr0, f, hqo, hcd⟩
      · rw [hr0]
        obtain ⟨VO, HVO, hb, Of⟩ : ∃ V, Hid (V8.alloc (.cells #[.int .i64 0, .string ⟨#[]⟩] 62) = V) ∧ Below V8.heap.size V8 V ∧ K2 V V8.heap.size (.int .i64 0) (.string ⟨#[]⟩) := ⟨_, Lib.hid rfl, below_alloc _ _, K2.new _ _ _ _⟩
        have rXx0 := (Xx.below (below_alloc V8 (.cells #[.int .i64 0, .string ⟨#[]⟩] 62))).a0
        have rXx1 := (Xx.below (below_alloc V8 (.cells #[.int .i64 0, .string ⟨#[]⟩] 62))).a1
        replace Ow := Ow.below hb
        replace Ss := Ss.below hb
        replace Xx := Xx.below hb
        replace hB := b_then hB hb
        clear hb
        go_wp2_with fail
        rw [HVO.out]
        refine (first_new [_, _] _ _ _ _ VO (by rw [← HVO.out]; simp) rfl (by simp)).mono ?_
        rintro e w23 ⟨rfl, hw⟩
        rw [HFE.out]
        have hb : Below VO.heap.size VO w23 := by rw [hw]; exact below_alloc _ _
        clear hw
        replace hB := b_then hB hb
        go_wp2_with fail
        refine (number_bad _ _ _ hf0).mono ?_
        rintro e w24 ⟨rfl, hw⟩
        rw [hw]
        clear hw
        go_wp2_with fail
        go_ret
        exact ⟨rfl, hB⟩
      · rw [hr0]
        have HQO := Lib.hid hqo
        clear hqo
        obtain ⟨VO, HVO, hb, Of⟩ : ∃ V, Hid (V8.alloc (.cells #[.int .i64 0, .string ⟨#[]⟩] 62) = V) ∧ Below V8.heap.size V8 V ∧ K2 V V8.heap.size (.int .i64 0) (.string ⟨#[]⟩) := ⟨_, Lib.hid rfl, below_alloc _ _, K2.new _ _ _ _⟩
        replace Ow := Ow.below hb
        replace Ss := Ss.below hb
        replace Xx := Xx.below hb
        replace hB := b_then hB hb
        clear hb
        go_wp2_with fail
        rw [HVO.out]
        clear HVO
        refine (HQO.out _).mono ?_
        rintro e w21 ⟨rfl, hb⟩
        replace Ow := Ow.below hb
        replace Ss := Ss.below hb
        replace Xx := Xx.below hb
        replace Of := Of.below hb
        replace hB := b_then hB hb
        clear hb
        have fOf0 := Of.f0
        have fOf1 := Of.f1
        have rOf0 := Of.a0
        have rOf1 := Of.a1
        go_upto_region 31 with (fail)
        go_name_world W5 hW5
        obtain ⟨Of2, hoth, hbs, -⟩ := Of.set hW5
        clear rOf0 rOf1 fOf0 fOf1 Of hW5
        replace Xx := Xx.of (hoth _ (by omega))
        replace Ow := Ow.of (hoth _ (by omega))
        replace Ss := Ss.of (hoth _ (by omega))
        replace hB := hB.trans (hbs.mono (by have := hlw; omega))
        clear hoth hbs
        have rXx0 := Xx.a0
        have rXx1 := Xx.a1
        have rOf0 := Of2.a0
        have rOf1 := Of2.a1
        rcases hcd with ⟨rfl, rfl⟩ | ⟨rfl, rfl⟩
        all_goals
          go_wp2_with fail
          refine (first_new [_, _] _ _ _ _ _ rfl rfl (by simp)).mono ?_
          rintro e w23 ⟨rfl, hw⟩
          rw [HFE.out]
          have hb : Below W5.heap.size W5 w23 := by rw [hw]; exact below_alloc _ _
          clear hw
          replace Ow := Ow.below hb
          replace Of2 := Of2.below hb
          replace hB := b_then hB hb
          clear hb rXx0 rXx1 rOf0 rOf1
          go_wp2_with fail
          refine (number_bad _ _ _ hf0).mono ?_
          rintro e w24 ⟨rfl, hw⟩
          rw [hw]
          clear hw
          go_wp2_with fail
          go_ret
          exact ⟨rfl, hB⟩
    · exact absurd hse0 hs0
  · have HQS := Lib.hid hqs
    have HQN := Lib.hid hqn
    have HQP := Lib.hid hqp
    clear hqs hqn hqp
    have rOw0 := Ow.a0
    have rOw1 := Ow.a1
    go_wp2_with fail
    clear rOw0 rOw1
    refine (HQS.out _).mono ?_
    rintro e w9 ⟨rfl, hb⟩
    replace Ow := Ow.below hb
    replace Pp := Pp.below hb
    replace Nn := Nn.below hb
    replace Bb := Bb.below hb
    replace Xx := Xx.below hb
    replace Ss := Ss.below hb
    replace Nx := Nx.below hb
    replace Bf := Bf.below hb
    replace hB := b_then hB hb
    clear hb
    have fSs0 := Ss.f0
    have fSs1 := Ss.f1
    have fSs2 := Ss.f2
    have rSs0 := Ss.a0
    have rSs1 := Ss.a1
    have rSs2 := Ss.a2
    go_upto_region 17 with (fail)
    go_name_world V9 hV9
    obtain ⟨Ss2, hoth, hbs, -⟩ := Ss.set hV9
    clear rSs0 rSs1 rSs2 fSs0 fSs1 fSs2
    clear Ss hV9
    replace Ow := Ow.of (hoth _ (by omega))
    replace Pp := Pp.of (hoth _ (by omega))
    replace Nn := Nn.of (hoth _ (by omega))
    replace Bb := Bb.of (hoth _ (by omega))
    replace Xx := Xx.of (hoth _ (by omega))
    replace Nx := Nx.of (hoth _ (by omega))
    replace Bf := Bf.of (hoth _ (by omega))
    have hw0 := hB.size
    replace hB := hB.trans (hbs.mono (by have := hlw0; omega))
    clear hoth hbs hw0
    have rOw0 := Ow.a0
    have rOw1 := Ow.a1
    go_wp2_with fail
    clear rOw0 rOw1
    refine (HQN.out _).mono ?_
    rintro e w10 ⟨rfl, hb⟩
    replace Ow := Ow.below hb
    replace Pp := Pp.below hb
    replace Nn := Nn.below hb
    replace Bb := Bb.below hb
    replace Xx := Xx.below hb
    replace Ss2 := Ss2.below hb
    replace Nx := Nx.below hb
    replace Bf := Bf.below hb
    replace hB := b_then hB hb
    clear hb
    have fNx0 := Nx.f0
    have fNx1 := Nx.f1
    have rNx0 := Nx.a0
    have rNx1 := Nx.a1
    go_upto_region 19 with (fail)
    go_name_world V10 hV10
    obtain ⟨Nx2, hoth, hbs, -⟩ := Nx.set hV10
    clear rNx0 rNx1 fNx0 fNx1
    clear Nx hV10
    replace Ow := Ow.of (hoth _ (by omega))
    replace Pp := Pp.of (hoth _ (by omega))
    replace Nn := Nn.of (hoth _ (by omega))
    replace Bb := Bb.of (hoth _ (by omega))
    replace Xx := Xx.of (hoth _ (by omega))
    replace Ss2 := Ss2.of (hoth _ (by omega))
    replace Bf := Bf.of (hoth _ (by omega))
    replace hB := hB.trans (hbs.mono (by have := hlw0; omega))
    clear hoth hbs
    have hnp : (nf = true ∨ nf = false) ∧ (pf = true ∨ pf = false) := ⟨by cases nf <;> simp, by cases pf <;> simp⟩
    clear hnp
    rcases hcs with ⟨rfl, rfl, rfl, rfl⟩ | ⟨rfl, rfl, rfl, rfl⟩ | ⟨rfl, rfl, rfl, rfl⟩
    all_goals
      have rOw0 := Ow.a0
      have rOw1 := Ow.a1
      go_wp2_with fail
      clear rOw0 rOw1
      refine (HQP.out _).mono ?_
      rintro e w11 ⟨rfl, hb⟩
      replace Ow := Ow.below hb
      replace Pp := Pp.below hb
      replace Nn := Nn.below hb
      replace Bb := Bb.below hb
      replace Xx := Xx.below hb
      replace Ss2 := Ss2.below hb
      replace Nx2 := Nx2.below hb
      replace Bf := Bf.below hb
      replace hB := b_then hB hb
      clear hb
      have fBf0 := Bf.f0
      have fBf1 := Bf.f1
      have rBf0 := Bf.a0
      have rBf1 := Bf.a1
      go_upto_region 22 with (fail)
      go_name_world V11 hV11
      obtain ⟨Bf2, hoth, hbs, -⟩ := Bf.set hV11
      clear rBf0 rBf1 fBf0 fBf1
      clear Bf hV11
      replace Ow := Ow.of (hoth _ (by omega))
      replace Pp := Pp.of (hoth _ (by omega))
      replace Nn := Nn.of (hoth _ (by omega))
      replace Bb := Bb.of (hoth _ (by omega))
      replace Xx := Xx.of (hoth _ (by omega))
      replace Ss2 := Ss2.of (hoth _ (by omega))
      replace Nx2 := Nx2.of (hoth _ (by omega))
      replace hB := hB.trans (hbs.mono (by have := hlw0; omega))
      clear hoth hbs
      have rPp0 := Pp.a0
      have rPp1 := Pp.a1
      have rPp2 := Pp.a2
      have rSs20 := Ss2.a0
      have rSs21 := Ss2.a1
      have rSs22 := Ss2.a2
      have rNn0 := Nn.a0
      have rNn1 := Nn.a1
      have rNx20 := Nx2.a0
      have rNx21 := Nx2.a1
      have rBb0 := Bb.a0
      have rBb1 := Bb.a1
      have rBf20 := Bf2.a0
      have rBf21 := Bf2.a1
      go_wp2_with fail
      clear rPp0 rPp1 rPp2 rSs20 rSs21 rSs22 rNn0 rNn1 rNx20 rNx21 rBb0 rBb1 rBf20 rBf21
      have hlw : w.heap.size ≤ V11.heap.size := hB.size
      have Ss := Ss2
      clear Pp Nn Nx2 Bb Bf2 Ss2
      have hx1 := Xx.lt
      have hx2 := Ow.lt
      have hx3 := Ss.lt
      refine (qCheckDay_any _ _).mono ?_
      rintro e w20 ⟨rfl, hw⟩
      rw [hw]
      clear hw
      rcases H2.out with ⟨hf0, rfl, rfl, hcd⟩ | ⟨hf0, hse0, hoe0, hr0, hqo, hcd⟩
      · have hfb := bne_iff_ne.2 hf0
        have hfb2 := beq_eq_false_iff_ne.2 hf0
        rcases hcd with ⟨hr0, rfl, rfl, rfl⟩ | ⟨hr0, f, hqo, hcd⟩
        · rw [hr0]
          obtain ⟨VO, HVO, hb, Of⟩ : ∃ V, Hid (V11.alloc (.cells #[.int .i64 0, .string ⟨#[]⟩] 62) = V) ∧ Below V11.heap.size V11 V ∧ K2 V V11.heap.size (.int .i64 0) (.string ⟨#[]⟩) := ⟨_, Lib.hid rfl, below_alloc _ _, K2.new _ _ _ _⟩
          have rXx0 := (Xx.below (below_alloc V11 (.cells #[.int .i64 0, .string ⟨#[]⟩] 62))).a0
          have rXx1 := (Xx.below (below_alloc V11 (.cells #[.int .i64 0, .string ⟨#[]⟩] 62))).a1
          replace Ow := Ow.below hb
          replace Ss := Ss.below hb
          replace Xx := Xx.below hb
          replace hB := b_then hB hb
          clear hb
          go_wp2_with fail
          rw [HVO.out]
          refine (first_new [_, _] _ _ _ _ VO (by rw [← HVO.out]; simp) rfl (by simp)).mono ?_
          rintro e w23 ⟨rfl, hw⟩
          rw [HFE.out]
          have hb : Below VO.heap.size VO w23 := by rw [hw]; exact below_alloc _ _
          clear hw
          replace hB := b_then hB hb
          go_wp2_with fail
          refine (number_bad _ _ _ hf0).mono ?_
          rintro e w24 ⟨rfl, hw⟩
          rw [hw]
          clear hw
          go_wp2_with fail
          go_ret
          exact ⟨rfl, hB⟩
        · rw [hr0]
          have HQO := Lib.hid hqo
          clear hqo
          obtain ⟨VO, HVO, hb, Of⟩ : ∃ V, Hid (V11.alloc (.cells #[.int .i64 0, .string ⟨#[]⟩] 62) = V) ∧ Below V11.heap.size V11 V ∧ K2 V V11.heap.size (.int .i64 0) (.string ⟨#[]⟩) := ⟨_, Lib.hid rfl, below_alloc _ _, K2.new _ _ _ _⟩
          replace Ow := Ow.below hb
          replace Ss := Ss.below hb
          replace Xx := Xx.below hb
          replace hB := b_then hB hb
          clear hb
          go_wp2_with fail
          rw [HVO.out]
          clear HVO
          refine (HQO.out _).mono ?_
          rintro e w21 ⟨rfl, hb⟩
          replace Ow := Ow.below hb
          replace Ss := Ss.below hb
          replace Xx := Xx.below hb
          replace Of := Of.below hb
          replace hB := b_then hB hb
          clear hb
          have fOf0 := Of.f0
          have fOf1 := Of.f1
          have rOf0 := Of.a0
          have rOf1 := Of.a1
          go_upto_region 31 with (fail)
          go_name_world W5 hW5
          obtain ⟨Of2, hoth, hbs, -⟩ := Of.set hW5
          clear rOf0 rOf1 fOf0 fOf1 Of hW5
          replace Xx := Xx.of (hoth _ (by omega))
          replace Ow := Ow.of (hoth _ (by omega))
          replace Ss := Ss.of (hoth _ (by omega))
          replace hB := hB.trans (hbs.mono (by have := hlw; omega))
          clear hoth hbs
          have rXx0 := Xx.a0
          have rXx1 := Xx.a1
          have rOf0 := Of2.a0
          have rOf1 := Of2.a1
          rcases hcd with ⟨rfl, rfl⟩ | ⟨rfl, rfl⟩
          all_goals
            go_wp2_with fail
            refine (first_new [_, _] _ _ _ _ _ rfl rfl (by simp)).mono ?_
            rintro e w23 ⟨rfl, hw⟩
            rw [HFE.out]
            have hb : Below W5.heap.size W5 w23 := by rw [hw]; exact below_alloc _ _
            clear hw
            replace Ow := Ow.below hb
            replace Of2 := Of2.below hb
            replace hB := b_then hB hb
            clear hb rXx0 rXx1 rOf0 rOf1
            go_wp2_with fail
            refine (number_bad _ _ _ hf0).mono ?_
            rintro e w24 ⟨rfl, hw⟩
            rw [hw]
            clear hw
            go_wp2_with fail
            go_ret
            exact ⟨rfl, hB⟩
      · rw [hr0]
        have HQO := Lib.hid hqo
        clear hqo
        obtain ⟨VO, HVO, hb, Of⟩ : ∃ V, Hid (V11.alloc (.cells #[.int .i64 0, .string ⟨#[]⟩] 62) = V) ∧ Below V11.heap.size V11 V ∧ K2 V V11.heap.size (.int .i64 0) (.string ⟨#[]⟩) := ⟨_, Lib.hid rfl, below_alloc _ _, K2.new _ _ _ _⟩
        replace Ow := Ow.below hb
        replace Ss := Ss.below hb
        replace Xx := Xx.below hb
        replace hB := b_then hB hb
        clear hb
        go_wp2_with fail
        rw [HVO.out]
        clear HVO
        refine (HQO.out _).mono ?_
        rintro e w21 ⟨rfl, hb⟩
        replace Ow := Ow.below hb
        replace Ss := Ss.below hb
        replace Xx := Xx.below hb
        replace Of := Of.below hb
        replace hB := b_then hB hb
        clear hb
        have fOf0 := Of.f0
        have fOf1 := Of.f1
        have rOf0 := Of.a0
        have rOf1 := Of.a1
        go_upto_region 31 with (fail)
        go_name_world W5 hW5
        obtain ⟨Of2, hoth, hbs, -⟩ := Of.set hW5
        clear rOf0 rOf1 fOf0 fOf1 Of hW5
        replace Xx := Xx.of (hoth _ (by omega))
        replace Ow := Ow.of (hoth _ (by omega))
        replace Ss := Ss.of (hoth _ (by omega))
        replace hB := hB.trans (hbs.mono (by have := hlw; omega))
        clear hoth hbs
        have rXx0 := Xx.a0
        have rXx1 := Xx.a1
        have rOf0 := Of2.a0
        have rOf1 := Of2.a1
        rw [hoe0] at *
        go_wp2_with fail
        refine (first_new [_, _] _ _ _ _ _ rfl rfl (by simp)).mono ?_
        rintro e w23 ⟨rfl, hw⟩
        rw [show fst [0, 0] = 0 from rfl]
        have hb : Below W5.heap.size W5 w23 := by rw [hw]; exact below_alloc _ _
        clear hw
        replace Ow := Ow.below hb
        replace Of2 := Of2.below hb
        replace Ss := Ss.below hb
        replace hB := b_then hB hb
        clear hb rXx0 rXx1 rOf0 rOf1
        have rOw0 := Ow.a0
        have rOw1 := Ow.a1
        have rOf0 := Of2.a0
        have rOf1 := Of2.a1
        rcases hcd with ⟨hkk, rfl, rfl⟩ | ⟨hkk, hday, hp0, f0, f1, hf1, hqs2, hcd⟩
        · go_wp2_with fail
          refine (number_bad _ _ _ (by decide)).mono ?_
          rintro e w24 ⟨rfl, hw⟩
          rw [hw]
          clear hw
          go_wp2_with fail
          go_ret
          exact ⟨rfl, hB⟩
        · have HQS2 := Lib.hid hqs2
          clear hqs2
          obtain ⟨hd1, hd2⟩ := hday
          obtain ⟨hp1, hp2⟩ := hp0
          obtain ⟨hg1, hg2⟩ := hf1
          go_wp2_with fail
          have k0 : ∀ x : KeptW w23, x.v.cell? ⟨V11.heap.size, 0, none⟩ = some (.int .i64 oy) := fun x => x.cell Of2.a0
          have k1 : ∀ x : KeptW w23, x.v.cell? ⟨V11.heap.size, 1, none⟩ = some (.string ok) := fun x => x.cell Of2.a1
          have s0 : ∀ x : KeptW w23, x.v.cell? ⟨w8.heap.size, 0, none⟩ = some (.int .i64 p0) := fun x => x.cell Ss.a0
          have hne : Nonempty (KeptW w23) := ⟨⟨w23, Below.refl _ _⟩⟩
          refine region_kept (by kernel_rfl) (by kernel_rfl) ?_
          iterate 2 (go_big_quiet_step (fail))
          go_big_quiet_step (exact KeptW.calls (HQS2.out _))
          iterate 6 (go_big_quiet_step (fail))
          refine wpQuiet_nil ?_
          rintro _ ⟨x, rfl⟩
          have t1 := x.cell Ss.a1
          replace hB := b_then hB x.below
          clear k0 k1 s0
          rcases hcd with ⟨hle, rfl, rfl⟩ | ⟨hgt, rfl, rfl⟩
          · go_wp2_with fail
            refine (number_ok _ _).mono ?_
            rintro e w24 ⟨rfl, hw⟩
            rw [hw]
            clear hw
            go_wp2_with fail
            go_ret
            exact ⟨rfl, hB⟩
          · go_wp2_with fail
            refine (number_bad _ _ _ (by decide)).mono ?_
            rintro e w24 ⟨rfl, hw⟩
            rw [hw]
            clear hw
            go_wp2_with fail
            go_ret
            exact ⟨rfl, hB⟩
end Go.Proofs.YtijnabgehlkghaaGreatDoor
