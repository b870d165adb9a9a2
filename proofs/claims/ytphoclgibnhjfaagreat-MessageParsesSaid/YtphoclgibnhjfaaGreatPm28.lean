/- Contract of ParseMessage, for every text. · Contracts of package message: a result, and the error of one. · Requests that stand: the cells of an entry. · Structs are compared: requests, lines, results, entries. · Contract of the reference: turnround/turnroundref02.SameLines, at two rows of the same. · Contract of the statements' own: a message of the program as one of the reference. · Contract of the reference's SameMessages at two equal messages. · As XHeld, but an operation that makes memory may lean on what is known of those before it: two such operations are never apart. · The walk of MessageParses. · Arguments read again behind the call: whatever their types, they read as they did where the call leaves the old memory as it was. · What the listed package-level variables give the walks. -/
import Derived.Test.YtphoclgibnhjfaaGreatPm27
import Derived.Test.YtphoclgibnhjfaaGreatPm17
import Derived.Test.YtphoclgibnhjfaaGreatPm9
import Derived.Laws.StructEq
import Derived.Test.YtphoclgibnhjfaaGreatPm24
import Derived.Test.YtphoclgibnhjfaaGreatPm25
import Derived.Deep.CutRange
import Derived.Test.YtphoclgibnhjfaaGreatPm8
import Derived.Test.YtphoclgibnhjfaaGreatPm1
import Derived.WideKeyArgs
import Derived.ChangeShapes
import Derived.OpenShut
import Derived.Below
import Derived.Test.YtphoclgibnhjfaaGreatRows
import Derived.Test.YtphoclgibnhjfaaGreatPm11
import Derived.ProofKit
import Derived.Lib.LaidTab
import Derived.Stop.LaidErr
import Derived.LaidMore
import Derived.ChangeSame
namespace Go.Proofs.YtphoclgibnhjfaaGreat
open Go Go.RowKit
theorem step_len {x : RS} {t : ByteArray} (h : (stepM x t).2 = 0) (hx : x.L.length ≤ 64) : (stepM x t).1.L.length ≤ 64 := by
  unfold stepM at h ⊢
  split
  · exact hx
  · rename_i h1
    rw [if_neg h1] at h
    split
    · exact hx
    · rename_i h2
      rw [if_neg h2] at h
      split
      · exact hx
      · rename_i h3
        rw [if_neg h3] at h
        dsimp only at h ⊢
        rw [fst_zero] at h
        have := (unl_zero (show (5 : Int) ≠ 0 by decide)).1 (h (unl (decide ((x.L.length : Int) < 64)) 5) (by simp))
        have := of_decide_eq_true this
        simp
        omega
theorem runM_len : ∀ (ts : List ByteArray) (x : RS), x.L.length ≤ 64 → (runM ts x).2.2 = 0 → (runM ts x).1.L.length ≤ 64
  | [], x, hx, _ => hx
  | t :: ts, x, hx, h => by
    unfold runM at h ⊢
    by_cases e : (stepM x t).2 = 0
    · rw [if_neg (by simpa using e)] at h ⊢
      exact runM_len ts _ (step_len e hx) h
    · rw [if_pos e] at h
      exact absurd h e
set_option maxRecDepth 100000 in
set_option maxHeartbeats 4000000 in
theorem ParseMessage_any (s : ByteArray) (w : World) :
    Calls Tryz.prog 13 #[.string s] w fun e w' => PM 88 w.heap.size e w' (msgIs s) ∧ Below w.heap.size w w' := by
  obtain ⟨W0, HW0, hb0, MB0⟩ : ∃ W0, Hid (w.alloc (.cells #[.string ⟨#[]⟩, .string ⟨#[]⟩, .string ⟨#[]⟩, .int .i64 0, .slice none 0 0] 25) = W0) ∧ Below w.heap.size w W0 ∧ MB W0 w.heap.size zeroHead (.slice none 0 0) := ⟨_, Lib.hid rfl, below_alloc _ _, MB.new w zeroHead _ _⟩
  rw [← progIs_eq]
  have HI : Hid (progIs s = if 16384 < s.size then badM 0 26 else finM (runM (pcs s) zeroRS)) := Lib.hid rfl
  generalize progIs s = mi at *
  by_cases hsz : 16384 < s.size
  · have hb : (16384 : Int) < s.size := by omega
    have HE : Hid (mi = badM 0 26) := Lib.hid (by rw [HI.out, if_pos hsz])
    obtain ⟨t0, t1, t2, t3, t4⟩ := MB0.c
    simp only [zeroHead] at t0 t1 t2 t3 t4
    have e0 := MB0.f 0 (by decide)
    have e1 := MB0.f 1 (by decide)
    have e2 := MB0.f 2 (by decide)
    have e3 := MB0.f 3 (by decide)
    have e4 := MB0.f 4 (by decide)
    go_enter Tryz.func13, Tryz.ntmps13
    go_wp2_with fail
    rw [HW0.out]
    exact bodyPost_ret (v := .tuple #[.agg #[.string ⟨#[]⟩, .string ⟨#[]⟩, .string ⟨#[]⟩, .int .i64 0, .slice none 0 0], .int .i64 0, .int .i64 26]) (by simp [results, Tryz.results13, go_sem, t0, t1, t2, t3, t4]) rfl ⟨PM.bad HE.out, hb0⟩
  · have hb : ¬ (16384 : Int) < s.size := by omega
    have hrm := fun w => callsIn_wide.1 (readMessage_in 3 (Nat.le_refl _) s (by omega) w)
    have HRL : Hid ((runM (pcs s) zeroRS).2.2 = 0 → (runM (pcs s) zeroRS).1.L.length ≤ 64) := Lib.hid fun h => runM_len _ _ (by decide) h
    rw [if_neg hsz] at HI
    generalize runM (pcs s) zeroRS = r at *
    go_enter Tryz.func13, Tryz.ntmps13
    go_wp2_with fail
    rw [HW0.out]
    clear HW0
    refine (hrm _).mono ?_
    rintro e1 W1 ⟨⟨⟨kd, ap, sn, dy⟩, A, n, c, rfl, hok⟩, hb1⟩
    simp only [HeadV.cells] at hok ⊢
    have MR1 := MB0.below hb1
    have hB1 := b_then hb0 hb1
    have hw1 : w.heap.size < W1.heap.size := cell_in MR1.c.c0
    have hw01 : w.heap.size < W0.heap.size := cell_in MB0.c.c0
    obtain ⟨V, HV, hbV, MV⟩ : ∃ V, Hid (W1.alloc (.cells #[.string kd, .string ap, .string sn, .int .i64 dy, .slice A n c] 25) = V) ∧ Below W1.heap.size W1 V ∧ MB V W1.heap.size ⟨kd, ap, sn, dy⟩ (.slice A n c) := ⟨_, Lib.hid rfl, below_alloc _ _, MB.new W1 ⟨kd, ap, sn, dy⟩ (.slice A n c) _⟩
    have MR := MR1.below hbV
    have hBR := b_then hB1 hbV
    have HOK := Lib.hid hok
    clear hrm MB0 hb0 hb1 MR1 hB1 hok
    go_upto_region 4 with fail
    rw [HV.out]
    obtain ⟨m0, m1, m2, m3, m4⟩ := MR.c
    simp only [zeroHead] at m0 m1 m2 m3 m4
    have e0 := MR.f 0 (by decide)
    have e1 := MR.f 1 (by decide)
    have e2 := MR.f 2 (by decide)
    have e3 := MR.f 3 (by decide)
    have e4 := MR.f 4 (by decide)
    by_cases hz : r.2.2 = 0
    · have hzb : (r.2.2 != 0) = false := by simp [hz]
      obtain ⟨hh, hsl, -, hown⟩ := HOK.out hz
      have hL := HRL.out hz
      have HEC : Hid (mi = closeM ⟨kd, ap, sn, dy⟩ r.1.L) := Lib.hid (by rw [HI.out, hh]; unfold finM; rw [if_neg (by simpa using hz)])
      have HCM : Hid (closeM ⟨kd, ap, sn, dy⟩ r.1.L = if (wlGo kd r.1.L zeroLine 0).2 ≠ 0 then badM ((wlGo kd r.1.L zeroLine 0).1 + 1) (wlGo kd r.1.L zeroLine 0).2 else ((⟨kd, ap, sn, dy⟩, r.1.L), 0, 0)) := Lib.hid rfl
      have HWL : Hid ((wlGo kd r.1.L zeroLine 0).1 ≤ 1000 ∧ -1000 ≤ (wlGo kd r.1.L zeroLine 0).1) := Lib.hid (wl_bd kd r.1.L (by omega))
      have hlen := (slArg_own (f := LineV.cells) (k := 14) (fun _ => rfl) (by decide) hown).len
      have hownV := pr_below hown hbV
      have hLA := lnArg_sl (slArg_own (f := LineV.cells) (k := 14) (fun _ => rfl) (by decide) hownV) hsl
      have hwl := fun W (hW : Below V.heap.size V W) => wrongLine_arg ⟨kd, ap, sn, dy⟩ r.1.L (.slice A n c) V W hLA hW (by omega)
      simp only [HeadV.cells] at hwl
      have HOV := Lib.hid hownV
      clear hh hsl hown hL hlen hownV hLA HOK HRL HI
      generalize wlGo kd r.1.L zeroLine 0 = P at *
      obtain ⟨x0, x1, x2, x3, x4⟩ := MV.c
      dsimp only at x0 x1 x2 x3 x4
      go_wp2_with fail
      refine (hwl _ (Below.refl _ _)).mono ?_
      rintro e2 W2 ⟨rfl, hb2⟩
      replace MR := MR.below hb2
      replace hBR := b_then hBR hb2
      have MV2 := MV.below hb2
      have hown2 := pr_below HOV.out hb2
      have hwl1 := HWL.out.1
      have hwl2 := HWL.out.2
      clear m0 m1 m2 m3 m4 e0 e1 e2 e3 e4 x0 x1 x2 x3 x4 hwl MV HV
      obtain ⟨m0, m1, m2, m3, m4⟩ := MR.c
      simp only [zeroHead] at m0 m1 m2 m3 m4
      have e0 := MR.f 0 (by decide)
      have e1 := MR.f 1 (by decide)
      have e2 := MR.f 2 (by decide)
      have e3 := MR.f 3 (by decide)
      have e4 := MR.f 4 (by decide)
      by_cases hp : P.2 = 0
      · have hpb : (P.2 != 0) = false := by simp [hp]
        have HE : Hid (mi = ((⟨kd, ap, sn, dy⟩, r.1.L), 0, 0)) := Lib.hid (by rw [HEC.out, HCM.out, if_neg (by simp [hp])])
        obtain ⟨x0, x1, x2, x3, x4⟩ := MV2.c
        dsimp only at x0 x1 x2 x3 x4
        go_wp2_with fail
        obtain ⟨Y, HY, hMY, hBY, hkY, -⟩ := put5 MR ⟨kd, ap, sn, dy⟩ (.string kd) (.string ap) (.string sn) (.int .i64 dy) (.slice A n c) (.slice A n c) rfl (Nat.le_refl _) hBR
        rw [HY.out]
        have hownY : Y.ownsRow w.heap.size 88 14 (.slice A n c) r.1.L.length (flatG LineV.cells r.1.L) := own_less (own_of hown2 (fun b hb => hkY b (by omega))) (Nat.le_of_lt hw01)
        obtain ⟨t0, t1, t2, t3, t4⟩ := hMY.c
        dsimp only at t0 t1 t2 t3 t4
        exact bodyPost_ret (v := .tuple #[.agg #[.string kd, .string ap, .string sn, .int .i64 dy, .slice A n c], .int .i64 0, .int .i64 0]) (by simp [results, Tryz.results13, go_sem, t0, t1, t2, t3, t4]) rfl ⟨by rw [HE.out]; exact ⟨_, rfl, hownY⟩, hBY⟩
      · have hpb : (P.2 != 0) = true := by simpa using hp
        have HE : Hid (mi = badM (P.1 + 1) P.2) := Lib.hid (by rw [HEC.out, HCM.out, if_pos (by simpa using hp)])
        go_wp2_with fail
        obtain ⟨Y, HY, hMY, hBY, -, -⟩ := put5 MR zeroHead (.string ⟨#[]⟩) (.string ⟨#[]⟩) (.string ⟨#[]⟩) (.int .i64 0) (.slice none 0 0) (.slice none 0 0) rfl (Nat.le_refl _) hBR
        rw [HY.out]
        obtain ⟨t0, t1, t2, t3, t4⟩ := hMY.c
        simp only [zeroHead] at t0 t1 t2 t3 t4
        exact bodyPost_ret (v := .tuple #[.agg #[.string ⟨#[]⟩, .string ⟨#[]⟩, .string ⟨#[]⟩, .int .i64 0, .slice none 0 0], .int .i64 (P.1 + 1), .int .i64 (P.2)]) (by simp [results, Tryz.results13, go_sem, t0, t1, t2, t3, t4]) rfl ⟨PM.bad HE.out, hBY⟩
    · have hzb : (r.2.2 != 0) = true := by simpa using hz
      have HE : Hid (mi = badM r.2.1 r.2.2) := Lib.hid (by rw [HI.out]; unfold finM; rw [if_pos (by simpa using hz)])
      go_wp2_with fail
      obtain ⟨Y, HY, hMY, hBY, -, -⟩ := put5 MR zeroHead (.string ⟨#[]⟩) (.string ⟨#[]⟩) (.string ⟨#[]⟩) (.int .i64 0) (.slice none 0 0) (.slice none 0 0) rfl (Nat.le_refl _) hBR
      rw [HY.out]
      obtain ⟨t0, t1, t2, t3, t4⟩ := hMY.c
      simp only [zeroHead] at t0 t1 t2 t3 t4
      exact bodyPost_ret (v := .tuple #[.agg #[.string ⟨#[]⟩, .string ⟨#[]⟩, .string ⟨#[]⟩, .int .i64 0, .slice none 0 0], .int .i64 (r.2.1), .int .i64 (r.2.2)]) (by simp [results, Tryz.results13, go_sem, t0, t1, t2, t3, t4]) rfl ⟨PM.bad HE.out, hBY⟩
end Go.Proofs.YtphoclgibnhjfaaGreat
namespace Go.Proofs.YtphoclgibnhjfaaGreat
open Go Go.RowKit Go.ChangeMaps Go.MapKept
/-- The cells of a result. -/
structure ResV where
  name : ByteArray
  granted : Bool
  minute : Int
def ResV.cells (q : ResV) : Array Value := #[.string q.name, .bool q.granted, .int .i64 q.minute]
instance : Inhabited ResV := ⟨⟨ByteArray.empty, false, 0⟩⟩
def resErr (q : ResV) : Int := fst [nameE q.name, rng q.minute 0 (if q.granted then 1439 else 0)]
structure ResW (w : World) (b : Nat) (q : ResV) : Prop where
  c0 : w.cell? ⟨b, 0, none⟩ = some (.string q.name)
  c1 : w.cell? ⟨b, 1, none⟩ = some (.bool q.granted)
  c2 : w.cell? ⟨b, 2, none⟩ = some (.int .i64 q.minute)
theorem res_new (w : World) (q : ResV) (T : TypeId) : ∃ W, Hid (w.alloc (.cells q.cells T) = W) ∧ Below w.heap.size w W ∧ ResW W w.heap.size q := by
  refine ⟨_, Lib.hid rfl, below_alloc w _, ?_⟩
  unfold ResV.cells
  constructor <;> simp
set_option maxRecDepth 100000 in
set_option maxHeartbeats 1000000 in
theorem checkResult_any (q : ResV) (w : World) :
    Calls Tryz.prog 167 #[.agg q.cells] w fun r w' => r = .returned (.int .i64 (resErr q)) ∧ Below w.heap.size w w' := by
  obtain ⟨name, g, m⟩ := q
  cases g
  all_goals
    obtain ⟨W, HW, hb0, R⟩ := res_new w ⟨name, _, m⟩ 113
    obtain ⟨c0, c1, c2⟩ := R
    simp only [ResV.cells] at *
    go_enter Tryz.func167, Tryz.ntmps167
    go_wp2_with fail
    try rw [HW.out]
    try go_wp2_with fail
    have k0 : ∀ x : KeptW W, x.v.cell? ⟨w.heap.size, 0, none⟩ = _ := fun x => x.cell c0
    have k1 : ∀ x : KeptW W, x.v.cell? ⟨w.heap.size, 1, none⟩ = _ := fun x => x.cell c1
    have k2 : ∀ x : KeptW W, x.v.cell? ⟨w.heap.size, 2, none⟩ = _ := fun x => x.cell c2
    have hne : Nonempty (KeptW W) := ⟨⟨W, Below.refl _ _⟩⟩
    clear c0 c1 c2
    refine tail_kept 7 (by kernel_rfl) (by kernel_rfl) ?_
    simp only [List.take_succ_cons, List.take_zero, List.drop_succ_cons, List.drop_zero]
    iterate 2 (go_big_quiet_step (fail))
    go_big_quiet_step (exact KeptW.calls (CName_any _ _))
    iterate 3 (go_big_quiet_step (fail))
    go_big_quiet_step (exact KeptW.calls_same (checkRange_any _ _ _ _))
    refine wpQuiet_nil ?_
    rintro _ ⟨x, rfl⟩
    have hbx := b_then hb0 x.below
    clear k0 k1 k2 hb0
    go_wp2_with fail
    refine (fe_new [_, _] _ _ _ _ _ rfl rfl (by simp)).mono ?_
    rintro e2 w2 ⟨rfl, hw⟩
    have hb2 : Below w.heap.size w w2 := by rw [hw]; exact b_then hbx (below_alloc _ _)
    clear hw
    go_wp2_with fail
    go_ret
    exact ⟨rfl, hb2⟩
end Go.Proofs.YtphoclgibnhjfaaGreat
namespace Go.Proofs.YtphoclgibnhjfaaGreat
open Go Go.RowKit
structure EntV where
  q : ReqV
  historic : Bool
  day : Int
def EntV.cells (x : EntV) : Array Value := #[.string x.q.name, .string x.q.carrier, .string x.q.kind, .string x.q.terminal, .string x.q.partner, .string x.q.link, .int .i64 x.q.from_, .int .i64 x.q.to, .int .i64 x.q.days, .int .i64 x.q.minute, .int .i64 x.q.seats, .int .i64 x.q.size, .int .i64 x.q.noise, .bool x.historic, .int .i64 x.day]
instance : Inhabited EntV := ⟨⟨default, false, 0⟩⟩
end Go.Proofs.YtphoclgibnhjfaaGreat
namespace Go.Proofs.YtphoclgibnhjfaaGreat
open Go Go.RowKit
def reqEqB (q p : ReqV) : Bool := ((q.name.toList == p.name.toList) && ((q.carrier.toList == p.carrier.toList) && ((q.kind.toList == p.kind.toList) && ((q.terminal.toList == p.terminal.toList) && ((q.partner.toList == p.partner.toList) && ((q.link.toList == p.link.toList) && (((q.from_ == p.from_ && (q.to == p.to && (q.days == p.days && true)))) && ((q.minute == p.minute) && ((q.seats == p.seats) && ((q.size == p.size) && ((q.noise == p.noise) && true)))))))))))
theorem reqEqB_iff (q p : ReqV) : reqEqB q p = true ↔ q = p := by
  obtain ⟨a0, a1, a2, a3, a4, a5, a6, a7, a8, a9, a10, a11, a12⟩ := q
  obtain ⟨b0, b1, b2, b3, b4, b5, b6, b7, b8, b9, b10, b11, b12⟩ := p
  simp only [reqEqB, Bool.and_eq_true, beq_iff_eq, ReqV.mk.injEq, and_true]
  constructor
  · rintro ⟨h0, h1, h2, h3, h4, h5, ⟨h6, h7, h8⟩, h9, h10, h11, h12⟩
    exact ⟨toList_inj' h0, toList_inj' h1, toList_inj' h2, toList_inj' h3, toList_inj' h4, toList_inj' h5, h6, h7, h8, h9, h10, h11, h12⟩
  · rintro ⟨rfl, rfl, rfl, rfl, rfl, rfl, rfl, rfl, rfl, rfl, rfl, rfl, rfl⟩
    simp
theorem eqI (d : Nat) (a b : Int) (w : World) : (Op.equalIn (d + 1) 3 (.int .i64 a) (.int .i64 b)).run Tryz.prog w = .ok (a == b) w := run_equalIn_int w d 3 .i64 .i64 a b Tryz.underlying3
theorem eqBo (d : Nat) (a b : Bool) (w : World) : (Op.equalIn (d + 1) 4 (.bool a) (.bool b)).run Tryz.prog w = .ok (a == b) w := run_equalIn_bool w d 4 a b Tryz.underlying4
theorem eqS (d : Nat) (a b : ByteArray) (w : World) : (Op.equalIn (d + 1) 9 (.string a) (.string b)).run Tryz.prog w = .ok (a.toList == b.toList) w := run_equalIn_string w d 9 a b Tryz.underlying9
theorem isAgg3 (w : World) : (isAgg 3).run Tryz.prog w = .ok false w := by kernel_rfl
theorem isAgg4 (w : World) : (isAgg 4).run Tryz.prog w = .ok false w := by kernel_rfl
theorem isAggS (w : World) : (isAgg 9).run Tryz.prog w = .ok false w := by kernel_rfl
theorem isAggP (w : World) : (isAgg 82).run Tryz.prog w = .ok true w := by kernel_rfl
theorem isAggR (w : World) : (isAgg 84).run Tryz.prog w = .ok true w := by kernel_rfl
theorem szP (w : World) : (sizeOf 82).run Tryz.prog w = .ok 3 w := Tryz.sizeOf82 w
theorem szR (w : World) : (sizeOf 84).run Tryz.prog w = .ok 13 w := Tryz.sizeOf84 w
theorem part_one {P : Program} {t : TypeId} {cs : Array Value} {o : Nat} {v : Value} {w : World} (h : (isAgg t).run P w = .ok false w) (hv : cs[o]? = some v) : (part t cs o).run P w = .ok v w := by
  simp [part, Sem.run_bind, h, hv, Result.andThen_ok]
theorem part_agg {P : Program} {t : TypeId} {cs : Array Value} {o n : Nat} {w : World} (h : (isAgg t).run P w = .ok true w) (hs : (sizeOf t).run P w = .ok n w) : (part t cs o).run P w = .ok (.agg (cs.extract o (o + n))) w := by
  simp [part, Sem.run_bind, h, hs, Result.andThen_ok]
theorem eqIn_per' (d : Nat) (a b c a' b' c' : Int) (w : World) :
    (Op.equalIn (d + 1 + 1) 82 (.agg #[.int .i64 a, .int .i64 b, .int .i64 c]) (.agg #[.int .i64 a', .int .i64 b', .int .i64 c'])).run Tryz.prog w = .ok (a == a' && (b == b' && (c == c' && true))) w := by
  rw [run_equalIn_struct w (d + 1) 82 _ _ (by kernel_rfl) (by kernel_rfl)]
  simp only [Program.fieldsOf, Tryz.underlying82]
  refine eqF_cons (by decide) (part_one (isAgg3 w) rfl) (part_one (isAgg3 w) rfl) (eqI d a a' w) ?_
  refine eqF_cons (by decide) (part_one (isAgg3 w) rfl) (part_one (isAgg3 w) rfl) (eqI d b b' w) ?_
  refine eqF_cons (by decide) (part_one (isAgg3 w) rfl) (part_one (isAgg3 w) rfl) (eqI d c c' w) ?_
  exact eqF_nil _ _ _ _
theorem eqIn_req (d : Nat) (q p : ReqV) (w : World) :
    (Op.equalIn (d + 1 + 1 + 1) 84 (.agg q.cells) (.agg p.cells)).run Tryz.prog w = .ok (reqEqB q p) w := by
  rw [run_equalIn_struct w (d + 1 + 1) 84 _ _ (by kernel_rfl) (by kernel_rfl)]
  simp only [Program.fieldsOf, Tryz.underlying84]
  refine eqF_cons (by decide) (part_one (isAggS w) rfl) (part_one (isAggS w) rfl) (eqS (d + 1) q.name p.name w) ?_
  refine eqF_cons (by decide) (part_one (isAggS w) rfl) (part_one (isAggS w) rfl) (eqS (d + 1) q.carrier p.carrier w) ?_
  refine eqF_cons (by decide) (part_one (isAggS w) rfl) (part_one (isAggS w) rfl) (eqS (d + 1) q.kind p.kind w) ?_
  refine eqF_cons (by decide) (part_one (isAggS w) rfl) (part_one (isAggS w) rfl) (eqS (d + 1) q.terminal p.terminal w) ?_
  refine eqF_cons (by decide) (part_one (isAggS w) rfl) (part_one (isAggS w) rfl) (eqS (d + 1) q.partner p.partner w) ?_
  refine eqF_cons (by decide) (part_one (isAggS w) rfl) (part_one (isAggS w) rfl) (eqS (d + 1) q.link p.link w) ?_
  refine eqF_cons (by decide) (part_agg (isAggP w) (szP w)) (part_agg (isAggP w) (szP w)) (eqIn_per' d q.from_ q.to q.days p.from_ p.to p.days w) ?_
  refine eqF_cons (by decide) (part_one (isAgg3 w) rfl) (part_one (isAgg3 w) rfl) (eqI (d + 1) q.minute p.minute w) ?_
  refine eqF_cons (by decide) (part_one (isAgg3 w) rfl) (part_one (isAgg3 w) rfl) (eqI (d + 1) q.seats p.seats w) ?_
  refine eqF_cons (by decide) (part_one (isAgg3 w) rfl) (part_one (isAgg3 w) rfl) (eqI (d + 1) q.size p.size w) ?_
  refine eqF_cons (by decide) (part_one (isAgg3 w) rfl) (part_one (isAgg3 w) rfl) (eqI (d + 1) q.noise p.noise w) ?_
  exact eqF_nil _ _ _ _
theorem eqIn_line (d : Nat) (q p : LineV) (w : World) :
    (Op.equalIn (d + 1 + 1 + 1 + 1) 86 (.agg q.cells) (.agg p.cells)).run Tryz.prog w = .ok (q.act.toList == p.act.toList && (reqEqB q.q p.q && true)) w := by
  rw [run_equalIn_struct w (d + 1 + 1 + 1) 86 _ _ (by kernel_rfl) (by kernel_rfl)]
  simp only [Program.fieldsOf, Tryz.underlying86]
  refine eqF_cons (by decide) (part_one (isAggS w) rfl) (part_one (isAggS w) rfl) (eqS (d + 1 + 1) q.act p.act w) ?_
  refine eqF_cons (by decide) (part_agg (isAggR w) (szR w)) (part_agg (isAggR w) (szR w)) (eqIn_req d q.q p.q w) ?_
  exact eqF_nil _ _ _ _
theorem eqIn_res (d : Nat) (q p : ResV) (w : World) :
    (Op.equalIn (d + 1 + 1) 104 (.agg q.cells) (.agg p.cells)).run Tryz.prog w = .ok (q.name.toList == p.name.toList && ((q.granted == p.granted) && ((q.minute == p.minute) && true))) w := by
  rw [run_equalIn_struct w (d + 1) 104 _ _ (by kernel_rfl) (by kernel_rfl)]
  simp only [Program.fieldsOf, Tryz.underlying104]
  refine eqF_cons (by decide) (part_one (isAggS w) rfl) (part_one (isAggS w) rfl) (eqS d q.name p.name w) ?_
  refine eqF_cons (by decide) (part_one (isAgg4 w) rfl) (part_one (isAgg4 w) rfl) (eqBo d q.granted p.granted w) ?_
  refine eqF_cons (by decide) (part_one (isAgg3 w) rfl) (part_one (isAgg3 w) rfl) (eqI d q.minute p.minute w) ?_
  exact eqF_nil _ _ _ _
theorem eqIn_ent (d : Nat) (q p : EntV) (w : World) :
    (Op.equalIn (d + 1 + 1 + 1 + 1) 133 (.agg q.cells) (.agg p.cells)).run Tryz.prog w = .ok (reqEqB q.q p.q && ((q.historic == p.historic) && ((q.day == p.day) && true))) w := by
  rw [run_equalIn_struct w (d + 1 + 1 + 1) 133 _ _ (by kernel_rfl) (by kernel_rfl)]
  simp only [Program.fieldsOf, Tryz.underlying133]
  refine eqF_cons (by decide) (part_agg (isAggR w) (szR w)) (part_agg (isAggR w) (szR w)) (eqIn_req d q.q p.q w) ?_
  refine eqF_cons (by decide) (part_one (isAgg4 w) rfl) (part_one (isAgg4 w) rfl) (eqBo (d + 1 + 1) q.historic p.historic w) ?_
  refine eqF_cons (by decide) (part_one (isAgg3 w) rfl) (part_one (isAgg3 w) rfl) (eqI (d + 1 + 1) q.day p.day w) ?_
  exact eqF_nil _ _ _ _
theorem sameLn (q : LineV) (w : World) : (Op.equalIn 10000 86 (.agg q.cells) (.agg q.cells)).run Tryz.prog w = .ok true w := by
  rw [show (10000 : Nat) = 9996 + 1 + 1 + 1 + 1 from rfl, eqIn_line]; simp [(reqEqB_iff q.q q.q).2 rfl]
theorem sameRs (q : ResV) (w : World) : (Op.equalIn 10000 104 (.agg q.cells) (.agg q.cells)).run Tryz.prog w = .ok true w := by
  rw [show (10000 : Nat) = 9998 + 1 + 1 from rfl, eqIn_res]; simp
theorem sameEn (q : EntV) (w : World) : (Op.equalIn 10000 133 (.agg q.cells) (.agg q.cells)).run Tryz.prog w = .ok true w := by
  rw [show (10000 : Nat) = 9996 + 1 + 1 + 1 + 1 from rfl, eqIn_ent]; simp [(reqEqB_iff q.q q.q).2 rfl]
theorem sameRq (q : ReqV) (w : World) : (Op.equalIn 10000 84 (.agg q.cells) (.agg q.cells)).run Tryz.prog w = .ok true w := by
  rw [show (10000 : Nat) = 9997 + 1 + 1 + 1 from rfl, eqIn_req, (reqEqB_iff q q).2 rfl]
theorem eqReq (q p : ReqV) (w : World) : (Op.equalIn 10000 84 (.agg q.cells) (.agg p.cells)).run Tryz.prog w = .ok (reqEqB q p) w := by
  rw [show (10000 : Nat) = 9997 + 1 + 1 + 1 from rfl, eqIn_req]
end Go.Proofs.YtphoclgibnhjfaaGreat
namespace Go.Proofs.YtphoclgibnhjfaaGreat
open Go Go.RowKit
set_option maxRecDepth 100000 in
set_option maxHeartbeats 4000000 in
theorem SameLns_some (L : List LineV) (b1 o1 c1 b2 o2 c2 : Nat) (w : World) (h1 : RowsAt LineV.cells 14 w b1 o1 L) (h2 : RowsAt LineV.cells 14 w b2 o2 L) (hn : L.length ≤ 5000) :
    Calls Tryz.prog 29 #[.slice (some ⟨b1, o1, none⟩) L.length c1, .slice (some ⟨b2, o2, none⟩) L.length c2] w fun e w' => e = .returned (.bool true) ∧ Below w.heap.size w w' := by
  have H1 := Lib.hid h1
  have H2 := Lib.hid h2
  clear h1 h2
  go_enter Tryz.func29, Tryz.ntmps29
  go_wp2_with fail
  go_loopw [5] (fun i wr => ∃ k : Nat, k ≤ L.length ∧ i = .int .i64 k ∧ ∃ q, wr = w.drewN q) (fun i _ => L.length - (intOf i).toNat)
  case atStart => exact ⟨0, Nat.zero_le _, rfl, 0, rfl⟩
  case round =>
    obtain ⟨k, hk, rfl, q, rfl⟩ := hrel
    by_cases hlt : k < L.length
    · have h1 := H1.out.c k hlt
      have h2 := H2.out.c k hlt
      have hs := sameLn (L.getD k default)
      generalize L.getD k default = l at h1 h2 hs
      obtain ⟨zact, ⟨zq_name, zq_carrier, zq_kind, zq_terminal, zq_partner, zq_link, zq_from_, zq_to, zq_days, zq_minute, zq_seats, zq_size, zq_noise⟩⟩ := l
      simp only [LineV.cells] at h1 h2 hs
      have x0 := h1 0 _ rfl
      have y0 := h2 0 _ rfl
      have x1 := h1 1 _ rfl
      have y1 := h2 1 _ rfl
      have x2 := h1 2 _ rfl
      have y2 := h2 2 _ rfl
      have x3 := h1 3 _ rfl
      have y3 := h2 3 _ rfl
      have x4 := h1 4 _ rfl
      have y4 := h2 4 _ rfl
      have x5 := h1 5 _ rfl
      have y5 := h2 5 _ rfl
      have x6 := h1 6 _ rfl
      have y6 := h2 6 _ rfl
      have x7 := h1 7 _ rfl
      have y7 := h2 7 _ rfl
      have x8 := h1 8 _ rfl
      have y8 := h2 8 _ rfl
      have x9 := h1 9 _ rfl
      have y9 := h2 9 _ rfl
      have x10 := h1 10 _ rfl
      have y10 := h2 10 _ rfl
      have x11 := h1 11 _ rfl
      have y11 := h2 11 _ rfl
      have x12 := h1 12 _ rfl
      have y12 := h2 12 _ rfl
      have x13 := h1 13 _ rfl
      have y13 := h2 13 _ rfl
      simp only [Nat.add_zero] at x0 y0
      clear h1 h2
      go_wp2_with fail
      go_quiet (fail)
      go_wp2_with fail
      go_roundw
      case rel => exact ⟨k + 1, by omega, by go_num, q + nq, by first | rfl | rw [World.drewN_drewN]⟩
      case measure => simp [intOf]; omega
    · go_wp2_with fail
      go_ret
      exact ⟨rfl, by rw [show w.drewN q = w.drewN q from rfl]; exact ⟨rfl, rfl, rfl, Nat.le_refl _, fun _ _ => rfl⟩⟩
set_option maxRecDepth 100000 in
theorem SameLns_zero (A B : Option Addr) (c d : Nat) (w : World) :
    Calls Tryz.prog 29 #[.slice A 0 c, .slice B 0 d] w fun e w' => e = .returned (.bool true) ∧ Below w.heap.size w w' := by
  go_enter Tryz.func29, Tryz.ntmps29
  go_wp2_with fail
  go_loopw [5] (fun i wr => i = .int .i64 0 ∧ wr = w) (fun _ _ => 0)
  case atStart => exact ⟨rfl, rfl⟩
  case round =>
    obtain ⟨rfl, rfl⟩ := hrel
    go_wp2_with fail
    go_ret
    exact ⟨rfl, Below.refl _ _⟩
theorem SameLns_any (L : List LineV) (v1 v2 : Value) (w1 w2 w : World) (h1 : SlArg LineV.cells 14 w1 v1 L) (h2 : SlArg LineV.cells 14 w2 v2 L) (hb1 : Below w1.heap.size w1 w) (hb2 : Below w2.heap.size w2 w) (hn : L.length ≤ 5000) :
    Calls Tryz.prog 29 #[v1, v2] w fun e w' => e = .returned (.bool true) ∧ Below w.heap.size w w' := by
  rcases h1 with ⟨rfl, A, c, rfl⟩ | ⟨h0, b, off, cap, rfl, hl, hc, hs⟩
  · rcases h2 with ⟨-, B, d, rfl⟩ | ⟨h0, _⟩
    · exact SameLns_zero A B c d w
    · simp at h0
  · rcases h2 with ⟨rfl, _⟩ | ⟨_, b', off', cap', rfl, hl', hc', hs'⟩
    · simp at h0
    · exact SameLns_some L b off cap b' off' cap' w (hl.below hb1) (hl'.below hb2) hn
end Go.Proofs.YtphoclgibnhjfaaGreat
namespace Go.Proofs.YtphoclgibnhjfaaGreat
open Go Go.RowKit Ev Go.ChangeMaps Go.MapKept
/-- A call that has returned a message, whose lines are a slice of these. -/
structure MsgG (e : Ending) (w' : World) (h : HeadV) (L : List LineV) : Prop where
  ex : ∃ v, e = .returned (.agg (h.cells v)) ∧ SlArg LineV.cells 14 w' v L
theorem SlArg.off {α : Type} [Inhabited α] {f : α → Array Value} {k : Nat} {w w' : World} {A : Option Addr} {n c : Nat} {L : List α} {m : Nat} (h : SlArg f k w (.slice A n c) L) (ho : Off m w w') (hs : w.heap.size ≤ w'.heap.size) (hm : 0 < L.length → ∀ a : Addr, A = some a → a.block ≠ m) : SlArg f k w' (.slice A n c) L := by
  rcases h with h | ⟨h0, b, off, cap, hv, hl, hc, hg⟩
  · exact .inl h
  · obtain ⟨rfl, rfl, rfl⟩ : A = some ⟨b, off, none⟩ ∧ n = L.length ∧ c = cap := by simpa using hv
    have hne : b ≠ m := hm h0 ⟨b, off, none⟩ rfl
    exact .inr ⟨h0, b, off, c, rfl, ⟨fun i hi t u hu => ho _ _ hne (hl.c i hi t u hu)⟩, hc, Nat.lt_of_lt_of_le hg hs⟩
/-- What the call of lines hands back. -/
def LnG (N : Nat) (L : List LineV) (v : Value) (w : World) : Prop := ∃ A c, v = .slice A L.length c ∧ SlArg LineV.cells 14 w (.slice A L.length c) L ∧ (0 < L.length → ∀ a : Addr, A = some a → N ≤ a.block)
set_option maxRecDepth 100000 in
set_option maxHeartbeats 16000000 in
theorem own_any (h : HeadV) (L : List LineV) (v : Value) (w w' : World) (hv : SlArg LineV.cells 14 w v L) (hb : Below w.heap.size w w') (hn : L.length ≤ 5000) :
    Calls Tryz.prog 16 #[.agg (h.cells v)] w' fun e w'' => MsgG e w'' h L ∧ Below w'.heap.size w' w'' := by
  obtain ⟨A, c, rfl⟩ := hv.len
  have hlines := fun W hW => OwnLns_any L _ w W hv hW hn
  obtain ⟨W1, HW1, hb1, R⟩ := head_new w' h (.slice A L.length c) 25
  obtain ⟨W, HW2, hbW, RZ⟩ : ∃ W, Hid (W1.alloc (.cells #[.string ⟨#[]⟩, .string ⟨#[]⟩, .string ⟨#[]⟩, .int .i64 0, .slice none 0 0] 31) = W) ∧ Below W1.heap.size W1 W ∧ RowV W1.heap.size W1.heap.size 5 (fun i => [Value.string ⟨#[]⟩, .string ⟨#[]⟩, .string ⟨#[]⟩, .int .i64 0, .slice none 0 0].getD i undef) W1 W := ⟨_, Lib.hid rfl, below_alloc _ _, RowV.new W1 [.string ⟨#[]⟩, .string ⟨#[]⟩, .string ⟨#[]⟩, .int .i64 0, .slice none 0 0] _⟩
  have e1 : W1.heap.size = w'.heap.size + 1 := by rw [← HW1.out]; simp
  have HR := Lib.hid RZ
  have HWW : Hid (((w'.alloc (.cells (h.cells (.slice A L.length c)) 25)).alloc (.cells #[.string ⟨#[]⟩, .string ⟨#[]⟩, .string ⟨#[]⟩, .int .i64 0, .slice none 0 0] 31)) = W) := Lib.hid (by rw [HW1.out, HW2.out])
  have RB := R.below hbW
  have HB0 := Lib.hid (b_then hb1 hbW)
  have HBB := Lib.hid hb
  have HSZ : Hid (w'.heap.size + 1 < W.heap.size) := Lib.hid (by rw [← e1]; exact cell_in (RZ.c 0 (by decide)))
  rw [e1] at HR
  clear RZ R HW1 HW2 hb hv hb1 hbW
  have R0 : Res 5 (w'.heap.size + 1) W W := ⟨fun i hi => ⟨_, HR.out.c i hi⟩, fun i hi => HR.out.f i hi, Below.refl _ _⟩
  obtain ⟨kind, airport, season, day⟩ := h
  obtain ⟨r0, r1, r2, r3, r4⟩ := RB
  simp only [HeadV.cells] at *
  clear e1 HR
  go_enter Tryz.func16, Tryz.ntmps16
  go_wp2_with fail
  rw [HWW.out]
  clear HWW
  refine held_tail (fun o => o.dst == some 13) (fun _ => LnG W.heap.size L) 12 (by kernel_rfl) (by kernel_rfl) (fun _ v x y hx hy => ?_) ?_
  · obtain ⟨A2, c2, rfl, h2, h3⟩ := hx
    exact ⟨A2, c2, rfl, h2.below hy, h3⟩
  simp only [List.take_succ_cons, List.take_zero, List.drop_succ_cons, List.drop_zero]
  refine hold_run 10 (by kernel_rfl) (fun w1 hw1 => ?_)
  have k0 : ∀ x : KeptW w1, x.v.cell? ⟨w'.heap.size, 0, none⟩ = some (.string kind) := fun x => x.cell (b_old hw1 r0)
  have k1 : ∀ x : KeptW w1, x.v.cell? ⟨w'.heap.size, 1, none⟩ = some (.string airport) := fun x => x.cell (b_old hw1 r1)
  have k2 : ∀ x : KeptW w1, x.v.cell? ⟨w'.heap.size, 2, none⟩ = some (.string season) := fun x => x.cell (b_old hw1 r2)
  have k3 : ∀ x : KeptW w1, x.v.cell? ⟨w'.heap.size, 3, none⟩ = some (.int .i64 day) := fun x => x.cell (b_old hw1 r3)
  have k4 : ∀ x : KeptW w1, x.v.cell? ⟨w'.heap.size, 4, none⟩ = some (.slice A L.length c) := fun x => x.cell (b_old hw1 r4)
  have hne : Nonempty (KeptW w1) := ⟨⟨w1, Below.refl _ _⟩⟩
  simp only [List.take_succ_cons, List.take_zero, List.drop_succ_cons, List.drop_zero]
  iterate 10 (go_big_quiet_step (fail))
  refine wpQuiet_nil ?_
  intro K1 _
  refine hold_at rfl rfl (fun w2 hw2 => ?_) ?_
  · refine heldUpon_enter (f := 30) (args := #[.slice A L.length c]) (by simp [go_sem]) ((hlines w2 (b_then HBB.out (b_then HB0.out (Kp.iff.1 hw2)))).mono ?_)
    rintro e w5 ⟨⟨v5, rfl, hown⟩, hb5⟩
    have hL := slArg_own (f := LineV.cells) (k := 14) (fun _ => rfl) (by decide) hown
    obtain ⟨A2, c2, rfl⟩ := hL.len
    have hlo : 0 < L.length → ∀ a : Addr, A2 = some a → w2.heap.size ≤ a.block := fun _ a ha => pr_blk hown a.block (by rw [ha]; rfl)
    exact ⟨_, rfl, Kp.iff.2 hb5, A2, c2, rfl, hL, fun h0 a ha => Nat.le_trans (Kp.iff.1 hw2).size (hlo h0 a ha)⟩
  rintro v2 ⟨_, -, A2, c2, rfl, -⟩
  refine hold_run 1 (by kernel_rfl) (fun w3 hw3 => ?_)
  simp only [List.take_succ_cons, List.take_zero, List.drop_succ_cons, List.drop_zero, Act.put, List.setIfInBounds_toArray, List.set_cons_succ, List.set_cons_zero]
  have hne3 : Nonempty (KeptW w3) := ⟨⟨w3, Below.refl _ _⟩⟩
  go_big_quiet_step (fail)
  refine wpQuiet_nil ?_
  intro K2 hK2 w4 hw4 hk4
  obtain ⟨A3, c3, he, hL, hlo⟩ := (hK2 _ hk4).2
  cases he
  have R1 := R0.more (R0.pos (by decide)) hw4
  obtain ⟨v0, q0⟩ := R1.cell 0 (by decide)
  obtain ⟨v1, q1⟩ := R1.cell 1 (by decide)
  obtain ⟨v2, q2⟩ := R1.cell 2 (by decide)
  obtain ⟨v3, q3⟩ := R1.cell 3 (by decide)
  obtain ⟨v4, q4⟩ := R1.cell 4 (by decide)
  have g0 := R1.frozen 0 (by decide)
  have g1 := R1.frozen 1 (by decide)
  have g2 := R1.frozen 2 (by decide)
  have g3 := R1.frozen 3 (by decide)
  have g4 := R1.frozen 4 (by decide)
  have RF := ((((R1.set 0 (.string kind)).set 1 (.string airport)).set 2 (.string season)).set 3 (.int .i64 day)).set 4 (.slice A2 L.length c2)
  have HO : Hid (SlArg LineV.cells 14 (((((w4.setCell ⟨w'.heap.size + 1, 0, none⟩ (.string kind)).setCell ⟨w'.heap.size + 1, 1, none⟩ (.string airport)).setCell ⟨w'.heap.size + 1, 2, none⟩ (.string season)).setCell ⟨w'.heap.size + 1, 3, none⟩ (.int .i64 day)).setCell ⟨w'.heap.size + 1, 4, none⟩ (.slice A2 L.length c2)) (.slice A2 L.length c2) L) := Lib.hid
    (hL.off (((((Off.set _ 0 w4 _).trans (Off.set _ 1 _ _)).trans (Off.set _ 2 _ _)).trans (Off.set _ 3 _ _)).trans (Off.set _ 4 _ _)) (by simp only [set_size]; exact Nat.le_refl _) (fun h0 a ha => by have h1 := hlo h0 a ha; have h2 := HSZ.out; intro e; rw [e] at h1; omega))
  have HBL := Lib.hid (HB0.out.trans (RF.below.mono (by omega)))
  clear RF R1 hL hlo hK2 hk4 hw4 hne hne3 k0 k1 k2 k3 k4 r0 r1 r2 r3 r4 R0 HSZ hw1 hw3
  go_wp2_with fail
  exact bodyPost_ret (v := .agg #[.string kind, .string airport, .string season, .int .i64 day, .slice A2 L.length c2]) (by simp [results, Tryz.results16, go_sem, q0, q1, q2, q3, q4]) rfl ⟨⟨_, rfl, HO.out⟩, HBL.out⟩
end Go.Proofs.YtphoclgibnhjfaaGreat
namespace Go.Proofs.YtphoclgibnhjfaaGreat
open Go Go.RowKit Go.ChangeMaps Go.MapKept
set_option maxRecDepth 100000 in
set_option maxHeartbeats 2000000 in
theorem SameMsgs_any (h : HeadV) (L : List LineV) (v1 v2 : Value) (w1 w2 w : World) (h1 : SlArg LineV.cells 14 w1 v1 L) (h2 : SlArg LineV.cells 14 w2 v2 L) (hb1 : Below w1.heap.size w1 w) (hb2 : Below w2.heap.size w2 w) (hn : L.length ≤ 5000) :
    Calls Tryz.prog 15 #[.agg (h.cells v1), .agg (h.cells v2)] w fun e w' => e = .returned (.bool true) ∧ Below w.heap.size w w' := by
  obtain ⟨X, HX, hbX, RX⟩ := head_new w h v1 31
  obtain ⟨Y, HY, hbY, RY⟩ := head_new X h v2 31
  have RX2 := RX.below hbY
  have e1 : X.heap.size = w.heap.size + 1 := by rw [← HX.out]; simp
  have hs := SameLns_any L v1 v2 w1 w2 Y h1 h2 (b_then hb1 (b_then hbX hbY)) (b_then hb2 (b_then hbX hbY)) hn
  have HWY : Hid ((w.alloc (.cells (h.cells v1) 31)).alloc (.cells (h.cells v2) 31) = Y) := Lib.hid (by rw [HX.out, HY.out])
  have hB := b_then hbX hbY
  rw [e1] at RY
  obtain ⟨A1, c1, rfl⟩ := h1.len
  obtain ⟨A2, c2, rfl⟩ := h2.len
  obtain ⟨kd, ap, sn, dy⟩ := h
  obtain ⟨r0, r1, r2, r3, r4⟩ := RX2
  obtain ⟨q0, q1, q2, q3, q4⟩ := RY
  simp only [HeadV.cells] at *
  have k1 : (kd.toList == kd.toList) = true := by simp
  have k2 : (ap.toList == ap.toList) = true := by simp
  have k3 : (sn.toList == sn.toList) = true := by simp
  have k4 : (dy == dy) = true := by simp
  clear h1 h2 hb1 hb2 HX HY RX hbX hbY e1
  go_enter Tryz.func15, Tryz.ntmps15
  go_wp2_with fail
  rw [HWY.out]
  go_wp2_with fail
  refine hs.mono ?_
  rintro e2 w3 ⟨rfl, hb3⟩
  go_wp2_with fail
  go_ret
  exact ⟨rfl, b_then hB hb3⟩
end Go.Proofs.YtphoclgibnhjfaaGreat
namespace Go.Proofs.YtphoclgibnhjfaaGreat
open Go Go.RowKit
section
variable {P : Program} {ops : Array Oper} {md : Region.Mode} {w0 : World} {hb : Oper → Bool} {S : Oper → Value → World → Prop}
structure KOK (w0 : World) (K : World → Prop) : Prop where
  ex : ∃ w, Kp w0 w ∧ K w
  st : ∀ w w', K w → Kp w w' → K w'
def HeldXK (P : Program) (w0 : World) (hb : Oper → Bool) (S : Oper → Value → World → Prop) (K : World → Prop) (o : Oper) (x : Sem Next) : Prop := ∀ w, Kp w0 w → (hb o = true → K w) → heldUpon P w (RX P w0 hb S o x) (x.run P w)
theorem HeldXK.some {K : World → Prop} (hK : KOK w0 K) {o : Oper} {x : Sem Next} (h : HeldXK P w0 hb S K o x) : ∃ v w, Kp w0 w ∧ K w ∧ RX P w0 hb S o x v w := by
  obtain ⟨w, h1, h2⟩ := hK.ex
  have h0 := h w h1 (fun _ => h2)
  generalize x.run P w = r at h0
  cases r with
  | ok n w' =>
    cases n
    case value v => exact ⟨v, w', h1.trans h0.1, hK.st _ _ h2 h0.1, h0.2⟩
    case skip => exact ⟨_, w', h1.trans h0.1, hK.st _ _ h2 h0.1, h0.2⟩
    case enter f args =>
      obtain ⟨e, w'', fr, ⟨v, -, h3, h4⟩, -⟩ := h0.2 []
      exact ⟨v, w'', h1.trans h3, hK.st _ _ h2 h3, h4⟩
    all_goals exact (h0 : False).elim
  | halt y w' => exact absurd h0 (by cases y <;> exact id)
theorem KOK.next {K : World → Prop} (hS : ∀ o v w w', S o v w → Kp w w' → S o v w') (hK : KOK w0 K) {o : Oper} {x : Sem Next} {v : Value} (h : ∃ w, Kp w0 w ∧ K w ∧ RX P w0 hb S o x v w) : KOK w0 (fun w => K w ∧ RX P w0 hb S o x v w) :=
  ⟨by obtain ⟨w, h1, h2, h3⟩ := h; exact ⟨w, h1, h2, h3⟩, fun _ _ hx hy => ⟨hK.st _ _ hx.1 hy, hx.2.stay hS hy⟩⟩
def hOpK (P : Program) (ops : Array Oper) (w0 : World) (hb : Oper → Bool) (S : Oper → Value → World → Prop) (o : Oper) (K : World → Prop) (a : Act) (next : (World → Prop) → Act → Prop) : Prop :=
  if Region.wanted o (yielded ops a.tmps) then HeldXK P w0 hb S K o (execOp a.eval o) ∧ ∀ v, (∃ w, Kp w0 w ∧ K w ∧ RX P w0 hb S o (execOp a.eval o) v w) → next (fun w => K w ∧ RX P w0 hb S o (execOp a.eval o) v w) (a.put o.dst v)
  else next K (a.put o.dst undef)
theorem hOpK.mono (hS : ∀ o v w w', S o v w → Kp w w' → S o v w') {o : Oper} {K : World → Prop} (hK : KOK w0 K) {a : Act} {next next' : (World → Prop) → Act → Prop} (hn : ∀ K a, KOK w0 K → next K a → next' K a) (h : hOpK P ops w0 hb S o K a next) : hOpK P ops w0 hb S o K a next' := by
  unfold hOpK at *
  split
  · rename_i e; rw [if_pos e] at h; exact ⟨h.1, fun v hv => hn _ _ (hK.next hS hv) (h.2 v hv)⟩
  · rename_i e; rw [if_neg e] at h; exact hn _ _ hK h
theorem hOpK.swap {oi oj : Oper} {K : World → Prop} (hK : KOK w0 K) {a : Act} {next : (World → Prop) → Act → Prop} (hap : oi.apart ops oj = true) (hd : hb oi = true → hb oj = true → False) (hsi : ∀ cs b, oi.op ≠ .select cs b) (hsj : ∀ cs b, oj.op ≠ .select cs b)
    (h : hOpK P ops w0 hb S oi K a (fun K' a' => hOpK P ops w0 hb S oj K' a' next)) : hOpK P ops w0 hb S oj K a (fun K' a' => hOpK P ops w0 hb S oi K' a' next) := by
  obtain ⟨p1, p2, p3⟩ := Oper.apart_spec hap
  have ej : ∀ v, execOp (a.put oi.dst v).eval oj = execOp a.eval oj := fun v => execOp_put oj hsj a oi.dst v p1
  have wj : ∀ v, Region.wanted oj (yielded ops (a.put oi.dst v).tmps) = Region.wanted oj (yielded ops a.tmps) := fun v => wanted_put oj a oi.dst v p1
  have ei : ∀ v, execOp (a.put oj.dst v).eval oi = execOp a.eval oi := fun v => execOp_put oi hsi a oj.dst v p3
  have wi : ∀ v, Region.wanted oi (yielded ops (a.put oj.dst v).tmps) = Region.wanted oi (yielded ops a.tmps) := fun v => wanted_put oi a oj.dst v p3
  have hcomm : ∀ v u, (a.put oi.dst v).put oj.dst u = (a.put oj.dst u).put oi.dst v := fun v u => Act.put_comm a v u p2
  simp only [hOpK, ej, wj, ei, wi] at h ⊢
  by_cases hi : Region.wanted oi (yielded ops a.tmps) = true
  · simp only [hi, if_true] at h ⊢
    obtain ⟨hI, hN⟩ := h
    obtain ⟨v0, w1, h1, h2, h3⟩ := hI.some hK
    by_cases hj : Region.wanted oj (yielded ops a.tmps) = true
    · simp only [hj, if_true] at hN ⊢
      refine ⟨fun w hw hk => (hN v0 ⟨w1, h1, h2, h3⟩).1 w hw (fun hbj => ⟨hk hbj, ?_⟩), fun u hu => ⟨fun w hw hk => hI w hw (fun hbi => (hk hbi).1), fun v hv => ?_⟩⟩
      · unfold RX at h3 ⊢
        split
        · rename_i hbi; exact (hd hbi hbj).elim
        · rename_i hbi; rw [if_neg hbi] at h3; exact h3
      · obtain ⟨w, g1, g2, g3⟩ := hv
        have := (hN v ⟨w, g1, g2.1, g3⟩).2 u ⟨w, g1, ⟨g2.1, g3⟩, g2.2⟩
        rw [hcomm] at this
        have e : (fun w => (K w ∧ RX P w0 hb S oi (execOp a.eval oi) v w) ∧ RX P w0 hb S oj (execOp a.eval oj) u w) = (fun w => (K w ∧ RX P w0 hb S oj (execOp a.eval oj) u w) ∧ RX P w0 hb S oi (execOp a.eval oi) v w) := funext fun w => propext ⟨fun h => ⟨⟨h.1.1, h.2⟩, h.1.2⟩, fun h => ⟨⟨h.1.1, h.2⟩, h.1.2⟩⟩
        rw [← e]
        exact this
    · simp only [hj] at hN ⊢
      refine ⟨hI, fun v hv => ?_⟩
      have := hN v hv
      rw [if_neg (by simp)] at this
      rw [hcomm] at this
      exact this
  · simp only [hi] at h ⊢
    rw [if_neg (by simp)] at h
    by_cases hj : Region.wanted oj (yielded ops a.tmps) = true
    · simp only [hj, if_true] at h ⊢
      refine ⟨h.1, fun u hu => ?_⟩
      rw [if_neg (by simp)]
      have := h.2 u hu
      rw [hcomm] at this
      exact this
    · simp only [hj] at h ⊢
      rw [if_neg (by simp)] at h ⊢
      rw [if_neg (by simp)]
      rw [hcomm] at h
      exact h
def HeadK (P : Program) (md : Region.Mode) (ops : Array Oper) (w0 : World) (hb : Oper → Bool) (S : Oper → Value → World → Prop) (n : Nat) (L : Array Bool → (World → Prop) → Act → Prop) (f : Nat) : Array Bool → (World → Prop) → Act → Prop :=
  f.rec L fun _ next listed K a => Region.ready md ops listed ≠ [] ∧ ∀ i ∈ Region.ready md ops listed, i < n ∧ ∃ o, ops[i]? = some o ∧ hOpK P ops w0 hb S o K a (next (listed.setIfInBounds i true))
theorem HeadK.any {n g : Nat} {L : Array Bool → (World → Prop) → Act → Prop} {Q' : Exit → Act → World → Prop} (hS : ∀ o v w w', S o v w → Kp w w' → S o v w')
    (hL : ∀ listed K a w, Kp w0 w → K w → L listed K a → wpAny P md ops Q' g listed a w) (f : Nat) :
    ∀ (listed : Array Bool) (K : World → Prop) (a : Act) (w : World), (∀ w w', K w → Kp w w' → K w') → Kp w0 w → K w → HeadK P md ops w0 hb S n L f listed K a → wpAny P md ops Q' (f + g) listed a w := by
  induction f with
  | zero => intro listed K a w _ hw hk h; rw [Nat.zero_add]; exact hL _ _ _ _ hw hk h
  | succ f ih =>
    intro listed K a w hK hw hk h
    rw [Nat.succ_add]
    refine ⟨fun h0 => absurd h0 h.1, fun i hi => ?_⟩
    obtain ⟨-, o, ho, h2⟩ := h.2 i hi
    unfold wpOp
    simp only [ho]
    unfold hOpK at h2
    split
    · rename_i hwt
      rw [if_pos hwt] at h2
      refine .inl ?_
      have h3 := h2.1 w hw (fun _ => hk)
      unfold Oper.wp
      have hgo : ∀ v w', Kp w w' → RX P w0 hb S o (execOp a.eval o) v w' → wpAny P md ops Q' (f + g) (listed.setIfInBounds i true) (a.put o.dst v) w' := fun v w' h4 h5 =>
        ih _ _ _ w' (fun x y hx hy => ⟨hK _ _ hx.1 hy, hx.2.stay hS hy⟩) (hw.trans h4) ⟨hK _ _ hk h4, h5⟩ (h2.2 v ⟨w', hw.trans h4, hK _ _ hk h4, h5⟩)
      generalize (execOp a.eval o).run P w = r at h3
      cases r with
      | ok nx w' =>
        cases nx
        case value v => exact hgo _ _ h3.1 h3.2
        case skip => exact hgo _ _ h3.1 h3.2
        case enter fn args => exact Calls.mono h3.2 (fun e w'' h => by obtain ⟨v, he, h4, h5⟩ := h; subst he; exact hgo _ _ h4 h5)
        all_goals exact (h3 : False).elim
      | halt y w' => exact absurd h3 (by cases y <;> exact id)
    · rename_i hwt
      rw [if_neg hwt] at h2
      exact ih _ _ _ w hK hw hk h2
theorem hOpK.out {o : Oper} {K : World → Prop} (hK : KOK w0 K) {a : Act} {next : (World → Prop) → Act → Prop} (h : hOpK P ops w0 hb S o K a next) : ∃ K' a', next K' a' := by
  unfold hOpK at h
  split at h
  · obtain ⟨v, w, h1, h2⟩ := h.1.some hK
    exact ⟨_, _, h.2 v ⟨w, h1, h2⟩⟩
  · exact ⟨_, _, h⟩
theorem HeadK.first {n i : Nat} {oi : Oper} {L : Array Bool → (World → Prop) → Act → Prop} (hS : ∀ o v w w', S o v w → Kp w w' → S o v w') (hdep : ∀ (i j : Nat) (oi oj : Oper), ops[i]? = some oi → ops[j]? = some oj → i ≠ j → oi.apart ops oj = true → hb oi = true → hb oj = true → False)
    (hi : ops[i]? = some oi) (hsel : ∀ (j : Nat) (o : Oper) cs b, ops[j]? = some o → o.op ≠ .select cs b)
    (hs : Region.sinkB md ops n = true) (hc : Region.chainB md ops n = true) (hn : n < ops.size) (hin : i < n) (hdone : ∀ listed K a, L listed K a → ∀ j ∈ Region.ready md ops listed, n ≤ j) (f : Nat) :
    ∀ (listed : Array Bool) (K : World → Prop) (a : Act), KOK w0 K → HeadInv md ops n listed →
      (∀ j oj, ops[j]? = some oj → j ≠ i → listed.getD j true = false → (∀ e ∈ oj.after, Region.binds md e = true → e.on ≠ i) → oi.apart ops oj = true) →
      i ∈ Region.ready md ops listed → hOpK P ops w0 hb S oi K a (HeadK P md ops w0 hb S n L f (listed.setIfInBounds i true)) → HeadK P md ops w0 hb S n L (f + 1) listed K a := by
  induction f with
  | zero =>
    intro listed K a hK inv _ hr H
    refine ⟨List.ne_nil_of_mem hr, fun j hj => ?_⟩
    have hjn : j < n := Nat.lt_of_not_le fun h => tail_waits hs hc hn inv _ i rfl hin (mem_ready.1 hr).1 j h hj
    rcases Nat.decEq j i with hji | hji
    · obtain ⟨K', a', hl⟩ := H.out hK
      exact absurd (hdone _ _ _ hl j (ready_mono hj hji)) (by omega)
    · subst hji; exact ⟨hjn, oi, hi, H⟩
  | succ f ih =>
    intro listed K a hK inv hfree hr H
    refine ⟨List.ne_nil_of_mem hr, fun j hj => ?_⟩
    have hjn : j < n := Nat.lt_of_not_le fun h => tail_waits hs hc hn inv _ i rfl hin (mem_ready.1 hr).1 j h hj
    refine ⟨hjn, ?_⟩
    rcases Nat.decEq j i with hji | hji
    · obtain ⟨hun, oj, hoj, hall⟩ := mem_ready.1 hj
      have hnot : ∀ e ∈ oj.after, Region.binds md e = true → e.on ≠ i := fun e he hb heq => by
        have h1 := hall e he hb
        rw [heq, getD_both (mem_ready.1 hr).1] at h1
        cases h1
      have hap := hfree j oj hoj hji hun hnot
      refine ⟨oj, hoj, ?_⟩
      have H2 : hOpK P ops w0 hb S oi K a (fun K' a' => hOpK P ops w0 hb S oj K' a' (HeadK P md ops w0 hb S n L f ((listed.setIfInBounds j true).setIfInBounds i true))) := H.mono hS hK (fun K' a' _ h => by
        obtain ⟨-, o, ho, h3⟩ := h.2 j (ready_mono hj hji)
        rw [hoj] at ho
        cases ho
        rw [Array.setIfInBounds_comm _ _ hji]
        exact h3)
      refine (H2.swap hK hap (hdep i j oi oj hi hoj (Ne.symm hji) hap) (fun cs b => hsel i oi cs b hi) (fun cs b => hsel j oj cs b hoj)).mono hS hK (fun K' a' hK' h => ?_)
      refine ih _ K' a' hK' (inv.set hj hjn) (fun k ok hk hki hk2 hno => hfree k ok hk hki ?_ hno) (ready_mono hr (Ne.symm hji)) h
      rcases Nat.decEq j k with hjk | hjk
      · rwa [getD_set_ne true hjk] at hk2
      · subst hjk; exact hun
    · subst hji; exact ⟨oi, hi, H⟩
def wpHoldK (P : Program) (ops : Array Oper) (w0 : World) (hb : Oper → Bool) (S : Oper → Value → World → Prop) (Q : (World → Prop) → Act → Prop) : List Oper → (World → Prop) → Act → Prop
  | [], K, a => Q K a
  | o :: r, K, a => hOpK P ops w0 hb S o K a (wpHoldK P ops w0 hb S Q r)
theorem HeadK.lex {n g : Nat} {Lq : (World → Prop) → Act → Prop} (hS : ∀ o v w w', S o v w → Kp w w' → S o v w') (hdep : ∀ (i j : Nat) (oi oj : Oper), ops[i]? = some oi → ops[j]? = some oj → i ≠ j → oi.apart ops oj = true → hb oi = true → hb oj = true → False)
    (hsel : Region.noSelect ops = true) (hs : Region.sinkB md ops n = true) (hc : Region.chainB md ops n = true) (hn : n < ops.size) (l : List Oper) :
    ∀ (k : Nat) (listed : Array Bool) (K : World → Prop) (a : Act), KOK w0 K → (∀ j, j < l.length → l[j]? = ops[k + j]?) → k + l.length = n → HeadInv md ops n listed → Region.lexHead md ops g l.length k listed = true → wpHoldK P ops w0 hb S Lq l K a →
    HeadK P md ops w0 hb S n (fun listed' K' a' => Region.seqB md ops g n listed' = true ∧ Lq K' a') l.length listed K a := by
  induction l with
  | nil =>
    intro k listed K a _ _ hk _ hB h
    obtain rfl : k = n := by simpa using hk
    exact ⟨by simpa [Region.lexHead] using hB, h⟩
  | cons o l ih =>
    intro k listed K a hK hl hk inv hB h
    have h0 : ops[k]? = some o := by simpa using (hl 0 (by simp)).symm
    simp only [List.length_cons, Region.lexHead, Bool.and_eq_true, List.contains_iff_mem] at hB
    have hkn : k < n := by simp only [List.length_cons] at hk; omega
    refine HeadK.first hS hdep h0 (Region.noSelect_spec hsel) hs hc hn hkn (fun _ _ _ hL => seqB_ready hL.1) l.length listed K a hK inv (Region.free_spec h0 hB.1.2) hB.1.1 ?_
    exact hOpK.mono hS hK (fun K' a' hK' h' => ih (k + 1) _ K' a' hK' (fun j hj => by have := hl (j + 1) (by simp; omega); simpa [Nat.add_assoc, Nat.add_comm 1 j] using this) (by simp only [List.length_cons] at hk; omega) (inv.set hB.1.1 hkn) hB.2 h') h
/-- No two of the operations that make memory are apart. -/
def depB (ops : Array Oper) (hb : Oper → Bool) : Bool := (List.range ops.size).all fun i => (List.range ops.size).all fun j => match ops[i]?, ops[j]? with
  | some oi, some oj => i == j || !(oi.apart ops oj && hb oi && hb oj)
  | _, _ => true
theorem depB_spec (h : depB ops hb = true) : ∀ (i j : Nat) (oi oj : Oper), ops[i]? = some oi → ops[j]? = some oj → i ≠ j → oi.apart ops oj = true → hb oi = true → hb oj = true → False := fun i j oi oj hi hj hne h1 h2 h3 => by
  have li := (Array.getElem?_eq_some_iff.1 hi).1
  have lj := (Array.getElem?_eq_some_iff.1 hj).1
  have := List.all_eq_true.1 (List.all_eq_true.1 h i (List.mem_range.2 li)) j (List.mem_range.2 lj)
  rw [hi, hj] at this
  simp [h1, h2, h3, hne] at this
theorem heldK_tail {id : Nat} {Q : Exit → Act → World → Prop} {a : Act} {w : World} {l : List Oper} (hb : Oper → Bool) (S : Oper → Value → World → Prop) (n : Nat) (hm : P.follows .mixedOrders = true) (hB : Region.lexTailB .any l.toArray n = true) (hD : depB l.toArray hb = true)
    (hS : ∀ o v w w', S o v w → Below w.heap.size w w' → S o v w')
    (h : wpHoldK P l.toArray w hb S (fun K a' => ∀ w', Below w.heap.size w w' → K w' → wpList P l.toArray Q (l.drop n) a' w') (l.take n) (fun _ => True) a) : (Code.region id l.toArray true).wp P Q a w := by
  simp only [Region.lexTailB, Bool.and_eq_true, decide_eq_true_eq] at hB
  obtain ⟨⟨⟨⟨hsel, hn⟩, hs⟩, hc⟩, hlex⟩ := hB
  have hlen : n < l.length := by simpa using hn
  have hln : (l.take n).length = n := by simp; omega
  have hdl : (l.drop n).length = l.toArray.size - n := by simp
  have hS' : ∀ o v x y, S o v x → Kp x y → S o v y := fun o v x y hx hy => hS o v x y hx (Kp.iff.1 hy)
  have inv0 : HeadInv .any l.toArray n (Array.replicate l.toArray.size false) :=
    ⟨by simp, fun j oj _ hl => (by rw [getD_replicate_false] at hl; cases hl), fun t _ ht => getD_in (by simpa using ht) (getD_replicate_false _ _)⟩
  have H := HeadK.lex (md := .any) (g := l.toArray.size - n) hS' (depB_spec hD) hsel hs hc hn (l.take n) 0 _ (fun _ => True) a ⟨⟨w, Kp.self _, trivial⟩, fun _ _ _ _ => trivial⟩ (fun j hj => by
    have hj' : j < n := by rw [hln] at hj; exact hj
    simp [hj']) (by simpa using hln) inv0 (by rw [hln]; exact hlex) h
  have T := HeadK.any (Q' := Q) (g := l.toArray.size - n) hS' (fun listed K' a' w' hw' hk hL => by
    have := wpAny_of_seq (md := .any) (Q' := Q) (l.drop n) n listed a' w' (fun j => by simp [List.getElem?_drop]) (by rw [hdl]; exact hL.1) (hL.2 w' (Kp.iff.1 hw') hk)
    rwa [hdl] at this) _ _ _ a w.drew (fun _ _ _ _ => trivial) (Kp.iff.2 (below_drew w)) trivial H
  rw [hln, Nat.add_sub_cancel' (Nat.le_of_lt hn)] at T
  exact wp_region_any hm T
theorem wpHoldK_append {Q : (World → Prop) → Act → Prop} (l1 l2 : List Oper) : wpHoldK P ops w0 hb S Q (l1 ++ l2) = wpHoldK P ops w0 hb S (wpHoldK P ops w0 hb S Q l2) l1 := by
  induction l1 with
  | nil => rfl
  | cons o l ih =>
    funext K a
    show hOpK P ops w0 hb S o K a (wpHoldK P ops w0 hb S Q (l ++ l2)) = hOpK P ops w0 hb S o K a (wpHoldK P ops w0 hb S (wpHoldK P ops w0 hb S Q l2) l)
    rw [ih]
theorem holdK_quiet {Q : (World → Prop) → Act → Prop} {QQ : Act → Prop} (l : List Oper) (hl : l.all (fun o => !hb o) = true) :
    ∀ (K : World → Prop) (a : Act), (∀ K' a', (∀ w, K' w → K w) → QQ a' → Q K' a') → (∀ w1, Kp w0 w1 → wpQuiet P ops (Kp w1) QQ l a) → wpHoldK P ops w0 hb S Q l K a := by
  induction l with
  | nil => intro K a hQ h; exact hQ _ _ (fun _ h => h) (h w0 (Kp.self _))
  | cons o l ih =>
    intro K a hQ h
    simp only [List.all_cons, Bool.and_eq_true, Bool.not_eq_true'] at hl
    obtain ⟨ho, hl⟩ := hl
    show hOpK P ops w0 hb S o K a (wpHoldK P ops w0 hb S Q l)
    have h' : ∀ w1, Kp w0 w1 → (if Region.wanted o (yielded ops a.tmps) then o.quiet P a (Kp w1) (wpQuiet P ops (Kp w1) QQ l) else wpQuiet P ops (Kp w1) QQ l (a.put o.dst undef)) := h
    unfold hOpK
    split
    · rename_i hw
      simp only [hw, if_true] at h'
      obtain ⟨v0, q0, -⟩ := h' w0 (Kp.self _)
      have hq : ∀ w1, Kp w0 w1 → o.quietAt P a (Kp w1) w1 v0 ∧ wpQuiet P ops (Kp w1) QQ l (a.put o.dst v0) := fun w1 hw1 => by
        obtain ⟨v1, q1, k1⟩ := h' w1 hw1
        obtain rfl : v0 = v1 := quietAt_one (q0 w1 hw1) (q1 w1 (Kp.self _))
        exact ⟨q1 w1 (Kp.self _), k1⟩
      have hone : ∀ w, RX P w0 hb S o (execOp a.eval o) v0 w := fun w => by
        unfold RX
        rw [if_neg (by simp [ho])]
        exact fun u hu => quietAt_one (hq w0 (Kp.self _)).1 (hu w0 (Kp.self _))
      refine ⟨fun w hw0 _ => ?_, fun v hv => ?_⟩
      · have := (hq w hw0).1
        unfold Oper.quietAt at this
        generalize (execOp a.eval o).run P w = r at this
        cases r with
        | ok n w' =>
          cases n
          case value u => obtain ⟨rfl, rfl⟩ := this; exact ⟨Kp.self _, hone _⟩
          case skip => obtain ⟨rfl, rfl⟩ := this; exact ⟨Kp.self _, hone _⟩
          case enter f args => obtain ⟨rfl, this⟩ := this; exact ⟨Kp.self _, Calls.mono this (fun e w'' h => ⟨v0, h.1, h.2, hone _⟩)⟩
          all_goals exact (this : False).elim
        | halt y w' => exact (this : False).elim
      · obtain ⟨w, hw0, -, hv⟩ := hv
        unfold RX at hv
        rw [if_neg (by simp [ho])] at hv
        obtain rfl : v = v0 := hv v0 (fun w1 hw1 => (hq w1 hw1).1)
        exact ih hl _ _ (fun K' a' hK' ha' => hQ K' a' (fun w h => (hK' w h).1) ha') (fun w1 hw1 => (hq w1 hw1).2)
    · rename_i hw
      simp only [hw] at h'
      refine ih hl _ _ hQ (fun w1 hw1 => ?_)
      have := h' w1 hw1
      rwa [if_neg (by simp)] at this
/-- An operation that makes memory of its own; it may lean on what is known. -/
theorem holdK_at {Q : (World → Prop) → Act → Prop} {o : Oper} {l : List Oper} {K : World → Prop} {a : Act} (ho : hb o = true) (hg : o.guard = none) (hx : ∀ w, Kp w0 w → K w → heldUpon P w (S o) ((execOp a.eval o).run P w))
    (h : ∀ v, (∃ w, Kp w0 w ∧ K w ∧ S o v w) → wpHoldK P ops w0 hb S Q l (fun w => K w ∧ S o v w) (a.put o.dst v)) : wpHoldK P ops w0 hb S Q (o :: l) K a := by
  show hOpK P ops w0 hb S o K a (wpHoldK P ops w0 hb S Q l)
  have e : ∀ v w, RX P w0 hb S o (execOp a.eval o) v w = S o v w := fun v w => by unfold RX; rw [if_pos ho]
  have e2 : RX P w0 hb S o (execOp a.eval o) = S o := funext fun v => funext fun w => e v w
  unfold hOpK
  rw [if_pos (by simp [Region.wanted, hg])]
  unfold HeldXK
  rw [e2]
  exact ⟨fun w hw hk => hx w hw (hk ho), h⟩
/-- A run of operations that yield one value each, then the rest. -/
theorem holdK_run {Q : (World → Prop) → Act → Prop} {l : List Oper} {K : World → Prop} {a : Act} (k : Nat) (hl : (l.take k).all (fun o => !hb o) = true)
    (h : ∀ w1, Below w0.heap.size w0 w1 → wpQuiet P ops (fun w' => ∃ x : KeptW w1, w' = x.v) (fun a' => ∀ K', (∀ w, K' w → K w) → wpHoldK P ops w0 hb S Q (l.drop k) K' a') (l.take k) a) : wpHoldK P ops w0 hb S Q l K a := by
  have e := wpHoldK_append (P := P) (ops := ops) (w0 := w0) (hb := hb) (S := S) (Q := Q) (l.take k) (l.drop k)
  rw [List.take_append_drop] at e
  rw [e]
  exact holdK_quiet _ hl _ _ (fun K' a' hK h => h K' hK) (fun w1 hw1 => h w1 (Kp.iff.1 hw1))
end
end Go.Proofs.YtphoclgibnhjfaaGreat
namespace Go.Proofs.YtphoclgibnhjfaaGreat
open Go Go.RowKit
theorem msgIs_len (s : ByteArray) : (msgIs s).1.2.length ≤ 5000 := by
  rw [← progIs_eq]
  unfold progIs
  split
  · exact Nat.zero_le _
  · unfold finM
    split
    · exact Nat.zero_le _
    · rename_i h0
      have := runM_len (pcs s) zeroRS (by decide) (by simpa [zeroRS] using h0)
      unfold closeM
      split
      · exact Nat.zero_le _
      · show (runM (pcs s) zeroRS).1.L.length ≤ 5000
        omega
set_option maxRecDepth 100000 in
set_option maxHeartbeats 8000000 in
theorem Parses_true (s : ByteArray) (w : World) :
    Calls Tryz.prog 3 #[.string s] w fun e w' => e = .returned (.bool true) ∧ Below w.heap.size w w' := by
  have haw := awake2_true
  by_cases hg : (1500 < s.size ∧ s.size ≤ 16384) ∨ 16393 < s.size
  · rcases hg with ⟨g1, g2⟩ | g3
    · have b1 : (1500 : Int) < (s.size : Int) := by omega
      have b2 : (s.size : Int) ≤ 16384 := by omega
      go_enter Tryz.func3, Tryz.ntmps3
      go_wp2_with fail
      refine (haw _).mono ?_
      rintro e1 w1 ⟨rfl, hb1⟩
      go_wp2_with fail
      go_ret
      exact ⟨rfl, hb1⟩
    · have b1 : (1500 : Int) < (s.size : Int) := by omega
      have b2 : ¬ (s.size : Int) ≤ 16384 := by omega
      have b3 : (16393 : Int) < (s.size : Int) := by omega
      go_enter Tryz.func3, Tryz.ntmps3
      go_wp2_with fail
      refine (haw _).mono ?_
      rintro e1 w1 ⟨rfl, hb1⟩
      go_wp2_with fail
      go_ret
      exact ⟨rfl, hb1⟩
  · have hpl := fun w => ParseMessage_any s w
    have hql := fun w => qParseMessage_any s w
    have HLN := Lib.hid (msgIs_len s)
    have hbd : (s.size ≤ 1500) ∨ (1500 < s.size ∧ 16384 < s.size ∧ s.size ≤ 16393) := by omega
    clear hg
    generalize msgIs s = p at *
    obtain ⟨⟨⟨kd, ap, sn, dy⟩, L⟩, i, er⟩ := p
    have hL := HLN.out
    have h1 : (i == i) = true := by simp
    have h2 : (er == er) = true := by simp
    have HOM := Lib.hid (fun (v : Value) (w0 w : World) hv hb => own_any ⟨kd, ap, sn, dy⟩ L v w0 w hv hb hL)
    have HSM := Lib.hid (fun v1 v2 w1 w2 w a b c d => SameMsgs_any ⟨kd, ap, sn, dy⟩ L v1 v2 w1 w2 w a b c d hL)
    dsimp only at hL
    simp only [HeadV.cells] at HOM HSM
    rcases hbd with g1 | ⟨g1, g2, g3⟩
    · have b1 : ¬ (1500 : Int) < (s.size : Int) := by omega
      have b3 : ¬ (16393 : Int) < (s.size : Int) := by omega
      go_enter Tryz.func3, Tryz.ntmps3
      go_wp2_with fail
      refine (hpl _).mono ?_
      rintro e1 w1 ⟨⟨v1, rfl, hown1⟩, hb1⟩
      have hv1 := slArg_own (f := LineV.cells) (k := 14) (fun _ => rfl) (by decide) hown1
      obtain ⟨A1, c1, rfl⟩ := hv1.len
      simp only [HeadV.cells]
      obtain ⟨WA, HWA, hbA, RA⟩ := head_new w1 ⟨kd, ap, sn, dy⟩ (.slice A1 L.length c1) 25
      simp only [HeadV.cells] at HWA
      go_wp2_with fail
      rw [HWA.out]
      refine (hql _).mono ?_
      rintro e2 w2 ⟨⟨v2, rfl, hown2⟩, hb2⟩
      have hv2 := slArg_own (f := LineV.cells) (k := 14) (fun _ => rfl) (by decide) hown2
      obtain ⟨A2, c2, rfl⟩ := hv2.len
      simp only [HeadV.cells]
      obtain ⟨WB, HWB, hbB, RB⟩ := head_new w2 ⟨kd, ap, sn, dy⟩ (.slice A2 L.length c2) 31
      simp only [HeadV.cells] at HWB
      have hv1' := ((hv1.below hbA).below hb2).below hbB
      have hv2' := hv2.below hbB
      have RA' := (RA.below hb2).below hbB
      have hB := b_then (b_then (b_then hb1 hbA) hb2) hbB
      have HX := Lib.hid (And.intro hv1' (And.intro hv2' hB))
      obtain ⟨a0, a1, a2, a3, a4⟩ := RA'
      obtain ⟨q0, q1, q2, q3, q4⟩ := RB
      dsimp only at a0 a1 a2 a3 a4 q0 q1 q2 q3 q4
      clear hpl hql hv1 hv2 hown1 hown2 hb1 hbA hb2 hbB RA hv1' hv2' hB
      go_upto_region 5 with fail
      rw [HWB.out]
      refine heldK_tail (fun o => o.dst == some 36 || o.dst == some 38) (fun o v x => (o.dst = some 36 → ∃ A c, v = .agg #[.string kd, .string ap, .string sn, .int .i64 dy, .slice A L.length c] ∧ SlArg LineV.cells 14 x (.slice A L.length c) L) ∧ (o.dst = some 38 → v = .bool true)) 14 (by kernel_rfl) (by kernel_rfl) (by kernel_rfl) (fun _ v x y hx hy => ⟨fun ho => ?_, hx.2⟩) ?_
      · obtain ⟨A, c, rfl, h2⟩ := hx.1 ho
        exact ⟨A, c, rfl, h2.below hy⟩
      simp only [List.take_succ_cons, List.take_zero, List.drop_succ_cons, List.drop_zero]
      refine holdK_run 1 (by kernel_rfl) (fun u1 hu1 => ?_)
      have k0 : ∀ x : KeptW u1, x.v.cell? ⟨w1.heap.size, 0, none⟩ = some (.string kd) := fun x => x.cell (b_old hu1 a0)
      have k1 : ∀ x : KeptW u1, x.v.cell? ⟨w1.heap.size, 1, none⟩ = some (.string ap) := fun x => x.cell (b_old hu1 a1)
      have k2 : ∀ x : KeptW u1, x.v.cell? ⟨w1.heap.size, 2, none⟩ = some (.string sn) := fun x => x.cell (b_old hu1 a2)
      have k3 : ∀ x : KeptW u1, x.v.cell? ⟨w1.heap.size, 3, none⟩ = some (.int .i64 dy) := fun x => x.cell (b_old hu1 a3)
      have k4 : ∀ x : KeptW u1, x.v.cell? ⟨w1.heap.size, 4, none⟩ = some (.slice A1 L.length c1) := fun x => x.cell (b_old hu1 a4)
      have hne : Nonempty (KeptW u1) := ⟨⟨u1, Below.refl _ _⟩⟩
      simp only [List.take_succ_cons, List.take_zero, List.drop_succ_cons, List.drop_zero]
      go_big_quiet_step (fail)
      refine wpQuiet_nil ?_
      intro K1 _
      refine holdK_at rfl rfl (fun u2 hu2 _ => ?_) ?_
      · refine heldUpon_enter (f := 16) (args := #[.agg #[.string kd, .string ap, .string sn, .int .i64 dy, .slice A1 L.length c1]]) (by simp [go_sem]) ((HOM.out _ WB u2 HX.out.1 (Kp.iff.1 hu2)).mono ?_)
        rintro e w5 ⟨⟨u, rfl, hL⟩, hb5⟩
        obtain ⟨A3, c3, rfl⟩ := hL.len
        exact ⟨_, rfl, Kp.iff.2 hb5, fun _ => ⟨A3, c3, rfl, hL⟩, fun h => by cases h⟩
      rintro v2 ⟨_, -, -, hv2, -⟩
      obtain ⟨A3, c3, rfl, -⟩ := hv2 rfl
      clear hv2
      refine holdK_run 1 (by kernel_rfl) (fun u3 hu3 => ?_)
      simp only [List.take_succ_cons, List.take_zero, List.drop_succ_cons, List.drop_zero, Act.put, List.setIfInBounds_toArray, List.set_cons_succ, List.set_cons_zero]
      have j0 : ∀ x : KeptW u3, x.v.cell? ⟨w2.heap.size, 0, none⟩ = some (.string kd) := fun x => x.cell (b_old hu3 q0)
      have j1 : ∀ x : KeptW u3, x.v.cell? ⟨w2.heap.size, 1, none⟩ = some (.string ap) := fun x => x.cell (b_old hu3 q1)
      have j2 : ∀ x : KeptW u3, x.v.cell? ⟨w2.heap.size, 2, none⟩ = some (.string sn) := fun x => x.cell (b_old hu3 q2)
      have j3 : ∀ x : KeptW u3, x.v.cell? ⟨w2.heap.size, 3, none⟩ = some (.int .i64 dy) := fun x => x.cell (b_old hu3 q3)
      have j4 : ∀ x : KeptW u3, x.v.cell? ⟨w2.heap.size, 4, none⟩ = some (.slice A2 L.length c2) := fun x => x.cell (b_old hu3 q4)
      have hne3 : Nonempty (KeptW u3) := ⟨⟨u3, Below.refl _ _⟩⟩
      go_big_quiet_step (fail)
      refine wpQuiet_nil ?_
      intro K2 hK2
      refine holdK_at rfl rfl (fun u4 hu4 hk4 => ?_) ?_
      · obtain ⟨A4, c4, he, hL⟩ := (hK2 _ hk4).2.1 (by first | rfl | trivial)
        obtain ⟨rfl, rfl⟩ : A4 = A3 ∧ c4 = c3 := by simpa [eq_comm] using he
        refine heldUpon_enter (f := 15) (args := #[.agg #[.string kd, .string ap, .string sn, .int .i64 dy, .slice A4 L.length c4], .agg #[.string kd, .string ap, .string sn, .int .i64 dy, .slice A2 L.length c2]]) (by simp [go_sem]) ((HSM.out _ _ u4 WB u4 hL HX.out.2.1 (Below.refl _ _) (Kp.iff.1 hu4)).mono ?_)
        rintro e w6 ⟨rfl, hb6⟩
        exact ⟨_, rfl, Kp.iff.2 hb6, (fun h => by cases h), fun _ => rfl⟩
      rintro v3 ⟨_, -, -, -, hv3⟩
      obtain rfl := hv3 (by first | rfl | trivial)
      refine holdK_run 10 (by kernel_rfl) (fun u5 hu5 => ?_)
      simp only [List.take_succ_cons, List.take_zero, List.drop_succ_cons, List.drop_zero, Act.put, List.setIfInBounds_toArray, List.set_cons_succ, List.set_cons_zero]
      have hne5 : Nonempty (KeptW u5) := ⟨⟨u5, Below.refl _ _⟩⟩
      iterate 10 (go_big_quiet_step (fail))
      refine wpQuiet_nil ?_
      intro K3 hK3 w4 hw4 hk4
      have hB4 := b_then HX.out.2.2 hw4
      clear k0 k1 k2 k3 k4 j0 j1 j2 j3 j4 hne hne3 hne5 hK2 hK3 hk4
      go_wp2_with fail
      refine (haw _).mono ?_
      rintro e7 w7 ⟨rfl, hb7⟩
      go_wp2_with fail
      go_ret
      exact ⟨rfl, b_then hB4 hb7⟩
    · have b1 : (1500 : Int) < (s.size : Int) := by omega
      have b2 : ¬ (s.size : Int) ≤ 16384 := by omega
      have b3 : ¬ (16393 : Int) < (s.size : Int) := by omega
      go_enter Tryz.func3, Tryz.ntmps3
      go_wp2_with fail
      refine (hpl _).mono ?_
      rintro e1 w1 ⟨⟨v1, rfl, hown1⟩, hb1⟩
      have hv1 := slArg_own (f := LineV.cells) (k := 14) (fun _ => rfl) (by decide) hown1
      obtain ⟨A1, c1, rfl⟩ := hv1.len
      simp only [HeadV.cells]
      obtain ⟨WA, HWA, hbA, RA⟩ := head_new w1 ⟨kd, ap, sn, dy⟩ (.slice A1 L.length c1) 25
      simp only [HeadV.cells] at HWA
      go_wp2_with fail
      rw [HWA.out]
      refine (hql _).mono ?_
      rintro e2 w2 ⟨⟨v2, rfl, hown2⟩, hb2⟩
      have hv2 := slArg_own (f := LineV.cells) (k := 14) (fun _ => rfl) (by decide) hown2
      obtain ⟨A2, c2, rfl⟩ := hv2.len
      simp only [HeadV.cells]
      obtain ⟨WB, HWB, hbB, RB⟩ := head_new w2 ⟨kd, ap, sn, dy⟩ (.slice A2 L.length c2) 31
      simp only [HeadV.cells] at HWB
      have hv1' := ((hv1.below hbA).below hb2).below hbB
      have hv2' := hv2.below hbB
      have RA' := (RA.below hb2).below hbB
      have hB := b_then (b_then (b_then hb1 hbA) hb2) hbB
      have HX := Lib.hid (And.intro hv1' (And.intro hv2' hB))
      obtain ⟨a0, a1, a2, a3, a4⟩ := RA'
      obtain ⟨q0, q1, q2, q3, q4⟩ := RB
      dsimp only at a0 a1 a2 a3 a4 q0 q1 q2 q3 q4
      clear hpl hql hv1 hv2 hown1 hown2 hb1 hbA hb2 hbB RA hv1' hv2' hB
      go_upto_region 5 with fail
      rw [HWB.out]
      refine heldK_tail (fun o => o.dst == some 36 || o.dst == some 38) (fun o v x => (o.dst = some 36 → ∃ A c, v = .agg #[.string kd, .string ap, .string sn, .int .i64 dy, .slice A L.length c] ∧ SlArg LineV.cells 14 x (.slice A L.length c) L) ∧ (o.dst = some 38 → v = .bool true)) 14 (by kernel_rfl) (by kernel_rfl) (by kernel_rfl) (fun _ v x y hx hy => ⟨fun ho => ?_, hx.2⟩) ?_
      · obtain ⟨A, c, rfl, h2⟩ := hx.1 ho
        exact ⟨A, c, rfl, h2.below hy⟩
      simp only [List.take_succ_cons, List.take_zero, List.drop_succ_cons, List.drop_zero]
      refine holdK_run 1 (by kernel_rfl) (fun u1 hu1 => ?_)
      have k0 : ∀ x : KeptW u1, x.v.cell? ⟨w1.heap.size, 0, none⟩ = some (.string kd) := fun x => x.cell (b_old hu1 a0)
      have k1 : ∀ x : KeptW u1, x.v.cell? ⟨w1.heap.size, 1, none⟩ = some (.string ap) := fun x => x.cell (b_old hu1 a1)
      have k2 : ∀ x : KeptW u1, x.v.cell? ⟨w1.heap.size, 2, none⟩ = some (.string sn) := fun x => x.cell (b_old hu1 a2)
      have k3 : ∀ x : KeptW u1, x.v.cell? ⟨w1.heap.size, 3, none⟩ = some (.int .i64 dy) := fun x => x.cell (b_old hu1 a3)
      have k4 : ∀ x : KeptW u1, x.v.cell? ⟨w1.heap.size, 4, none⟩ = some (.slice A1 L.length c1) := fun x => x.cell (b_old hu1 a4)
      have hne : Nonempty (KeptW u1) := ⟨⟨u1, Below.refl _ _⟩⟩
      simp only [List.take_succ_cons, List.take_zero, List.drop_succ_cons, List.drop_zero]
      go_big_quiet_step (fail)
      refine wpQuiet_nil ?_
      intro K1 _
      refine holdK_at rfl rfl (fun u2 hu2 _ => ?_) ?_
      · refine heldUpon_enter (f := 16) (args := #[.agg #[.string kd, .string ap, .string sn, .int .i64 dy, .slice A1 L.length c1]]) (by simp [go_sem]) ((HOM.out _ WB u2 HX.out.1 (Kp.iff.1 hu2)).mono ?_)
        rintro e w5 ⟨⟨u, rfl, hL⟩, hb5⟩
        obtain ⟨A3, c3, rfl⟩ := hL.len
        exact ⟨_, rfl, Kp.iff.2 hb5, fun _ => ⟨A3, c3, rfl, hL⟩, fun h => by cases h⟩
      rintro v2 ⟨_, -, -, hv2, -⟩
      obtain ⟨A3, c3, rfl, -⟩ := hv2 rfl
      clear hv2
      refine holdK_run 1 (by kernel_rfl) (fun u3 hu3 => ?_)
      simp only [List.take_succ_cons, List.take_zero, List.drop_succ_cons, List.drop_zero, Act.put, List.setIfInBounds_toArray, List.set_cons_succ, List.set_cons_zero]
      have j0 : ∀ x : KeptW u3, x.v.cell? ⟨w2.heap.size, 0, none⟩ = some (.string kd) := fun x => x.cell (b_old hu3 q0)
      have j1 : ∀ x : KeptW u3, x.v.cell? ⟨w2.heap.size, 1, none⟩ = some (.string ap) := fun x => x.cell (b_old hu3 q1)
      have j2 : ∀ x : KeptW u3, x.v.cell? ⟨w2.heap.size, 2, none⟩ = some (.string sn) := fun x => x.cell (b_old hu3 q2)
      have j3 : ∀ x : KeptW u3, x.v.cell? ⟨w2.heap.size, 3, none⟩ = some (.int .i64 dy) := fun x => x.cell (b_old hu3 q3)
      have j4 : ∀ x : KeptW u3, x.v.cell? ⟨w2.heap.size, 4, none⟩ = some (.slice A2 L.length c2) := fun x => x.cell (b_old hu3 q4)
      have hne3 : Nonempty (KeptW u3) := ⟨⟨u3, Below.refl _ _⟩⟩
      go_big_quiet_step (fail)
      refine wpQuiet_nil ?_
      intro K2 hK2
      refine holdK_at rfl rfl (fun u4 hu4 hk4 => ?_) ?_
      · obtain ⟨A4, c4, he, hL⟩ := (hK2 _ hk4).2.1 (by first | rfl | trivial)
        obtain ⟨rfl, rfl⟩ : A4 = A3 ∧ c4 = c3 := by simpa [eq_comm] using he
        refine heldUpon_enter (f := 15) (args := #[.agg #[.string kd, .string ap, .string sn, .int .i64 dy, .slice A4 L.length c4], .agg #[.string kd, .string ap, .string sn, .int .i64 dy, .slice A2 L.length c2]]) (by simp [go_sem]) ((HSM.out _ _ u4 WB u4 hL HX.out.2.1 (Below.refl _ _) (Kp.iff.1 hu4)).mono ?_)
        rintro e w6 ⟨rfl, hb6⟩
        exact ⟨_, rfl, Kp.iff.2 hb6, (fun h => by cases h), fun _ => rfl⟩
      rintro v3 ⟨_, -, -, -, hv3⟩
      obtain rfl := hv3 (by first | rfl | trivial)
      refine holdK_run 10 (by kernel_rfl) (fun u5 hu5 => ?_)
      simp only [List.take_succ_cons, List.take_zero, List.drop_succ_cons, List.drop_zero, Act.put, List.setIfInBounds_toArray, List.set_cons_succ, List.set_cons_zero]
      have hne5 : Nonempty (KeptW u5) := ⟨⟨u5, Below.refl _ _⟩⟩
      iterate 10 (go_big_quiet_step (fail))
      refine wpQuiet_nil ?_
      intro K3 hK3 w4 hw4 hk4
      have hB4 := b_then HX.out.2.2 hw4
      clear k0 k1 k2 k3 k4 j0 j1 j2 j3 j4 hne hne3 hne5 hK2 hK3 hk4
      go_wp2_with fail
      refine (haw _).mono ?_
      rintro e7 w7 ⟨rfl, hb7⟩
      go_wp2_with fail
      go_ret
      exact ⟨rfl, b_then hB4 hb7⟩
end Go.Proofs.YtphoclgibnhjfaaGreat
namespace Go.Proofs.YtphoclgibnhjfaaGreat
open Go Go.RowKit Go.ChangeShapes Go.WideShapes
theorem laidOut : laidOutB Tryz.prog = true := by kernel_rfl
theorem sameAt_below {w w' : World} (hb : Below w.heap.size w w') {p : MemPlace} (hp : p.block < w.heap.size) : w.sameAt w' p := by
  cases p with
  | cell b off => exact hb.cell (p := ⟨b, off, none⟩) hp
  | map b => exact hb.block b hp
section
variable {H : Type} {enc : TypeId × Value → H} {W W' : World}
theorem trodAll_stays {base : Nat} {sp : Nat → Bool} : ∀ {ts : List TypeId} {vs : List Value} {ds : List (DataW H)} {ps : List MemPlace}, (∀ t ∈ ts, Tryz.prog.readableRec t = true ∧ t < Tryz.prog.types.size) →
    DataW.TrodAll enc Tryz.prog W base (fun _ => true) true ts vs ds ps → (∀ p ∈ ps, W.sameAt W' p) → (∀ p ∈ ps, sp p.block = true) → DataW.TrodAll enc Tryz.prog W' base sp true ts vs ds ps := by
  intro ts
  induction ts with
  | nil =>
    intro vs ds ps _ h _ _
    obtain ⟨rfl, rfl, rfl⟩ := trodAll_nil h
    exact trodAll_mk0
  | cons t ts ih =>
    intro vs ds ps ht h hsame hs
    obtain ⟨v, vs', d, ds', p, q, rfl, rfl, rfl, h1, h2⟩ := trodAll_cons h
    have a := Go.WideElems.Trod_stays laidOut (ht t (by simp)).1 (ht t (by simp)).2 h1 (fun x hx => hsame x (by simp [hx])) (fun x hx => hs x (by simp [hx]))
    exact trodAll_cons_mk a (ih (fun t' ht' => ht t' (by simp [ht'])) h2 (fun x hx => hsame x (by simp [hx])) (fun x hx => hs x (by simp [hx])))
end
end Go.Proofs.YtphoclgibnhjfaaGreat
namespace Go.Proofs.YtphoclgibnhjfaaGreat
open Go.ChangeShapes Go.WideShapes Go.ChangeAt Go.RowKit
theorem cellsInt : Tryz.prog.cellsOf 3 = 1 := by kernel_rfl
theorem cellsStr : Tryz.prog.cellsOf 9 = 1 := by kernel_rfl
theorem two_of {α : Type} (l : List α) (h : l.length = 2) : ∃ a b, l = [a, b] := by
  match l, h with
  | [a, b], _ => exact ⟨a, b, rfl⟩
theorem heap_of_var {W : World} {name : String} {g : Nat} {cs : Array Value} (hg : Tryz.prog.globalNamed name = some g) (h : W.var? Tryz.prog name = some cs) : ∃ t fr, W.heap[g]? = some (.cells cs t fr) := by
  unfold World.var? at h
  rw [hg] at h
  simp only [Option.bind_some] at h
  split at h
  · rename_i cs' t fr hh
    cases h
    exact ⟨t, fr, hh⟩
  · cases h
theorem u16_bd {a : Int} (h : (Lit.int .u16 a).wf = true) : 0 ≤ a ∧ a ≤ 65535 := by
  unfold Lit.wf at h
  simp at h
  rw [show IntKind.u16.min = 0 by decide, show IntKind.u16.max = 65535 by decide] at h
  exact h
theorem u8_bd {a : Int} (h : (Lit.int .u8 a).wf = true) : 0 ≤ a ∧ a ≤ 255 := by
  unfold Lit.wf at h
  simp at h
  rw [show IntKind.u8.min = 0 by decide, show IntKind.u8.max = 255 by decide] at h
  exact h
section
variable {H : Type} {enc : TypeId × Value → H} {P : Program}
/-- The row's last step where of the world behind the call only Below is known. -/
theorem post_of_below {f : Func} {s : ChangeSpec} {apart fresh handsOn again : Bool} {W W' : World} {args : Array Value} {v : Value} {ds gs : List (DataW H)} {before pa pv : List MemPlace}
    (hW : DataW.Whole enc P f.params.toList s.vars apart W args.toList ds gs before)
    (hres : ∀ (b : Nat) (sp : Nat → Bool) (hd : Bool), DataW.TrodAll enc P W' b sp hd f.resultTypes.toList (v.resultList f.resultTypes.size) (s.fn H (ds ++ gs)).results [])
    (hargs : ∀ sp : Nat → Bool, (∀ p ∈ before, sp p.block = true) → DataW.TrodAll enc P W' 0 sp true f.params.toList args.toList (s.fn H (ds ++ gs)).args pa)
    (hvars : ∀ sp : Nat → Bool, (∀ p ∈ before, sp p.block = true) → DataW.TrodVars enc P W' sp s.vars (s.fn H (ds ++ gs)).vars pv)
    (hps : before = pa ++ pv) (hb : Below W.heap.size W W')
    (hok : ∀ (j : Nat) (t : TypeId) (r : Value), f.resultTypes[j]? = some t → (v.resultList f.resultTypes.size)[j]? = some r → Value.okWide P W' .any 0 t r) :
    s.post enc P f apart fresh handsOn again W args v W' := by
  have hlt : ∀ p ∈ before, p.block < W.heap.size := fun p hp => hW.lt p hp
  have hold : ∀ p ∈ before, (fun b => decide (b < W.heap.size)) p.block = true := fun p hp => by simpa using hlt p hp
  refine ⟨ds, gs, before, [], pa, pv, hW, hres _ _ _, hargs _ hold, hvars _ hold, World.keptBut_mono (fun p hp => ⟨hp, .inr (by rw [hps, List.mem_append] at hp; exact hp)⟩) (hb.frame (· ∈ before)), fun _ => ?_⟩
  obtain ⟨_, _, _, _, _, hz, hn⟩ := hW
  refine ⟨hok, _, _, ([] ++ pa) ++ pv, ⟨[] ++ pa, pv, trodAll_append (hargs _ (fun _ _ => rfl)) (hres _ _ _), hvars _ (fun _ _ => rfl), rfl, fun b off hp => ?_, fun ha => ?_⟩, fun p hp _ => by rw [hps]; simpa using hp⟩
  · have hin : MemPlace.cell b off ∈ before := by rw [hps]; simpa using hp
    rw [hb.frozen (hlt _ hin)]
    exact hz b off hin
  · have := hn ha
    rw [hps] at this
    simpa using this
end
end Go.Proofs.YtphoclgibnhjfaaGreat
