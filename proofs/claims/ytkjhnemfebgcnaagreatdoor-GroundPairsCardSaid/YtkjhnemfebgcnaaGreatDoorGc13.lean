/- The first test of chapter 4 by the evaluator: the whole. · The statements' first test: the program returns the results of the examples of chapter 4. · The walk of GroundChecks. · Arguments read again behind the call: whatever their types, they read as they did where the call leaves the old memory as it was. · Arguments of chapter 4 that are slices of its elements, and Traffic, opened. · What the package-level variable of the ground's rows gives the walks. -/
import Derived.Test.YtkjhnemfebgcnaaGreatDoorGc8
import Derived.Test.YtkjhnemfebgcnaaGreatDoorGc9
import Derived.Test.YtkjhnemfebgcnaaGreatDoorGc10
import Derived.Test.YtkjhnemfebgcnaaGreatDoorGc11
import Derived.Test.YtkjhnemfebgcnaaGreatDoorGc12
import Derived.Test.YtkjhnemfebgcnaaGreatDoorGc1
import Derived.Test.YtkjhnemfebgcnaaGreatDoorGc2
import Derived.Test.YtkjhnemfebgcnaaGreatDoorGc3
import Derived.Deep.CutRange
import Derived.WideKeyArgs
import Derived.ChangeShapes
import Derived.OpenShut
import Derived.Below
import Derived.ProofKit
import Derived.ChangeSame
import Derived.Deep.Strs
import Derived.Deep.Slices
import Derived.WideShapes
import Derived.Lib.SmallJoins
import Derived.SizedLaws
import Derived.Test.YtkjhnemfebgcnaaGreatDoorRows
import Derived.Lib.LaidTab
import Derived.Stop.LaidErr
import Derived.LaidMore
namespace Go.Proofs.YtkjhnemfebgcnaaGreatDoor
open Go Go.RowKit Ev
theorem run_awake4 : runs Tryz.prog gN4 orcG 400 lst4 (14, #[], .bool true) = true := by kernel_rfl
end Go.Proofs.YtkjhnemfebgcnaaGreatDoor
namespace Go.Proofs.YtkjhnemfebgcnaaGreatDoor
open Go Go.RowKit Ev
theorem no_orc : OrcOk Tryz.prog gN4 noOrc := orc_none _ _
theorem kA : ∀ x ∈ tblA, KnownS Tryz.prog gN4 lst4 x := knownS_all no_orc good_lst4 run_A
theorem kA2 : ∀ x ∈ tblA2, KnownS Tryz.prog gN4 lst4 x := knownS_all no_orc good_lst4 run_A2
theorem kA3 : ∀ x ∈ tblA3, KnownS Tryz.prog gN4 lst4 x := knownS_all no_orc good_lst4 run_A3
theorem known_app {l m : TblS} (hl : ∀ x ∈ l, KnownS Tryz.prog gN4 lst4 x) (hm : ∀ x ∈ m, KnownS Tryz.prog gN4 lst4 x) : ∀ x ∈ l ++ m, KnownS Tryz.prog gN4 lst4 x := fun x hx => by
  rcases List.mem_append.1 hx with h | h
  · exact hl x h
  · exact hm x h
theorem oA : OrcOk Tryz.prog gN4 orcA := memoS_ok good_lst4 (by kernel_rfl) kA no_orc
theorem kB : ∀ x ∈ tblB, KnownS Tryz.prog gN4 lst4 x := knownS_all oA good_lst4 run_B
theorem oA23 : OrcOk Tryz.prog gN4 orcA23 := memoS_ok good_lst4 (by kernel_rfl) (known_app kA2 kA) no_orc
theorem kB2 : ∀ x ∈ tblB2, KnownS Tryz.prog gN4 lst4 x := knownS_all oA23 good_lst4 run_B2
theorem oAB : OrcOk Tryz.prog gN4 orcAB := memoS_ok good_lst4 (by kernel_rfl) (known_app kB kA) no_orc
theorem kC : ∀ x ∈ tblC, KnownS Tryz.prog gN4 lst4 x := knownS_all oAB good_lst4 run_C
theorem oABC : OrcOk Tryz.prog gN4 orcABC := memoS_ok good_lst4 (by kernel_rfl) (known_app (known_app kC kB) kA) no_orc
theorem kD : ∀ x ∈ tblD, KnownS Tryz.prog gN4 lst4 x := knownS_all oABC good_lst4 run_D
theorem kF : ∀ x ∈ tblF, KnownS Tryz.prog gN4 lst4 x := knownS_all oABC good_lst4 run_F
theorem kR : ∀ x ∈ tblR, KnownR Tryz.prog gN4 lst4 x := knownR_all oABC good_lst4 run_R
theorem oD : OrcOk Tryz.prog gN4 orcD := memoS_ok good_lst4 (by kernel_rfl) kD no_orc
theorem kR2 : ∀ x ∈ tblR2, KnownR Tryz.prog gN4 lst4 x := knownR_all oD good_lst4 run_R2
theorem oE : OrcOk Tryz.prog gN4 orcE := memoS_ok good_lst4 (by kernel_rfl) (known_app (known_app (known_app kB2 kA3) kA2) kA) no_orc
theorem kE : ∀ x ∈ tblE, KnownS Tryz.prog gN4 lst4 x := knownS_all oE good_lst4 run_E
theorem oG : OrcOk Tryz.prog gN4 orcG := memoR_ok good_lst4 (by kernel_rfl) (fun x hx => (List.mem_append.1 hx).elim (kR x) (kR2 x)) (memoS_ok good_lst4 (by kernel_rfl) (known_app (known_app (known_app (known_app kD kF) kE) kB2) kA3) no_orc)
theorem awake4_true (w : World) (h : Reads lst4 w) : Calls Tryz.prog 14 #[] w fun e w' => e = .returned (.bool true) ∧ Below w.heap.size w w' :=
  (known oG good_lst4 run_awake4).calls w h
end Go.Proofs.YtkjhnemfebgcnaaGreatDoor
namespace Go.Proofs.YtkjhnemfebgcnaaGreatDoor
open Go Go.RowKit Go.ChangeMaps Go.MapKept Ev
namespace HN
theorem holdK_atG {P : Program} {ops : Array Oper} {w0 : World} {hb : Oper → Bool} {S : Oper → Value → World → Prop} {Q : (World → Prop) → Act → Prop} {o : Oper} {l : List Oper} {K : World → Prop} {a : Act} (ho : hb o = true) (hg : Region.wanted o (yielded ops a.tmps) = true) (hx : ∀ w, KpW w0 w → K w → heldUpon P w (S o) ((execOp a.eval o).run P w))
    (h : ∀ v, (∃ w, KpW w0 w ∧ K w ∧ S o v w) → wpHoldK P ops w0 hb S Q l (fun w => K w ∧ S o v w) (a.put o.dst v)) : wpHoldK P ops w0 hb S Q (o :: l) K a := by
  show hOpK P ops w0 hb S o K a (wpHoldK P ops w0 hb S Q l)
  have e : ∀ v w, RX P w0 hb S o (execOp a.eval o) v w = S o v w := fun v w => by unfold RX; rw [if_pos ho]
  have e2 : RX P w0 hb S o (execOp a.eval o) = S o := funext fun v => funext fun w => e v w
  unfold hOpK
  rw [if_pos hg]
  unfold HeldXK
  rw [e2]
  exact ⟨fun w hw hk => hx w hw (hk ho), h⟩
end HN
theorem reads_belowC {l : Lst} {w w' : World} (h : Reads l w) (hb : Below w.heap.size w w') : Reads l w' := fun x hx => by
  obtain ⟨t, fr, e⟩ := h x hx
  exact ⟨t, fr, by rw [hb.block _ (Array.getElem?_eq_some_iff.1 e).1]; exact e⟩
theorem two_cells (w : World) (a0 a1 : Value) (T : TypeId) : ∃ W, Hid (w.alloc (.cells #[a0, a1] T) = W) ∧ Below w.heap.size w W ∧ W.cell? ⟨w.heap.size, 0, none⟩ = some a0 ∧ W.cell? ⟨w.heap.size, 1, none⟩ = some a1 :=
    ⟨_, Lib.hid rfl, below_alloc w _, by simp, by simp⟩
theorem errs_name {w : World} {v : Value} {L : List StandV} (n : L.length ≤ 34 ∧ ∀ k, k < L.length → (L.getD k default).name.size ≤ 60 ∧ (L.getD k default).terminal.size ≤ 60) (_ : SlArg StandV.cells 3 w v L) :
    ∀ k, k < L.length → (L.getD k default).name.size ≤ maxLen := fun k hk => by have := (n.2 k hk).1; unfold maxLen; omega
theorem errs_nameT {w : World} {v : Value} {L : List TurnV} (n : L.length ≤ 258 ∧ ∀ k, k < L.length → (L.getD k default).name.size ≤ 60 ∧ (L.getD k default).terminal.size ≤ 60) (_ : SlArg TurnV.cells 5 w v L) :
    ∀ k, k < L.length → (L.getD k default).name.size ≤ maxLen := fun k hk => by have := (n.2 k hk).1; unfold maxLen; omega
set_option maxRecDepth 100000 in
set_option maxHeartbeats 8000000 in
theorem Checks_true (L : List StandV) (T : List TurnV) (X : List SeatV) (M : List MovV) (vs vt vx vm : Value) (w : World) (hr : Reads lst4 w)
    (hs : SlArg StandV.cells 3 w vs L) (ht : SlArg TurnV.cells 5 w vt T) (hx : SlArg SeatV.cells 5 w vx X) (hm : SlArg MovV.cells 7 w vm M)
    (ns : L.length * 40 ≤ 140737488355328) (nt : T.length * 56 ≤ 140737488355328) (nx : X.length * 56 ≤ 140737488355328) (nm : M.length * 80 ≤ 140737488355328) :
    Calls Tryz.prog 3 #[vs, vt, .agg #[vx, vm]] w fun r w' => r = .returned (.bool true) ∧ Below w.heap.size w w' := by
  have HR := Lib.hid hr
  clear hr
  obtain ⟨W, HW, hB0, hc0, hc1⟩ := two_cells w vx vm 27
  obtain ⟨As, cs, rfl⟩ := hs.len
  obtain ⟨At, ct, rfl⟩ := ht.len
  obtain ⟨Ax, cx, rfl⟩ := hx.len
  obtain ⟨Am, cm, rfl⟩ := hm.len
  have HA := Lib.hid (And.intro hs (And.intro ht (And.intro hx hm)))
  have HNN := Lib.hid (And.intro ns (And.intro nt (And.intro nx nm)))
  clear hs ht hx hm ns nt nx nm
  go_enter Tryz.func3, Tryz.ntmps3
  go_wp2_with fail
  rw [HW.out]
  refine (awake4_true _ (reads_belowC HR.out hB0)).mono ?_
  rintro e w1 ⟨rfl, hb1⟩
  have hB1 := b_then hB0 hb1
  have d0 := b_old hb1 hc0
  have d1 := b_old hb1 hc1
  clear hc0 hc1 hb1
  go_wp2_with fail
  refine (OwnStand_any L _ w w1 HA.out.1 hB1 HNN.out.1).mono ?_
  rintro e w2 ⟨⟨v2, rfl, hown2⟩, hb2⟩
  have hv2 := Lib.hid (slArg_own (f := StandV.cells) (k := 3) (fun _ => rfl) (by decide) hown2)
  have hB2 := b_then hB1 hb2
  have f0 := b_old hb2 d0
  have f1 := b_old hb2 d1
  clear d0 d1 hb2 hown2
  go_wp2_with fail
  refine (ShortStands_any 6 (by decide) L v2 w2 w2 hv2.out (Below.refl _ _) (by have := HNN.out.1; omega)).mono ?_
  rintro e w3 ⟨⟨b1, rfl, hs1⟩, hb3⟩
  have hB3 := b_then hB2 hb3
  have d0 := b_old hb3 f0
  have d1 := b_old hb3 f1
  have HS1 := Lib.hid hs1
  clear f0 f1 hb3 hs1 hv2
  cases b1
  · go_wp2_with fail
    refine (awake4_true _ (reads_belowC HR.out hB3)).mono ?_
    rintro e w4 ⟨rfl, hb4⟩
    go_wp2_with fail
    go_ret
    exact ⟨rfl, b_then hB3 hb4⟩
  go_wp2_with fail
  refine (OwnTurn_any T _ w w3 HA.out.2.1 hB3 HNN.out.2.1).mono ?_
  rintro e w4 ⟨⟨v4, rfl, hown4⟩, hb4⟩
  have hv4 := Lib.hid (slArg_own (f := TurnV.cells) (k := 5) (fun _ => rfl) (by decide) hown4)
  have hB4 := b_then hB3 hb4
  have f0 := b_old hb4 d0
  have f1 := b_old hb4 d1
  clear d0 d1 hb4 hown4
  go_wp2_with fail
  refine (ShortTurns_any 6 (by decide) T v4 w4 w4 hv4.out (Below.refl _ _) (by have := HNN.out.2.1; omega)).mono ?_
  rintro e w5 ⟨⟨b2, rfl, hs2⟩, hb5⟩
  have hB5 := b_then hB4 hb5
  have d0 := b_old hb5 f0
  have d1 := b_old hb5 f1
  have HS2 := Lib.hid hs2
  clear f0 f1 hb5 hs2 hv4
  cases b2
  · go_wp2_with fail
    refine (awake4_true _ (reads_belowC HR.out hB5)).mono ?_
    rintro e w6 ⟨rfl, hb6⟩
    go_wp2_with fail
    go_ret
    exact ⟨rfl, b_then hB5 hb6⟩
  go_wp2_with fail
  refine (ShortMovements_any 6 (by decide) M _ w w5 HA.out.2.2.2 hB5 (by have := HNN.out.2.2.2; omega)).mono ?_
  rintro e w6 ⟨⟨b3, rfl, hs3⟩, hb6⟩
  have hB6 := b_then hB5 hb6
  have f0 := b_old hb6 d0
  have f1 := b_old hb6 d1
  have HS3 := Lib.hid hs3
  clear d0 d1 hb6 hs3
  cases b3
  · go_wp2_with fail
    refine (awake4_true _ (reads_belowC HR.out hB6)).mono ?_
    rintro e w7 ⟨rfl, hb7⟩
    go_wp2_with fail
    go_ret
    exact ⟨rfl, b_then hB6 hb7⟩
  go_wp2_with fail
  refine (OwnSeat_any X _ w w6 HA.out.2.2.1 hB6 HNN.out.2.2.1).mono ?_
  rintro e w7 ⟨⟨v7, rfl, hown7⟩, hb7⟩
  have hv7 := Lib.hid (slArg_own (f := SeatV.cells) (k := 5) (fun _ => rfl) (by decide) hown7)
  have hB7 := b_then hB6 hb7
  have d0 := b_old hb7 f0
  have d1 := b_old hb7 f1
  clear f0 f1 hb7 hown7
  go_wp2_with fail
  refine (ShortSeats_any 6 (by decide) X v7 w7 w7 hv7.out (Below.refl _ _) (by have := HNN.out.2.2.1; omega)).mono ?_
  rintro e w8 ⟨⟨b4, rfl, hs4⟩, hb8⟩
  have hB8 := b_then hB7 hb8
  have f0 := b_old hb8 d0
  have f1 := b_old hb8 d1
  have HS4 := Lib.hid hs4
  clear d0 d1 hb8 hs4 hv7
  cases b4
  · go_wp2_with fail
    refine (awake4_true _ (reads_belowC HR.out hB8)).mono ?_
    rintro e w9 ⟨rfl, hb9⟩
    go_wp2_with fail
    go_ret
    exact ⟨rfl, b_then hB8 hb9⟩
  have n1 := HS1.out (by first | rfl | trivial)
  have n2 := HS2.out (by first | rfl | trivial)
  have n3 := HS3.out (by first | rfl | trivial)
  have n4 := HS4.out (by first | rfl | trivial)
  have HC1 := Lib.hid (fun W' hb => CheckStands_any L _ w W' HA.out.1 hb (errs_name n1 HA.out.1))
  have HC2 := Lib.hid (fun W' hb => CheckTurns_any T _ w W' HA.out.2.1 hb (errs_nameT n2 HA.out.2.1))
  have HC3 := Lib.hid (fun W' hb => CheckMovements_any M _ w W' HA.out.2.2.2 hb)
  have HC4 := Lib.hid (fun W' hb => CheckSeats_any X _ w W' HA.out.2.2.1 hb)
  have HQ1 := Lib.hid (fun v W' hv => refStands_any L v W' W' hv (Below.refl _ _) (by omega))
  have HQ2 := Lib.hid (fun v W' hv => refTurns_any T v W' W' hv (Below.refl _ _) (by omega))
  have HQ3 := Lib.hid (fun W' hb => refMovs_any M _ w W' HA.out.2.2.2 hb (by omega))
  have HQ4 := Lib.hid (fun v W' hv => refSeats_any X v W' W' hv (Below.refl _ _) (by omega))
  have HO1 := Lib.hid (fun W' hb => OwnStand_any L _ w W' HA.out.1 hb HNN.out.1)
  have HO2 := Lib.hid (fun W' hb => OwnTurn_any T _ w W' HA.out.2.1 hb HNN.out.2.1)
  have HO3 := Lib.hid (fun W' hb => OwnSeat_any X _ w W' HA.out.2.2.1 hb HNN.out.2.2.1)
  clear n1 n2 n3 n4 HS1 HS2 HS3 HS4 HNN HA HW
  generalize standsErr L = i1 at *
  generalize turnsErr T = i2 at *
  generalize movsErr M = i3 at *
  generalize seatsErr X = i4 at *
  have q1 : (i1 == i1) = true := by simp
  have q2 : (i2 == i2) = true := by simp
  have q3 : (i3 == i3) = true := by simp
  have q4 : (i4 == i4) = true := by simp
  have HB := Lib.hid hB8
  clear hB0 hB1 hB2 hB3 hB4 hB5 hB6 hB7 hB8
  go_upto_region 3 with fail
  refine HN.heldK_way (fun o => o.dst == some 38 || o.dst == some 39 || o.dst == some 45 || o.dst == some 46 || o.dst == some 64 || o.dst == some 65) (fun o v x => (o.dst = some 38 → SlArg StandV.cells 3 x v L) ∧ (o.dst = some 39 → v = .int .i64 i1) ∧ (o.dst = some 45 → SlArg TurnV.cells 5 x v T) ∧ (o.dst = some 46 → v = .int .i64 i2) ∧ (o.dst = some 64 → SlArg SeatV.cells 5 x v X) ∧ (o.dst = some 65 → v = .int .i64 i4)) 33 [30, 29, 23, 22, 14, 13, 12, 11, 10, 6, 5, 4, 3] (by kernel_rfl) (by kernel_rfl) (by kernel_rfl) (fun _ v x y hx hy => ⟨fun ho => (hx.1 ho).below hy, hx.2.1, fun ho => (hx.2.2.1 ho).below hy, hx.2.2.2.1, fun ho => (hx.2.2.2.2.1 ho).below hy, hx.2.2.2.2.2⟩) ?_
  refine HN.holdK_run 3 (by kernel_rfl) (fun u1 hu1 => ?_)
  simp only [List.take_succ_cons, List.take_zero, List.drop_succ_cons, List.drop_zero]
  have k0 : ∀ x : KeptW u1, x.v.cell? ⟨w.heap.size, 0, none⟩ = some (.slice Ax X.length cx) := fun x => x.cell (b_old hu1 f0)
  have k1 : ∀ x : KeptW u1, x.v.cell? ⟨w.heap.size, 1, none⟩ = some (.slice Am M.length cm) := fun x => x.cell (b_old hu1 f1)
  have hne : Nonempty (KeptW u1) := ⟨⟨u1, Below.refl _ _⟩⟩
  iterate 1 (go_big_quiet_step (fail))
  go_big_quiet_step (exact KeptW.calls (HC1.out _ (b_then (b_then HB.out hu1) (KeptW.below _))))
  iterate 1 (go_big_quiet_step (fail))
  refine wpQuiet_nil ?_
  clear k0 k1 hne
  intro K1 hK1
  refine HN.holdK_atG rfl (by first | rfl | kernel_rfl) (fun x hux _ => ?_) ?_
  · refine HN.heldUpon_enter (f := 16) (args := #[.slice As L.length cs]) (by simp [go_sem]) ((HO1.out x (b_then HB.out (KpW.iff.1 hux))).mono ?_)
    rintro e y ⟨⟨u, rfl, hL⟩, hb5⟩
    exact ⟨_, rfl, KpW.iff.2 hb5, (fun _ => slArg_own (f := StandV.cells) (k := 3) (fun _ => rfl) (by decide) hL), (fun h => by cases h), (fun h => by cases h), (fun h => by cases h), (fun h => by cases h), (fun h => by cases h)⟩
  rintro v38 ⟨x38, -, -, hv, -, -, -, -, -⟩
  obtain ⟨A38, c38, rfl⟩ := (hv (by first | rfl | trivial)).len
  clear hv x38
  simp only [Act.put, List.setIfInBounds_toArray, List.set_cons_succ, List.set_cons_zero]
  refine HN.holdK_atG rfl (by first | rfl | kernel_rfl) (fun x hux hk => ?_) ?_
  · refine HN.heldUpon_enter (f := 23) (args := #[.slice A38 L.length c38]) (by simp [go_sem]) ((HQ1.out _ x (hk.2.1 (by first | rfl | trivial))).mono ?_)
    rintro e y ⟨rfl, hb5⟩
    exact ⟨_, rfl, KpW.iff.2 hb5, (fun h => by cases h), (fun _ => rfl), (fun h => by cases h), (fun h => by cases h), (fun h => by cases h), (fun h => by cases h)⟩
  rintro v39 ⟨x39, -, -, -, hv, -, -, -, -⟩
  obtain rfl := hv (by first | rfl | trivial)
  clear hv x39
  refine HN.holdK_run 5 (by kernel_rfl) (fun u2 hu2 => ?_)
  simp only [List.take_succ_cons, List.take_zero, List.drop_succ_cons, List.drop_zero, Act.put, List.setIfInBounds_toArray, List.set_cons_succ, List.set_cons_zero]
  have k0 : ∀ x : KeptW u2, x.v.cell? ⟨w.heap.size, 0, none⟩ = some (.slice Ax X.length cx) := fun x => x.cell (b_old hu2 f0)
  have k1 : ∀ x : KeptW u2, x.v.cell? ⟨w.heap.size, 1, none⟩ = some (.slice Am M.length cm) := fun x => x.cell (b_old hu2 f1)
  have hne : Nonempty (KeptW u2) := ⟨⟨u2, Below.refl _ _⟩⟩
  iterate 3 (go_big_quiet_step (fail))
  go_big_quiet_step (exact KeptW.calls (HC2.out _ (b_then (b_then HB.out hu2) (KeptW.below _))))
  iterate 1 (go_big_quiet_step (fail))
  refine wpQuiet_nil ?_
  clear k0 k1 hne
  intro K2 hK2
  refine HN.holdK_atG rfl (by first | rfl | kernel_rfl) (fun x hux _ => ?_) ?_
  · refine HN.heldUpon_enter (f := 18) (args := #[.slice At T.length ct]) (by simp [go_sem]) ((HO2.out x (b_then HB.out (KpW.iff.1 hux))).mono ?_)
    rintro e y ⟨⟨u, rfl, hL⟩, hb5⟩
    exact ⟨_, rfl, KpW.iff.2 hb5, (fun h => by cases h), (fun h => by cases h), (fun _ => slArg_own (f := TurnV.cells) (k := 5) (fun _ => rfl) (by decide) hL), (fun h => by cases h), (fun h => by cases h), (fun h => by cases h)⟩
  rintro v45 ⟨x45, -, -, -, -, hv, -, -, -⟩
  obtain ⟨A45, c45, rfl⟩ := (hv (by first | rfl | trivial)).len
  clear hv x45
  simp only [Act.put, List.setIfInBounds_toArray, List.set_cons_succ, List.set_cons_zero]
  refine HN.holdK_atG rfl (by first | rfl | kernel_rfl) (fun x hux hk => ?_) ?_
  · refine HN.heldUpon_enter (f := 25) (args := #[.slice A45 T.length c45]) (by simp [go_sem]) ((HQ2.out _ x (hk.2.2.2.1 (by first | rfl | trivial))).mono ?_)
    rintro e y ⟨rfl, hb5⟩
    exact ⟨_, rfl, KpW.iff.2 hb5, (fun h => by cases h), (fun h => by cases h), (fun h => by cases h), (fun _ => rfl), (fun h => by cases h), (fun h => by cases h)⟩
  rintro v46 ⟨x46, -, -, -, -, -, hv, -, -⟩
  obtain rfl := hv (by first | rfl | trivial)
  clear hv x46
  refine HN.holdK_run 17 (by kernel_rfl) (fun u3 hu3 => ?_)
  simp only [List.take_succ_cons, List.take_zero, List.drop_succ_cons, List.drop_zero, Act.put, List.setIfInBounds_toArray, List.set_cons_succ, List.set_cons_zero]
  have k0 : ∀ x : KeptW u3, x.v.cell? ⟨w.heap.size, 0, none⟩ = some (.slice Ax X.length cx) := fun x => x.cell (b_old hu3 f0)
  have k1 : ∀ x : KeptW u3, x.v.cell? ⟨w.heap.size, 1, none⟩ = some (.slice Am M.length cm) := fun x => x.cell (b_old hu3 f1)
  have hne : Nonempty (KeptW u3) := ⟨⟨u3, Below.refl _ _⟩⟩
  iterate 5 (go_big_quiet_step (fail))
  go_big_quiet_step (exact KeptW.calls (HC3.out _ (b_then (b_then HB.out hu3) (KeptW.below _))))
  iterate 2 (go_big_quiet_step (fail))
  go_big_quiet_step (exact KeptW.calls (HQ3.out _ (b_then (b_then HB.out hu3) (KeptW.below _))))
  iterate 5 (go_big_quiet_step (fail))
  go_big_quiet_step (exact KeptW.calls (HC4.out _ (b_then (b_then HB.out hu3) (KeptW.below _))))
  iterate 2 (go_big_quiet_step (fail))
  refine wpQuiet_nil ?_
  clear k0 k1 hne
  intro K3 hK3
  refine HN.holdK_atG rfl (by first | rfl | kernel_rfl) (fun x hux _ => ?_) ?_
  · refine HN.heldUpon_enter (f := 21) (args := #[.slice Ax X.length cx]) (by simp [go_sem]) ((HO3.out x (b_then HB.out (KpW.iff.1 hux))).mono ?_)
    rintro e y ⟨⟨u, rfl, hL⟩, hb5⟩
    exact ⟨_, rfl, KpW.iff.2 hb5, (fun h => by cases h), (fun h => by cases h), (fun h => by cases h), (fun h => by cases h), (fun _ => slArg_own (f := SeatV.cells) (k := 5) (fun _ => rfl) (by decide) hL), (fun h => by cases h)⟩
  rintro v64 ⟨x64, -, -, -, -, -, -, hv, -⟩
  obtain ⟨A64, c64, rfl⟩ := (hv (by first | rfl | trivial)).len
  clear hv x64
  simp only [Act.put, List.setIfInBounds_toArray, List.set_cons_succ, List.set_cons_zero]
  refine HN.holdK_atG rfl (by first | rfl | kernel_rfl) (fun x hux hk => ?_) ?_
  · refine HN.heldUpon_enter (f := 29) (args := #[.slice A64 X.length c64]) (by simp [go_sem]) ((HQ4.out _ x (hk.2.2.2.2.2.1 (by first | rfl | trivial))).mono ?_)
    rintro e y ⟨rfl, hb5⟩
    exact ⟨_, rfl, KpW.iff.2 hb5, (fun h => by cases h), (fun h => by cases h), (fun h => by cases h), (fun h => by cases h), (fun h => by cases h), (fun _ => rfl)⟩
  rintro v65 ⟨x65, -, -, -, -, -, -, -, hv⟩
  obtain rfl := hv (by first | rfl | trivial)
  clear hv x65
  refine HN.holdK_run 2 (by kernel_rfl) (fun u4 hu4 => ?_)
  simp only [List.take_succ_cons, List.take_zero, List.drop_succ_cons, List.drop_zero, Act.put, List.setIfInBounds_toArray, List.set_cons_succ, List.set_cons_zero]
  have k0 : ∀ x : KeptW u4, x.v.cell? ⟨w.heap.size, 0, none⟩ = some (.slice Ax X.length cx) := fun x => x.cell (b_old hu4 f0)
  have k1 : ∀ x : KeptW u4, x.v.cell? ⟨w.heap.size, 1, none⟩ = some (.slice Am M.length cm) := fun x => x.cell (b_old hu4 f1)
  have hne : Nonempty (KeptW u4) := ⟨⟨u4, Below.refl _ _⟩⟩
  iterate 2 (go_big_quiet_step (fail))
  refine wpQuiet_nil ?_
  clear k0 k1 hne
  intro K4 hK4
  intro w9 hw9 _
  have hB9 := b_then HB.out hw9
  go_wp2_with fail
  go_ret
  exact ⟨rfl, hB9⟩
end Go.Proofs.YtkjhnemfebgcnaaGreatDoor
namespace Go.Proofs.YtkjhnemfebgcnaaGreatDoor
open Go Go.RowKit Go.ChangeShapes Go.WideShapes
theorem laidOut : laidOutB Tryz.prog = true := by kernel_rfl
theorem sameAt_below {w w' : World} (hb : Below w.heap.size w w') {p : MemPlace} (hp : p.block < w.heap.size) : w.sameAt w' p := by
  cases p with
  | cell b off => exact hb.cell (p := ⟨b, off, none⟩) hp
  | map b => exact hb.block b hp
section
variable {H : Type} {enc : TypeId × Value → H} {W W' : World}
theorem trodAll_stays {base : Nat} {sp : Nat → Bool} : ∀ {ts : List TypeId} {vs : List Value} {ds : List (DataW H)} {ps : List MemPlace}, (∀ t ∈ ts, Tryz.prog.readableRec t = true ∧ t < Tryz.prog.types.size) →
    DataW.TrodAll enc Tryz.prog W base (fun _ => true) true ts vs ds ps → (∀ p ∈ ps, W.sameAt W' p) → (∀ p ∈ ps, sp p.block = true) → DataW.TrodAll enc Tryz.prog W' base sp true ts vs ds ps := by
  intro ts
  induction ts with
  | nil =>
    intro vs ds ps _ h _ _
    obtain ⟨rfl, rfl, rfl⟩ := trodAll_nil h
    exact trodAll_mk0
  | cons t ts ih =>
    intro vs ds ps ht h hsame hs
    obtain ⟨v, vs', d, ds', p, q, rfl, rfl, rfl, h1, h2⟩ := trodAll_cons h
    have a := Go.WideElems.Trod_stays laidOut (ht t (by simp)).1 (ht t (by simp)).2 h1 (fun x hx => hsame x (by simp [hx])) (fun x hx => hs x (by simp [hx]))
    exact trodAll_cons_mk a (ih (fun t' ht' => ht t' (by simp [ht'])) h2 (fun x hx => hsame x (by simp [hx])) (fun x hx => hs x (by simp [hx])))
end
end Go.Proofs.YtkjhnemfebgcnaaGreatDoor
namespace Go.Proofs.YtkjhnemfebgcnaaGreatDoor
open Go Go.RowKit Go.ChangeShapes Go.WideShapes Go.ChangeAt Go.Deep Go.Joins
theorem cellsI : Tryz.prog.cellsOf 3 = 1 := by kernel_rfl
theorem cellsS : Tryz.prog.cellsOf 9 = 1 := by kernel_rfl
theorem cellsEStand : Tryz.prog.cellsOf 54 = 3 := by kernel_rfl
theorem bytesEStand : Tryz.prog.bytesOf 54 = 40 := by kernel_rfl
theorem list_ofStand {α : Type} (l : List α) (h : l.length = 3) : ∃ c0 c1 c2, l = [c0, c1, c2] := by
  match l, h with
  | [c0, c1, c2], _ => exact ⟨c0, c1, c2, rfl⟩
theorem cellsETurn : Tryz.prog.cellsOf 56 = 5 := by kernel_rfl
theorem bytesETurn : Tryz.prog.bytesOf 56 = 56 := by kernel_rfl
theorem list_ofTurn {α : Type} (l : List α) (h : l.length = 5) : ∃ c0 c1 c2 c3 c4, l = [c0, c1, c2, c3, c4] := by
  match l, h with
  | [c0, c1, c2, c3, c4], _ => exact ⟨c0, c1, c2, c3, c4, rfl⟩
theorem cellsEMov : Tryz.prog.cellsOf 50 = 7 := by kernel_rfl
theorem bytesEMov : Tryz.prog.bytesOf 50 = 80 := by kernel_rfl
theorem list_ofMov {α : Type} (l : List α) (h : l.length = 7) : ∃ c0 c1 c2 c3 c4 c5 c6, l = [c0, c1, c2, c3, c4, c5, c6] := by
  match l, h with
  | [c0, c1, c2, c3, c4, c5, c6], _ => exact ⟨c0, c1, c2, c3, c4, c5, c6, rfl⟩
theorem cellsESeat : Tryz.prog.cellsOf 104 = 5 := by kernel_rfl
theorem bytesESeat : Tryz.prog.bytesOf 104 = 56 := by kernel_rfl
theorem list_ofSeat {α : Type} (l : List α) (h : l.length = 5) : ∃ c0 c1 c2 c3 c4, l = [c0, c1, c2, c3, c4] := by
  match l, h with
  | [c0, c1, c2, c3, c4], _ => exact ⟨c0, c1, c2, c3, c4, rfl⟩
section
variable {H : Type} {enc : TypeId × Value → H} {w : World} {base : Nat} {sp : Nat → Bool} {held : Bool}
set_option maxRecDepth 100000 in
theorem stand_of_trod {fuel : Nat} {cs : List Value} {x : DataW H × List MemPlace} (h : DataW.trod enc Tryz.prog w base sp held fuel 54 cs = some x) : ∃ q : StandV, cs = q.cells.toList := by
  obtain ⟨xs, n, _, _, hl, hxl, hf⟩ := DataW.trod_struct Tryz.underlying54 h
  rw [cellsEStand] at hl
  obtain ⟨c0, c1, c2, rfl⟩ := list_ofStand cs hl
  obtain ⟨y0, y1, y2, rfl⟩ := list_ofStand xs hxl
  obtain ⟨s0, e0, -, -⟩ := DataW.trod_string Tryz.underlying9 (show DataW.trod _ Tryz.prog w base sp held n 9 _ = some y0 from hf 0 _ rfl)
  obtain ⟨s1, e1, -, -⟩ := DataW.trod_int Tryz.underlying3 (show DataW.trod _ Tryz.prog w base sp held n 3 _ = some y1 from hf 1 _ rfl)
  obtain ⟨s2, e2, -, -⟩ := DataW.trod_string Tryz.underlying9 (show DataW.trod _ Tryz.prog w base sp held n 9 _ = some y2 from hf 2 _ rfl)
  have e0' : ([c0, c1, c2].drop 0).take (Tryz.prog.cellsOf 9) = [.string s0] := e0
  have e1' : ([c0, c1, c2].drop 1).take (Tryz.prog.cellsOf 3) = [.int .i64 s1] := e1
  have e2' : ([c0, c1, c2].drop 2).take (Tryz.prog.cellsOf 9) = [.string s2] := e2
  rw [cellsI] at e1'
  rw [cellsS] at e0' e2'
  simp only [List.drop_zero, List.take_succ_cons, List.take_zero, List.cons.injEq, and_true, List.drop_succ_cons] at e0' e1' e2'
  subst e0' e1' e2'
  exact ⟨⟨s0, s1, s2⟩, rfl⟩
set_option maxRecDepth 100000 in
theorem turn_of_trod {fuel : Nat} {cs : List Value} {x : DataW H × List MemPlace} (h : DataW.trod enc Tryz.prog w base sp held fuel 56 cs = some x) : ∃ q : TurnV, cs = q.cells.toList := by
  obtain ⟨xs, n, _, _, hl, hxl, hf⟩ := DataW.trod_struct Tryz.underlying56 h
  rw [cellsETurn] at hl
  obtain ⟨c0, c1, c2, c3, c4, rfl⟩ := list_ofTurn cs hl
  obtain ⟨y0, y1, y2, y3, y4, rfl⟩ := list_ofTurn xs hxl
  obtain ⟨s0, e0, -, -⟩ := DataW.trod_string Tryz.underlying9 (show DataW.trod _ Tryz.prog w base sp held n 9 _ = some y0 from hf 0 _ rfl)
  obtain ⟨s1, e1, -, -⟩ := DataW.trod_int Tryz.underlying3 (show DataW.trod _ Tryz.prog w base sp held n 3 _ = some y1 from hf 1 _ rfl)
  obtain ⟨s2, e2, -, -⟩ := DataW.trod_int Tryz.underlying3 (show DataW.trod _ Tryz.prog w base sp held n 3 _ = some y2 from hf 2 _ rfl)
  obtain ⟨s3, e3, -, -⟩ := DataW.trod_int Tryz.underlying3 (show DataW.trod _ Tryz.prog w base sp held n 3 _ = some y3 from hf 3 _ rfl)
  obtain ⟨s4, e4, -, -⟩ := DataW.trod_string Tryz.underlying9 (show DataW.trod _ Tryz.prog w base sp held n 9 _ = some y4 from hf 4 _ rfl)
  have e0' : ([c0, c1, c2, c3, c4].drop 0).take (Tryz.prog.cellsOf 9) = [.string s0] := e0
  have e1' : ([c0, c1, c2, c3, c4].drop 1).take (Tryz.prog.cellsOf 3) = [.int .i64 s1] := e1
  have e2' : ([c0, c1, c2, c3, c4].drop 2).take (Tryz.prog.cellsOf 3) = [.int .i64 s2] := e2
  have e3' : ([c0, c1, c2, c3, c4].drop 3).take (Tryz.prog.cellsOf 3) = [.int .i64 s3] := e3
  have e4' : ([c0, c1, c2, c3, c4].drop 4).take (Tryz.prog.cellsOf 9) = [.string s4] := e4
  rw [cellsI] at e1' e2' e3'
  rw [cellsS] at e0' e4'
  simp only [List.drop_zero, List.take_succ_cons, List.take_zero, List.cons.injEq, and_true, List.drop_succ_cons] at e0' e1' e2' e3' e4'
  subst e0' e1' e2' e3' e4'
  exact ⟨⟨s0, s1, s2, s3, s4⟩, rfl⟩
set_option maxRecDepth 100000 in
theorem mov_of_trod {fuel : Nat} {cs : List Value} {x : DataW H × List MemPlace} (h : DataW.trod enc Tryz.prog w base sp held fuel 50 cs = some x) : ∃ q : MovV, cs = q.cells.toList := by
  obtain ⟨xs, n, _, _, hl, hxl, hf⟩ := DataW.trod_struct Tryz.underlying50 h
  rw [cellsEMov] at hl
  obtain ⟨c0, c1, c2, c3, c4, c5, c6, rfl⟩ := list_ofMov cs hl
  obtain ⟨y0, y1, y2, y3, y4, y5, y6, rfl⟩ := list_ofMov xs hxl
  obtain ⟨s0, e0, -, -⟩ := DataW.trod_int Tryz.underlying3 (show DataW.trod _ Tryz.prog w base sp held n 3 _ = some y0 from hf 0 _ rfl)
  obtain ⟨s1, e1, -, -⟩ := DataW.trod_string Tryz.underlying9 (show DataW.trod _ Tryz.prog w base sp held n 9 _ = some y1 from hf 1 _ rfl)
  obtain ⟨s2, e2, -, -⟩ := DataW.trod_string Tryz.underlying9 (show DataW.trod _ Tryz.prog w base sp held n 9 _ = some y2 from hf 2 _ rfl)
  obtain ⟨s3, e3, -, -⟩ := DataW.trod_int Tryz.underlying3 (show DataW.trod _ Tryz.prog w base sp held n 3 _ = some y3 from hf 3 _ rfl)
  obtain ⟨s4, e4, -, -⟩ := DataW.trod_int Tryz.underlying3 (show DataW.trod _ Tryz.prog w base sp held n 3 _ = some y4 from hf 4 _ rfl)
  obtain ⟨s5, e5, -, -⟩ := DataW.trod_int Tryz.underlying3 (show DataW.trod _ Tryz.prog w base sp held n 3 _ = some y5 from hf 5 _ rfl)
  obtain ⟨s6, e6, -, -⟩ := DataW.trod_string Tryz.underlying9 (show DataW.trod _ Tryz.prog w base sp held n 9 _ = some y6 from hf 6 _ rfl)
  have e0' : ([c0, c1, c2, c3, c4, c5, c6].drop 0).take (Tryz.prog.cellsOf 3) = [.int .i64 s0] := e0
  have e1' : ([c0, c1, c2, c3, c4, c5, c6].drop 1).take (Tryz.prog.cellsOf 9) = [.string s1] := e1
  have e2' : ([c0, c1, c2, c3, c4, c5, c6].drop 2).take (Tryz.prog.cellsOf 9) = [.string s2] := e2
  have e3' : ([c0, c1, c2, c3, c4, c5, c6].drop 3).take (Tryz.prog.cellsOf 3) = [.int .i64 s3] := e3
  have e4' : ([c0, c1, c2, c3, c4, c5, c6].drop 4).take (Tryz.prog.cellsOf 3) = [.int .i64 s4] := e4
  have e5' : ([c0, c1, c2, c3, c4, c5, c6].drop 5).take (Tryz.prog.cellsOf 3) = [.int .i64 s5] := e5
  have e6' : ([c0, c1, c2, c3, c4, c5, c6].drop 6).take (Tryz.prog.cellsOf 9) = [.string s6] := e6
  rw [cellsI] at e0' e3' e4' e5'
  rw [cellsS] at e1' e2' e6'
  simp only [List.drop_zero, List.take_succ_cons, List.take_zero, List.cons.injEq, and_true, List.drop_succ_cons] at e0' e1' e2' e3' e4' e5' e6'
  subst e0' e1' e2' e3' e4' e5' e6'
  exact ⟨⟨s0, s1, s2, s3, s4, s5, s6⟩, rfl⟩
set_option maxRecDepth 100000 in
theorem seat_of_trod {fuel : Nat} {cs : List Value} {x : DataW H × List MemPlace} (h : DataW.trod enc Tryz.prog w base sp held fuel 104 cs = some x) : ∃ q : SeatV, cs = q.cells.toList := by
  obtain ⟨xs, n, _, _, hl, hxl, hf⟩ := DataW.trod_struct Tryz.underlying104 h
  rw [cellsESeat] at hl
  obtain ⟨c0, c1, c2, c3, c4, rfl⟩ := list_ofSeat cs hl
  obtain ⟨y0, y1, y2, y3, y4, rfl⟩ := list_ofSeat xs hxl
  obtain ⟨s0, e0, -, -⟩ := DataW.trod_string Tryz.underlying9 (show DataW.trod _ Tryz.prog w base sp held n 9 _ = some y0 from hf 0 _ rfl)
  obtain ⟨s1, e1, -, -⟩ := DataW.trod_string Tryz.underlying9 (show DataW.trod _ Tryz.prog w base sp held n 9 _ = some y1 from hf 1 _ rfl)
  obtain ⟨s2, e2, -, -⟩ := DataW.trod_int Tryz.underlying3 (show DataW.trod _ Tryz.prog w base sp held n 3 _ = some y2 from hf 2 _ rfl)
  obtain ⟨s3, e3, -, -⟩ := DataW.trod_int Tryz.underlying3 (show DataW.trod _ Tryz.prog w base sp held n 3 _ = some y3 from hf 3 _ rfl)
  obtain ⟨s4, e4, -, -⟩ := DataW.trod_int Tryz.underlying3 (show DataW.trod _ Tryz.prog w base sp held n 3 _ = some y4 from hf 4 _ rfl)
  have e0' : ([c0, c1, c2, c3, c4].drop 0).take (Tryz.prog.cellsOf 9) = [.string s0] := e0
  have e1' : ([c0, c1, c2, c3, c4].drop 1).take (Tryz.prog.cellsOf 9) = [.string s1] := e1
  have e2' : ([c0, c1, c2, c3, c4].drop 2).take (Tryz.prog.cellsOf 3) = [.int .i64 s2] := e2
  have e3' : ([c0, c1, c2, c3, c4].drop 3).take (Tryz.prog.cellsOf 3) = [.int .i64 s3] := e3
  have e4' : ([c0, c1, c2, c3, c4].drop 4).take (Tryz.prog.cellsOf 3) = [.int .i64 s4] := e4
  rw [cellsI] at e2' e3' e4'
  rw [cellsS] at e0' e1'
  simp only [List.drop_zero, List.take_succ_cons, List.take_zero, List.cons.injEq, and_true, List.drop_succ_cons] at e0' e1' e2' e3' e4'
  subst e0' e1' e2' e3' e4'
  exact ⟨⟨s0, s1, s2, s3, s4⟩, rfl⟩
set_option maxRecDepth 100000 in
theorem rows_of_trod {α : Type} [Inhabited α] {f : α → Array Value} {k : Nat} {T E : TypeId} (hT : Tryz.prog.underlying T = some (.slice E)) (hE : Tryz.prog.cellsOf E = k) (hk : ∀ x, (f x).size = k) (hp : 0 < k)
    (el : ∀ {fuel : Nat} {cs : List Value} {x : DataW H × List MemPlace}, DataW.trod enc Tryz.prog w base (fun _ => true) held fuel E cs = some x → ∃ q : α, cs = (f q).toList)
    {fuel : Nat} {cs : List Value} {x : DataW H × List MemPlace} (hf : DataW.trod enc Tryz.prog w base (fun _ => true) held fuel T cs = some x) :
    ∃ v, cs = [v] ∧ ∃ L : List α, SlArg f k w v L ∧ (L.length = 0 ∨ ∃ e s, x.1 = .slice e s ∧ L.length ≤ e.length + s.length) := by
  rcases open_slice hT hf with ⟨e, -⟩ | ⟨a, len, cap, m, n, D, Pl, e, hb, hl, hm, hmm, hy, hx⟩
  · exact ⟨_, e, [], .inl ⟨rfl, none, 0, rfl⟩, .inl rfl⟩
  · refine ⟨_, e, ?_⟩
    rcases Nat.eq_zero_or_pos len with h0 | h0
    · subst h0; exact ⟨[], .inl ⟨rfl, some a, cap, rfl⟩, .inl rfl⟩
    rw [hE] at hx
    have each : ∀ i, i < len → ∃ q : α, ∀ t u, (f q)[t]? = some u → w.cell? ((a.add (i * k)).add t) = some u := fun i hi => by
      obtain ⟨cs', h1, h2⟩ := hx i (by simp at hmm; omega)
      obtain ⟨q, rfl⟩ := el h2
      obtain ⟨_, hlen, hcell⟩ := World.cells?_some h1
      refine ⟨q, fun t u hu => ?_⟩
      have ht : t < k := by
        have := (Array.getElem?_eq_some_iff.1 hu).1
        rwa [hk] at this
      rw [hcell t ht]
      simpa using hu
    obtain ⟨Q, hQ⟩ := choose_lt each
    have h1 := hQ 0 h0 0 _ (Array.getElem?_eq_getElem (by rw [hk]; exact hp))
    have hsp : a.spot = none := by
      rw [Nat.zero_mul] at h1
      have h2 := World.cell?_spot h1
      simpa [Addr.add] using h2
    obtain ⟨b, off, s⟩ := a
    simp only at hsp
    subst hsp
    have hg : ∀ i, i < len → ((List.range len).map Q).getD i default = Q i := fun i hi => by simp [List.getD, hi]
    refine ⟨(List.range len).map Q, .inr ⟨by simpa using h0, b, off, cap, by simp, ⟨fun i hi t u hu => ?_⟩, by simpa using hl, ?_⟩, .inr ⟨_, _, by rw [hy], by simp⟩⟩
    · have hi' : i < len := by simpa using hi
      rw [hg i hi'] at hu
      have := hQ i hi' t u hu
      rw [add_plain, add_plain] at this
      exact this
    · rw [add_plain, add_plain] at h1
      exact cell_in h1
theorem stands_of_trod {fuel : Nat} {cs : List Value} {x : DataW H × List MemPlace} (hf : DataW.trod enc Tryz.prog w base (fun _ => true) held fuel 22 cs = some x) : ∃ v, cs = [v] ∧ ∃ L : List StandV, SlArg StandV.cells 3 w v L ∧ (L.length = 0 ∨ ∃ e s, x.1 = .slice e s ∧ L.length ≤ e.length + s.length) :=
  rows_of_trod Tryz.underlying22 cellsEStand (fun _ => rfl) (by decide) (fun h => stand_of_trod h) hf
theorem turns_of_trod {fuel : Nat} {cs : List Value} {x : DataW H × List MemPlace} (hf : DataW.trod enc Tryz.prog w base (fun _ => true) held fuel 23 cs = some x) : ∃ v, cs = [v] ∧ ∃ L : List TurnV, SlArg TurnV.cells 5 w v L ∧ (L.length = 0 ∨ ∃ e s, x.1 = .slice e s ∧ L.length ≤ e.length + s.length) :=
  rows_of_trod Tryz.underlying23 cellsETurn (fun _ => rfl) (by decide) (fun h => turn_of_trod h) hf
theorem movs_of_trod {fuel : Nat} {cs : List Value} {x : DataW H × List MemPlace} (hf : DataW.trod enc Tryz.prog w base (fun _ => true) held fuel 25 cs = some x) : ∃ v, cs = [v] ∧ ∃ L : List MovV, SlArg MovV.cells 7 w v L ∧ (L.length = 0 ∨ ∃ e s, x.1 = .slice e s ∧ L.length ≤ e.length + s.length) :=
  rows_of_trod Tryz.underlying25 cellsEMov (fun _ => rfl) (by decide) (fun h => mov_of_trod h) hf
theorem seats_of_trod {fuel : Nat} {cs : List Value} {x : DataW H × List MemPlace} (hf : DataW.trod enc Tryz.prog w base (fun _ => true) held fuel 24 cs = some x) : ∃ v, cs = [v] ∧ ∃ L : List SeatV, SlArg SeatV.cells 5 w v L ∧ (L.length = 0 ∨ ∃ e s, x.1 = .slice e s ∧ L.length ≤ e.length + s.length) :=
  rows_of_trod Tryz.underlying24 cellsESeat (fun _ => rfl) (by decide) (fun h => seat_of_trod h) hf
set_option maxRecDepth 100000 in
theorem open_stands {v : Value} {d : DataW H} {ps : List MemPlace} {r : Reach} {b0 : Nat} (hval : Value.okWide Tryz.prog w r b0 22 v) (hd : DataW.Trod enc Tryz.prog w base (fun _ => true) held 22 v d ps) :
    ∃ L : List StandV, SlArg StandV.cells 3 w v L ∧ (L.length = 0 ∨ ∃ e s, d = .slice e s ∧ L.length ≤ e.length + s.length) := by
  obtain ⟨A, mm, c, rfl⟩ := Go.WideShapes.okWide_slice Tryz.underlying22 hval
  obtain ⟨fuel, hf⟩ := hd
  obtain ⟨v, e, L, h1, h2⟩ := stands_of_trod hf
  have hv : Value.slice A mm c = v := by simpa [Value.cells] using e
  subst hv
  exact ⟨L, h1, h2⟩
set_option maxRecDepth 100000 in
theorem open_turns {v : Value} {d : DataW H} {ps : List MemPlace} {r : Reach} {b0 : Nat} (hval : Value.okWide Tryz.prog w r b0 23 v) (hd : DataW.Trod enc Tryz.prog w base (fun _ => true) held 23 v d ps) :
    ∃ L : List TurnV, SlArg TurnV.cells 5 w v L ∧ (L.length = 0 ∨ ∃ e s, d = .slice e s ∧ L.length ≤ e.length + s.length) := by
  obtain ⟨A, mm, c, rfl⟩ := Go.WideShapes.okWide_slice Tryz.underlying23 hval
  obtain ⟨fuel, hf⟩ := hd
  obtain ⟨v, e, L, h1, h2⟩ := turns_of_trod hf
  have hv : Value.slice A mm c = v := by simpa [Value.cells] using e
  subst hv
  exact ⟨L, h1, h2⟩
set_option maxRecDepth 100000 in
theorem open_traffic {r : Reach} {b0 : Nat} {v : Value} {d : DataW H} {ps : List MemPlace} (hval : Value.okWide Tryz.prog w r b0 27 v) (hd : DataW.Trod enc Tryz.prog w base (fun _ => true) held 27 v d ps) :
    ∃ (v0 v1 : Value) (l : List SeatV) (m : List MovV) (x y : DataW H), v = .agg #[v0, v1] ∧ SlArg SeatV.cells 5 w v0 l ∧ SlArg MovV.cells 7 w v1 m ∧ d = .agg [x, y] ∧ (l.length = 0 ∨ ∃ e s, x = .slice e s ∧ l.length ≤ e.length + s.length) ∧ (m.length = 0 ∨ ∃ e s, y = .slice e s ∧ m.length ≤ e.length + s.length) := by
  obtain ⟨v0, v1, y0, y1, n, rfl, rfl, -, h0, h1⟩ := open_agg2 Tryz.underlying27 (by kernel_rfl) (by kernel_rfl) hval hd
  obtain ⟨u0, e0, l, a0, b0⟩ := seats_of_trod h0
  obtain ⟨u1, e1, m, a1, b1⟩ := movs_of_trod h1
  obtain rfl : v0 = u0 := by simpa using e0
  obtain rfl : v1 = u1 := by simpa using e1
  exact ⟨v0, v1, l, m, y0.1, y1.1, rfl, a0, a1, rfl, b0, b1⟩
end
theorem ground_room {H : Type} {x y z t : DataW H} {a b c d : Nat} (hsz : (DataW.weightsEach Tryz.prog [22, 23, 27] [x, y, .agg [z, t]]).all (· ≤ reachBytes) = true)
    (h0 : a = 0 ∨ ∃ e s, x = .slice e s ∧ a ≤ e.length + s.length) (h1 : b = 0 ∨ ∃ e s, y = .slice e s ∧ b ≤ e.length + s.length) (h2 : c = 0 ∨ ∃ e s, z = .slice e s ∧ c ≤ e.length + s.length) (h3 : d = 0 ∨ ∃ e s, t = .slice e s ∧ d ≤ e.length + s.length) :
    a * 40 ≤ 140737488355328 ∧ b * 56 ≤ 140737488355328 ∧ c * 56 ≤ 140737488355328 ∧ d * 80 ≤ 140737488355328 := by
  have W := fun n hn => of_decide_eq_true (List.all_eq_true.1 hsz n hn)
  refine ⟨?_, ?_, ?_, ?_⟩
  · rcases h0 with rfl | ⟨e, s, rfl, hn⟩
    · omega
    · have h2 := W ((e.length + s.length) * Tryz.prog.bytesOf 54) (by simp [DataW.weights, DataW.weightsEach, Tryz.underlying27, Tryz.underlying22])
      rw [bytesEStand] at h2
      simp only [reachBytes] at h2
      omega
  · rcases h1 with rfl | ⟨e, s, rfl, hn⟩
    · omega
    · have h2 := W ((e.length + s.length) * Tryz.prog.bytesOf 56) (by simp [DataW.weights, DataW.weightsEach, Tryz.underlying27, Tryz.underlying23])
      rw [bytesETurn] at h2
      simp only [reachBytes] at h2
      omega
  · rcases h2 with rfl | ⟨e, s, rfl, hn⟩
    · omega
    · have h2 := W ((e.length + s.length) * Tryz.prog.bytesOf 104) (by simp [DataW.weights, DataW.weightsEach, Tryz.underlying27, Tryz.underlying24])
      rw [bytesESeat] at h2
      simp only [reachBytes] at h2
      omega
  · rcases h3 with rfl | ⟨e, s, rfl, hn⟩
    · omega
    · have h2 := W ((e.length + s.length) * Tryz.prog.bytesOf 50) (by simp [DataW.weights, DataW.weightsEach, Tryz.underlying27, Tryz.underlying25])
      rw [bytesEMov] at h2
      simp only [reachBytes] at h2
      omega
end Go.Proofs.YtkjhnemfebgcnaaGreatDoor
namespace Go.Proofs.YtkjhnemfebgcnaaGreatDoor
open Go.ChangeShapes Go.WideShapes Go.ChangeAt Go.RowKit
theorem gTab : Tryz.prog.globalNamed "turnround/calendar.monthLengths" = some 0 := by kernel_rfl
theorem gTabT : (Tryz.prog.globals[0]?).map (·.type) = some 296 := by kernel_rfl
theorem cells12 : Tryz.prog.cellsOf 296 = 12 := by kernel_rfl
theorem cellsInt : Tryz.prog.cellsOf 3 = 1 := by kernel_rfl
theorem heap_of_var {W : World} {name : String} {g : Nat} {cs : Array Value} (hg : Tryz.prog.globalNamed name = some g) (h : W.var? Tryz.prog name = some cs) : ∃ t fr, W.heap[g]? = some (.cells cs t fr) := by
  unfold World.var? at h
  rw [hg] at h
  simp only [Option.bind_some] at h
  split at h
  · rename_i cs' t fr hh
    cases h
    exact ⟨t, fr, hh⟩
  · cases h
theorem u16_bd {a : Int} (h : (Lit.int .u16 a).wf = true) : 0 ≤ a ∧ a ≤ 65535 := by
  unfold Lit.wf at h
  simp at h
  rw [show IntKind.u16.min = 0 by decide, show IntKind.u16.max = 65535 by decide] at h
  exact h
theorem u8_bd {a : Int} (h : (Lit.int .u8 a).wf = true) : 0 ≤ a ∧ a ≤ 255 := by
  unfold Lit.wf at h
  simp at h
  rw [show IntKind.u8.min = 0 by decide, show IntKind.u8.max = 255 by decide] at h
  exact h
section
variable {H : Type} {enc : TypeId × Value → H} {P : Program}
/-- The row's last step where of the world behind the call only Below is known. -/
theorem post_of_below {f : Func} {s : ChangeSpec} {apart fresh handsOn again : Bool} {W W' : World} {args : Array Value} {v : Value} {ds gs : List (DataW H)} {before pa pv : List MemPlace}
    (hW : DataW.Whole enc P f.params.toList s.vars apart W args.toList ds gs before)
    (hres : ∀ (b : Nat) (sp : Nat → Bool) (hd : Bool), DataW.TrodAll enc P W' b sp hd f.resultTypes.toList (v.resultList f.resultTypes.size) (s.fn H (ds ++ gs)).results [])
    (hargs : ∀ sp : Nat → Bool, (∀ p ∈ before, sp p.block = true) → DataW.TrodAll enc P W' 0 sp true f.params.toList args.toList (s.fn H (ds ++ gs)).args pa)
    (hvars : ∀ sp : Nat → Bool, (∀ p ∈ before, sp p.block = true) → DataW.TrodVars enc P W' sp s.vars (s.fn H (ds ++ gs)).vars pv)
    (hps : before = pa ++ pv) (hb : Below W.heap.size W W')
    (hok : ∀ (j : Nat) (t : TypeId) (r : Value), f.resultTypes[j]? = some t → (v.resultList f.resultTypes.size)[j]? = some r → Value.okWide P W' .any 0 t r) :
    s.post enc P f apart fresh handsOn again W args v W' := by
  have hlt : ∀ p ∈ before, p.block < W.heap.size := fun p hp => hW.lt p hp
  have hold : ∀ p ∈ before, (fun b => decide (b < W.heap.size)) p.block = true := fun p hp => by simpa using hlt p hp
  refine ⟨ds, gs, before, [], pa, pv, hW, hres _ _ _, hargs _ hold, hvars _ hold, World.keptBut_mono (fun p hp => ⟨hp, .inr (by rw [hps, List.mem_append] at hp; exact hp)⟩) (hb.frame (· ∈ before)), fun _ => ?_⟩
  obtain ⟨_, _, _, _, _, hz, hn⟩ := hW
  refine ⟨hok, _, _, ([] ++ pa) ++ pv, ⟨[] ++ pa, pv, trodAll_append (hargs _ (fun _ _ => rfl)) (hres _ _ _), hvars _ (fun _ _ => rfl), rfl, fun b off hp => ?_, fun ha => ?_⟩, fun p hp _ => by rw [hps]; simpa using hp⟩
  · have hin : MemPlace.cell b off ∈ before := by rw [hps]; simpa using hp
    rw [hb.frozen (hlt _ hin)]
    exact hz b off hin
  · have := hn ha
    rw [hps] at this
    simpa using this
end
end Go.Proofs.YtkjhnemfebgcnaaGreatDoor
