/- Contracts of package calendar: CheckPeriod, daysIn. · Contracts of package message: CheckRequest. · Contracts of check.Named at requests: the error of a request, and that its name is new. · Contracts: the actions of lines, of package message and of the reference. · Contracts of the reference: ranges, days, periods (for seats without the reference's other functions). · Contracts: the reference's IsName. · Contracts of the reference: First. · Contracts of check.List, check.Named at requests: message.checkRequests. · Contracts of slices.IndexFunc at requests and a name. -/
import Derived.Test.YtphoclgibnhjfaaGreatPm8
import Derived.Test.YtphoclgibnhjfaaGreatPm1
import Derived.OwnWalk
namespace Go.Proofs.YtphoclgibnhjfaaGreat
open Go.RowKit
def perErr (a b m : Int) : Int := fst [rng a 0 99999, rng b 0 99999, unl (decide (a ≤ b)) 11, unl (decide (wrap64 (b - a) ≤ 400)) 4, rng m 1 127]
theorem Days_any (a b : Int) (w : World) :
    Calls Tryz.prog 206 #[.int .i64 a, .int .i64 b] w fun r w' => r = .returned (.int .i64 (fst [rng a 0 99999, rng b 0 99999, unl (decide (a ≤ b)) 11])) ∧ Below w.heap.size w w' := by
  go_enter Tryz.func206, Tryz.ntmps206
  go_wp2_with fail
  refine (checkDay_any _ _).mono ?_
  rintro e1 w1 ⟨rfl, rfl⟩
  go_wp2_with fail
  refine (checkDay_any _ _).mono ?_
  rintro e2 w2 ⟨rfl, rfl⟩
  go_wp2_with fail
  refine (unless_any _ _ _).mono ?_
  rintro e3 w3 ⟨rfl, rfl⟩
  go_wp2_with fail
  refine (fe_new [_, _, _] _ _ _ _ _ rfl rfl (by simp)).mono ?_
  rintro e w4 ⟨rfl, hw⟩
  go_wp2_with fail
  go_ret
  subst hw
  exact ⟨rfl, below_alloc _ _⟩
theorem fst_three (x y z : Int) (l : List Int) : fst (fst [x, y, z] :: l) = fst (x :: y :: z :: l) := by
  by_cases h1 : x = 0 <;> by_cases h2 : y = 0 <;> by_cases h3 : z = 0 <;> simp [fst, h1, h2, h3]
set_option maxRecDepth 100000 in
theorem CheckPeriod_any (a b m : Int) (w : World) :
    Calls Tryz.prog 181 #[.agg #[.int .i64 a, .int .i64 b, .int .i64 m]] w fun r w' => r = .returned (.int .i64 (perErr a b m)) ∧ Below w.heap.size w w' := by
  have HP : Hid (perErr a b m = fst [fst [rng a 0 99999, rng b 0 99999, unl (decide (a ≤ b)) 11], unl (decide (wrap64 (b - a) ≤ 400)) 4, rng m 1 127]) := Lib.hid (fst_three _ _ _ _).symm
  obtain ⟨W, HW, hb0, c0, c1, c2⟩ : ∃ W, Hid (w.alloc (.cells #[.int .i64 a, .int .i64 b, .int .i64 m] 82) = W) ∧ Below w.heap.size w W ∧ W.cell? ⟨w.heap.size, 0, none⟩ = some (.int .i64 a) ∧ W.cell? ⟨w.heap.size, 1, none⟩ = some (.int .i64 b) ∧ W.cell? ⟨w.heap.size, 2, none⟩ = some (.int .i64 m) := ⟨_, Lib.hid rfl, below_alloc w _, by simp, by simp, by simp⟩
  have k0 : ∀ x : KeptW W, x.v.cell? ⟨w.heap.size, 0, none⟩ = _ := fun x => x.cell c0
  have k1 : ∀ x : KeptW W, x.v.cell? ⟨w.heap.size, 1, none⟩ = _ := fun x => x.cell c1
  have k2 : ∀ x : KeptW W, x.v.cell? ⟨w.heap.size, 2, none⟩ = _ := fun x => x.cell c2
  have hne : Nonempty (KeptW W) := ⟨⟨W, Below.refl _ _⟩⟩
  clear c0 c1 c2
  go_enter Tryz.func181, Tryz.ntmps181
  go_wp2_with fail
  rw [HW.out]
  refine tail_kept 15 (by kernel_rfl) (by kernel_rfl) ?_
  simp only [List.take_succ_cons, List.take_zero, List.drop_succ_cons, List.drop_zero]
  iterate 4 (go_big_quiet_step (fail))
  go_big_quiet_step (exact KeptW.calls (Days_any _ _ _))
  iterate 6 (go_big_quiet_step (fail))
  go_big_quiet_step (exact KeptW.calls_same (unless_any _ _ _))
  iterate 2 (go_big_quiet_step (fail))
  go_big_quiet_step (exact KeptW.calls_same (checkMask_any _ _))
  refine wpQuiet_nil ?_
  rintro _ ⟨x, rfl⟩
  have hbx := b_then hb0 x.below
  clear k0 k1 k2 hb0
  go_wp2_with fail
  refine (fe_new [_, _, _] _ _ _ _ _ rfl rfl (by simp)).mono ?_
  rintro e2 w2 ⟨rfl, hw⟩
  have hb2 : Below w.heap.size w w2 := by rw [hw]; exact b_then hbx (below_alloc _ _)
  clear hw
  go_wp2_with fail
  go_ret
  exact ⟨ret_int (by rw [HP.out]), hb2⟩
end Go.Proofs.YtphoclgibnhjfaaGreat
namespace Go.Proofs.YtphoclgibnhjfaaGreat
open Go Go.RowKit
/-- The cells of a request. -/
structure ReqV where
  name : ByteArray
  carrier : ByteArray
  kind : ByteArray
  terminal : ByteArray
  partner : ByteArray
  link : ByteArray
  from_ : Int
  to : Int
  days : Int
  minute : Int
  seats : Int
  size : Int
  noise : Int
def ReqV.cells (q : ReqV) : Array Value := #[.string q.name, .string q.carrier, .string q.kind, .string q.terminal, .string q.partner, .string q.link, .int .i64 q.from_, .int .i64 q.to, .int .i64 q.days, .int .i64 q.minute, .int .i64 q.seats, .int .i64 q.size, .int .i64 q.noise]
def reqErr (q : ReqV) : Int := fst [nameE q.name, nameE q.carrier, nameE q.partner, optE q.terminal, optE q.link, kindE q.kind, unl (q.link.toList != q.name.toList) 32, perErr q.from_ q.to q.days, rng q.minute 0 1439, rng q.seats 0 999, rng q.size 1 9, rng q.noise 0 99]
structure ReqW (w : World) (b : Nat) (q : ReqV) : Prop where
  c0 : w.cell? ⟨b, 0, none⟩ = some (.string q.name)
  c1 : w.cell? ⟨b, 1, none⟩ = some (.string q.carrier)
  c2 : w.cell? ⟨b, 2, none⟩ = some (.string q.kind)
  c3 : w.cell? ⟨b, 3, none⟩ = some (.string q.terminal)
  c4 : w.cell? ⟨b, 4, none⟩ = some (.string q.partner)
  c5 : w.cell? ⟨b, 5, none⟩ = some (.string q.link)
  c6 : w.cell? ⟨b, 6, none⟩ = some (.int .i64 q.from_)
  c7 : w.cell? ⟨b, 7, none⟩ = some (.int .i64 q.to)
  c8 : w.cell? ⟨b, 8, none⟩ = some (.int .i64 q.days)
  c9 : w.cell? ⟨b, 9, none⟩ = some (.int .i64 q.minute)
  c10 : w.cell? ⟨b, 10, none⟩ = some (.int .i64 q.seats)
  c11 : w.cell? ⟨b, 11, none⟩ = some (.int .i64 q.size)
  c12 : w.cell? ⟨b, 12, none⟩ = some (.int .i64 q.noise)
theorem req_new (w : World) (q : ReqV) (T : TypeId) : ∃ W, Hid (w.alloc (.cells q.cells T) = W) ∧ Below w.heap.size w W ∧ ReqW W w.heap.size q := by
  refine ⟨_, Lib.hid rfl, below_alloc w _, ?_⟩
  unfold ReqV.cells
  constructor <;> simp
set_option maxRecDepth 100000 in
set_option maxHeartbeats 1000000 in
theorem CheckRequest_any (q : ReqV) (w : World) :
    Calls Tryz.prog 125 #[.agg q.cells] w fun r w' => r = .returned (.int .i64 (reqErr q)) ∧ Below w.heap.size w w' := by
  have HE : Hid (reqErr q = fst [nameE q.name, nameE q.carrier, nameE q.partner, optE q.terminal, optE q.link, kindE q.kind, unl (q.link.toList != q.name.toList) 32, perErr q.from_ q.to q.days, rng q.minute 0 1439, rng q.seats 0 999, rng q.size 1 9, rng q.noise 0 99]) := Lib.hid rfl
  obtain ⟨W, HW, hb0, R⟩ := req_new w q 84
  obtain ⟨name, carrier, kind, terminal, partner, link, a, b, d, m, s, z, n⟩ := q
  obtain ⟨c0, c1, c2, c3, c4, c5, c6, c7, c8, c9, c10, c11, c12⟩ := R
  simp only [ReqV.cells] at *
  have k0 : ∀ x : KeptW W, x.v.cell? ⟨w.heap.size, 0, none⟩ = _ := fun x => x.cell c0
  have k1 : ∀ x : KeptW W, x.v.cell? ⟨w.heap.size, 1, none⟩ = _ := fun x => x.cell c1
  have k2 : ∀ x : KeptW W, x.v.cell? ⟨w.heap.size, 2, none⟩ = _ := fun x => x.cell c2
  have k3 : ∀ x : KeptW W, x.v.cell? ⟨w.heap.size, 3, none⟩ = _ := fun x => x.cell c3
  have k4 : ∀ x : KeptW W, x.v.cell? ⟨w.heap.size, 4, none⟩ = _ := fun x => x.cell c4
  have k5 : ∀ x : KeptW W, x.v.cell? ⟨w.heap.size, 5, none⟩ = _ := fun x => x.cell c5
  have k6 : ∀ x : KeptW W, x.v.cell? ⟨w.heap.size, 6, none⟩ = _ := fun x => x.cell c6
  have k7 : ∀ x : KeptW W, x.v.cell? ⟨w.heap.size, 7, none⟩ = _ := fun x => x.cell c7
  have k8 : ∀ x : KeptW W, x.v.cell? ⟨w.heap.size, 8, none⟩ = _ := fun x => x.cell c8
  have k9 : ∀ x : KeptW W, x.v.cell? ⟨w.heap.size, 9, none⟩ = _ := fun x => x.cell c9
  have k10 : ∀ x : KeptW W, x.v.cell? ⟨w.heap.size, 10, none⟩ = _ := fun x => x.cell c10
  have k11 : ∀ x : KeptW W, x.v.cell? ⟨w.heap.size, 11, none⟩ = _ := fun x => x.cell c11
  have k12 : ∀ x : KeptW W, x.v.cell? ⟨w.heap.size, 12, none⟩ = _ := fun x => x.cell c12
  have hne : Nonempty (KeptW W) := ⟨⟨W, Below.refl _ _⟩⟩
  clear c0 c1 c2 c3 c4 c5 c6 c7 c8 c9 c10 c11 c12
  go_enter Tryz.func125, Tryz.ntmps125
  go_wp2_with fail
  rw [HW.out]
  refine tail_kept 39 (by kernel_rfl) (by kernel_rfl) ?_
  simp only [List.take_succ_cons, List.take_zero, List.drop_succ_cons, List.drop_zero]
  iterate 3
    iterate 2 (go_big_quiet_step (fail))
    go_big_quiet_step (exact KeptW.calls (CName_any _ _))
  iterate 2
    iterate 2 (go_big_quiet_step (fail))
    go_big_quiet_step (exact KeptW.calls (COpt_any _ _))
  iterate 2 (go_big_quiet_step (fail))
  go_big_quiet_step (exact KeptW.calls_same (CKind_any _ _))
  iterate 5 (go_big_quiet_step (fail))
  go_big_quiet_step (exact KeptW.calls_same (unless_any _ _ _))
  iterate 2 (go_big_quiet_step (fail))
  go_big_quiet_step (exact KeptW.calls (CheckPeriod_any _ _ _ _))
  iterate 2 (go_big_quiet_step (fail))
  go_big_quiet_step (exact KeptW.calls_same (CMinute_any _ _))
  iterate 3
    iterate 2 (go_big_quiet_step (fail))
    go_big_quiet_step (exact KeptW.calls_same (checkRange_any _ _ _ _))
  refine wpQuiet_nil ?_
  rintro _ ⟨x, rfl⟩
  have hbx := b_then hb0 x.below
  clear k0 k1 k2 k3 k4 k5 k6 k7 k8 k9 k10 k11 k12 hb0
  go_wp2_with fail
  refine (fe_new [_, _, _, _, _, _, _, _, _, _, _, _] _ _ _ _ _ rfl rfl (by simp)).mono ?_
  rintro e2 w2 ⟨rfl, hw⟩
  have hb2 : Below w.heap.size w w2 := by rw [hw]; exact b_then hbx (below_alloc _ _)
  clear hw
  go_wp2_with fail
  go_ret
  exact ⟨by rw [HE.out]; rfl, hb2⟩
end Go.Proofs.YtphoclgibnhjfaaGreat
namespace Go.Proofs.YtphoclgibnhjfaaGreat
open Go Go.RowKit Go.ChangeMaps Go.MapKept
theorem reqName_any (q : ReqV) (w : World) : Calls Tryz.prog 124 #[.agg q.cells] w fun r w' => r = .returned (.string q.name) ∧ Below w.heap.size w w' := by
  obtain ⟨W, HW, hb0, R⟩ := req_new w q 84
  obtain ⟨name, carrier, kind, terminal, partner, link, a, b, d, m, s, z, n⟩ := q
  obtain ⟨c0, c1, c2, c3, c4, c5, c6, c7, c8, c9, c10, c11, c12⟩ := R
  simp only [ReqV.cells] at *
  clear c1 c2 c3 c4 c5 c6 c7 c8 c9 c10 c11 c12
  go_enter Tryz.func124, Tryz.ntmps124
  go_wp2_with fail
  rw [HW.out]
  go_wp2_with fail
  go_ret
  exact ⟨rfl, hb0⟩
theorem gb_but {a c : World} (h : a.grownBy c none) (row : Option Nat) : a.grownBy c row := ⟨h.os, h.tape, h.output, h.size, fun i hi _ => h.block i hi (by simp)⟩
theorem gb_trans {a b c : World} {row : Option Nat} (h : a.grownBy b row) (k : b.grownBy c row) : a.grownBy c row :=
  ⟨k.os.trans h.os, k.tape.trans h.tape, k.output.trans h.output, Nat.le_trans h.size k.size, fun i hi hne => (k.block i (Nat.lt_of_lt_of_le hi h.size) hne).trans (h.block i hi hne)⟩
theorem gb_cell {w w' : World} {r : Nat} (h : w.grownBy w' (some r)) {b o : Nat} {v : Value} (hc : w.cell? ⟨b, o, none⟩ = some v) (hne : b ≠ r) : w'.cell? ⟨b, o, none⟩ = some v := by
  rw [World.cell?_of_block (h.block b (cell_in hc) (by simpa using hne))]; exact hc
/-- The four cells of the closure of check.Named, and the strings that were seen. -/
structure NamedW (w : World) (c1 c2 c3 cm m n : Nat) (S : ByteArray → Bool) : Prop where
  f1 : w.cell? ⟨c1, 0, none⟩ = some (.func (.func 125) #[] #[])
  f2 : w.cell? ⟨c2, 0, none⟩ = some (.func (.func 205) #[] #[.pointer (some ⟨cm, 0, none⟩)])
  f3 : w.cell? ⟨c3, 0, none⟩ = some (.func (.func 124) #[] #[])
  f4 : w.cell? ⟨cm, 0, none⟩ = some (.map (some m))
  seen : SeenM w m n S
  n1 : c1 ≠ m
  n2 : c2 ≠ m
  n3 : c3 ≠ m
  n4 : cm ≠ m
set_option maxRecDepth 100000 in
theorem named1_any (c1 c2 c3 cm m n : Nat) (S : ByteArray → Bool) (q : ReqV) (w : World) (h : NamedW w c1 c2 c3 cm m n S) (hq : q.name.size ≤ maxLen) (hn : n < 1000) :
    Calls Tryz.prog 178 #[.agg q.cells, .pointer (some ⟨c1, 0, none⟩), .pointer (some ⟨c2, 0, none⟩), .pointer (some ⟨c3, 0, none⟩)] w
      fun e w' => e = .returned (.int .i64 (fst [reqErr q, unl (!(S q.name)) 9])) ∧ SeenM w' m (n + 1) (onceStep S q.name) ∧ w.grownBy w' (some m) := by
  obtain ⟨W, HW, hb0, R⟩ := req_new w q 84
  obtain ⟨f1, f2, f3, f4, hS, n1, n2, n3, n4⟩ := h
  have g1 := b_old hb0 f1
  have g2 := b_old hb0 f2
  have g3 := b_old hb0 f3
  have g4 := b_old hb0 f4
  have HSW := Lib.hid (hS.below hb0)
  clear f1 f2 f3 f4 hS
  have HQ : Hid (q = q) := Lib.hid rfl
  generalize hr : reqErr q = re
  have hcall : ∀ w : World, Calls Tryz.prog 125 #[.agg q.cells] w fun r w' => r = .returned (.int .i64 re) ∧ Below w.heap.size w w' := fun w => hr ▸ CheckRequest_any q w
  have hname := reqName_any q
  obtain ⟨name, carrier, kind, terminal, partner, link, a, b, d, m', s, z, n'⟩ := q
  obtain ⟨r0, r1, r2, r3, r4, r5, r6, r7, r8, r9, r10, r11, r12⟩ := R
  simp only [ReqV.cells] at *
  have k0 : ∀ x : KeptW W, x.v.cell? ⟨w.heap.size, 0, none⟩ = _ := fun x => x.cell r0
  have k1 : ∀ x : KeptW W, x.v.cell? ⟨w.heap.size, 1, none⟩ = _ := fun x => x.cell r1
  have k2 : ∀ x : KeptW W, x.v.cell? ⟨w.heap.size, 2, none⟩ = _ := fun x => x.cell r2
  have k3 : ∀ x : KeptW W, x.v.cell? ⟨w.heap.size, 3, none⟩ = _ := fun x => x.cell r3
  have k4 : ∀ x : KeptW W, x.v.cell? ⟨w.heap.size, 4, none⟩ = _ := fun x => x.cell r4
  have k5 : ∀ x : KeptW W, x.v.cell? ⟨w.heap.size, 5, none⟩ = _ := fun x => x.cell r5
  have k6 : ∀ x : KeptW W, x.v.cell? ⟨w.heap.size, 6, none⟩ = _ := fun x => x.cell r6
  have k7 : ∀ x : KeptW W, x.v.cell? ⟨w.heap.size, 7, none⟩ = _ := fun x => x.cell r7
  have k8 : ∀ x : KeptW W, x.v.cell? ⟨w.heap.size, 8, none⟩ = _ := fun x => x.cell r8
  have k9 : ∀ x : KeptW W, x.v.cell? ⟨w.heap.size, 9, none⟩ = _ := fun x => x.cell r9
  have k10 : ∀ x : KeptW W, x.v.cell? ⟨w.heap.size, 10, none⟩ = _ := fun x => x.cell r10
  have k11 : ∀ x : KeptW W, x.v.cell? ⟨w.heap.size, 11, none⟩ = _ := fun x => x.cell r11
  have k12 : ∀ x : KeptW W, x.v.cell? ⟨w.heap.size, 12, none⟩ = _ := fun x => x.cell r12
  have j1 : ∀ x : KeptW W, x.v.cell? ⟨c1, 0, none⟩ = _ := fun x => x.cell g1
  have j2 : ∀ x : KeptW W, x.v.cell? ⟨c2, 0, none⟩ = _ := fun x => x.cell g2
  have j3 : ∀ x : KeptW W, x.v.cell? ⟨c3, 0, none⟩ = _ := fun x => x.cell g3
  have hne : Nonempty (KeptW W) := ⟨⟨W, Below.refl _ _⟩⟩
  clear r0 r1 r2 r3 r4 r5 r6 r7 r8 r9 r10 r11 r12 g1 g2 g3
  go_enter Tryz.func178, Tryz.ntmps178
  go_wp2_with fail
  rw [HW.out]
  refine tail_kept 7 (by kernel_rfl) (by kernel_rfl) ?_
  simp only [List.take_succ_cons, List.take_zero, List.drop_succ_cons, List.drop_zero]
  iterate 2 (go_big_quiet_step (fail))
  go_big_quiet_step (exact KeptW.calls (hcall _))
  iterate 3 (go_big_quiet_step (fail))
  go_big_quiet_step (exact KeptW.calls (hname _))
  refine wpQuiet_nil ?_
  rintro _ ⟨x, rfl⟩
  have hbx := b_then hb0 x.below
  have hSx : SeenM x.v m n S := HSW.out.below x.below
  have g4x := x.cell g4
  clear k0 k1 k2 k3 k4 k5 k6 k7 k8 k9 k10 k11 k12 j1 j2 j3 hcall hname HSW g4
  go_wp2_with fail
  refine (once_any cm m n S name x.v g4x hSx hq hn).mono ?_
  rintro e1 w1 ⟨rfl, hS1, hg1⟩
  have hgw : w.grownBy w1 (some m) := gb_trans (gb_but (grown_below hbx) _) hg1
  clear hSx g4x hg1
  go_wp2_with fail
  refine (fe_new [_, _] _ _ _ _ _ rfl rfl (by simp)).mono ?_
  rintro e2 w2 ⟨rfl, hw⟩
  go_wp2_with fail
  go_ret
  subst hw
  exact ⟨rfl, hS1.below (below_alloc _ _), gb_trans hgw (gb_but (grown_below (below_alloc _ _)) _)⟩
end Go.Proofs.YtphoclgibnhjfaaGreat
namespace Go.Proofs.YtphoclgibnhjfaaGreat
open Go Go.RowKit Go.ChangeMaps Go.MapKept
open Go.Maps (Keyed)
theorem wpList_insert_own {H : Type} {P : Program} (w : World) {ops : Array Oper} {rest : List Oper} {o : Oper} {a : Act} {Q : Exit → Act → World → Prop}
    (hg : o.guard = none) (m x v : Operand) (t : TypeId) (hop : o.op = Op.insert t m x v)
    (k e : TypeId) (K : Keyed P k) (ht : P.underlying t = some (.map k e)) (R : Value → Option (DataW H × List MemPlace)) (b n : Nat) (D : DataW H)
    (hm : a.eval m = .map (some b)) (hown : w.ownsMap P k R b n D) (hn : n < maxLen) (key val : Value) (kl : Lit) (hx : a.eval x = key) (hv : a.eval v = val) (hkey : keyOf P k key = some kl)
    (d : DataW H) (ps : List MemPlace) (hval : R val = some (d, ps))
    (hK : ∀ w', w'.ownsMap P k R b (n + 1) (D.put kl d) → w.grownBy w' (some b) → wpList P ops Q rest (a.put o.dst undef) w') :
    wpList P ops Q (o :: rest) a w := by
  refine wpList_plain hg fun K' hK' => ?_
  obtain ⟨w', hrun, r1, r2⟩ := hown.update K ht hn hkey hval
  unfold Oper.wp
  simp [execOp, hop, hm, hx, hv, hrun, Result.andThen]
  exact hK' _ _ (hK w' r1 r2)
/-- The kind of messages that may have an action, or no bytes. -/
def actK (s : List UInt8) : List UInt8 :=
  if s = [88] then [65, 78, 83] else if s = [85] then [65, 78, 83] else if s = [79] then [65, 78, 83] else if s = [75] then [65, 78, 83]
  else if s = [68] then [82, 69, 81] else if s = [82] then [82, 69, 81] else if s = [67] then [82, 69, 81] else if s = [72] then [82, 69, 81] else if s = [78] then [82, 69, 81] else []
def asksB (s : List UInt8) : Bool := [78] == s || ([72] == s || ([67] == s || ([82] == s || ([68] == s))))
def repliesB (s : List UInt8) : Bool := [75] == s || ([79] == s || ([85] == s || ([88] == s)))
def actB (s : List UInt8) : Bool := asksB s || repliesB s
theorem put_at {D : DataW Unit} (hm : Go.Maps.IsMap D) (k s : List UInt8) (d z : DataW Unit) : (D.put (.string k) d).atKey (.string s) z = if s = k then d else D.atKey (.string s) z := by
  by_cases e : s = k
  · subst e; rw [if_pos rfl]; exact Go.Maps.atKey_put_same hm (by simp [WideAt.IsKeyLit]) _ _
  · rw [if_neg e, Go.Maps.atKey_put_other (fun h => e (by injection h))]
theorem put_has {D : DataW Unit} (hm : Go.Maps.IsMap D) (k s : List UInt8) (d : DataW Unit) : Go.Maps.has (D.put (.string k) d) (.string s) = if s = k then true else Go.Maps.has D (.string s) := by
  by_cases e : s = k
  · subst e; rw [if_pos rfl]; exact Go.Maps.has_put_same hm (by simp [WideAt.IsKeyLit]) _
  · rw [if_neg e, Go.Maps.has_put_other (fun h => e (by injection h))]
/-- Block b is a map that has the kinds of all actions. -/
structure KindsM (w : World) (b : Nat) : Prop where
  ex : ∃ D : DataW Unit, w.ownsMap Tryz.prog 9 (plainElem Tryz.prog 9) b 9 D ∧ ∀ s : List UInt8, D.atKey (.string s) (.lit (.string [])) = .lit (.string (actK s)) ∧ Go.Maps.has D (.string s) = actB s
theorem zeroS (w : World) : (zeroValue 9).run Tryz.prog w = .ok (.string ⟨#[]⟩) w := by kernel_rfl
theorem elemS {s : ByteArray} (h : s.size ≤ maxLen) : plainElem (H := Unit) Tryz.prog 9 (.string s) = some (.lit (.string s.data.toList), []) := plainElem_string Tryz.underlying9 h
theorem elemS_inv {v : Value} {z : List UInt8} {ps : List MemPlace} (h : plainElem (H := Unit) Tryz.prog 9 v = some (.lit (.string z), ps)) : v = .string ⟨z.toArray⟩ := by
  unfold plainElem at h
  split at h
  · rename_i hu; rw [Tryz.underlying9] at hu; cases hu
  · rename_i hu; rw [Tryz.underlying9] at hu; cases hu
  · split at h
    · simp only [Option.some.injEq, Prod.mk.injEq, DataW.lit.injEq, Lit.string.injEq] at h
      rw [← h.1]
    · cases h
  · cases h
theorem KindsM.below {w w' : World} {b : Nat} (h : KindsM w b) (hb : Below w.heap.size w w') : KindsM w' b := by
  obtain ⟨D, hown, hat⟩ := h.ex
  exact ⟨⟨D, hown.kept (grown_below hb) (by simp), hat⟩⟩
theorem KindsM.look {w : World} {b : Nat} (h : KindsM w b) {s : ByteArray} (hs : s.size ≤ maxLen) :
    (Instr.lookup 184 (.map (some b)) (.string s) false).run Tryz.prog w = .ok (.string ⟨(actK s.data.toList).toArray⟩) w := by
  obtain ⟨D, hown, hat⟩ := h.ex
  obtain ⟨v, ps, hrun, hv⟩ := hown.lookup keyStr Tryz.underlying184 (zeroS _) (elemS (by decide)) (key := .string s) (Go.WideMaps.keyOf_string_mk Tryz.underlying9 hs)
  rw [(hat s.data.toList).1] at hv
  rw [← elemS_inv hv]
  exact hrun
theorem KindsM.lookOk {w : World} {b : Nat} (h : KindsM w b) {s : ByteArray} (hs : s.size ≤ maxLen) :
    (Instr.lookup 184 (.map (some b)) (.string s) true).run Tryz.prog w = .ok (.tuple #[.string ⟨(actK s.data.toList).toArray⟩, .bool (actB s.data.toList)]) w := by
  obtain ⟨D, hown, hat⟩ := h.ex
  obtain ⟨v, ps, hrun, hv⟩ := hown.look_ok keyStr Tryz.underlying184 (zeroS _) (elemS (by decide)) (key := .string s) (Go.WideMaps.keyOf_string_mk Tryz.underlying9 hs)
  rw [(hat s.data.toList).1] at hv
  rw [← elemS_inv hv, ← (hat s.data.toList).2]
  exact hrun
theorem kinds_put {w : World} {b : Nat} {D : DataW Unit} (h : w.ownsMap Tryz.prog 9 (plainElem Tryz.prog 9) b 9 D)
    (e : D = (((((((((DataW.map []).put (.string [78]) (.lit (.string [82, 69, 81]))).put (.string [72]) (.lit (.string [82, 69, 81]))).put (.string [67]) (.lit (.string [82, 69, 81]))).put (.string [82]) (.lit (.string [82, 69, 81]))).put (.string [68]) (.lit (.string [82, 69, 81]))).put (.string [75]) (.lit (.string [65, 78, 83]))).put (.string [79]) (.lit (.string [65, 78, 83]))).put (.string [85]) (.lit (.string [65, 78, 83]))).put (.string [88]) (.lit (.string [65, 78, 83]))) : KindsM w b := by
  refine ⟨⟨D, h, fun s => ?_⟩⟩
  subst e
  have m0 : Go.Maps.IsMap (DataW.map [] : DataW Unit) := Go.Maps.isMap_empty
  have m1 := m0.put (.string [78]) (.lit (.string [82, 69, 81]))
  have m2 := m1.put (.string [72]) (.lit (.string [82, 69, 81]))
  have m3 := m2.put (.string [67]) (.lit (.string [82, 69, 81]))
  have m4 := m3.put (.string [82]) (.lit (.string [82, 69, 81]))
  have m5 := m4.put (.string [68]) (.lit (.string [82, 69, 81]))
  have m6 := m5.put (.string [75]) (.lit (.string [65, 78, 83]))
  have m7 := m6.put (.string [79]) (.lit (.string [65, 78, 83]))
  have m8 := m7.put (.string [85]) (.lit (.string [65, 78, 83]))
  rw [put_at m8, put_at m7, put_at m6, put_at m5, put_at m4, put_at m3, put_at m2, put_at m1, put_at m0, put_has m8, put_has m7, put_has m6, put_has m5, put_has m4, put_has m3, put_has m2, put_has m1, put_has m0]
  by_cases h1 : s = [88]
  · subst h1; exact ⟨rfl, rfl⟩
  by_cases h2 : s = [85]
  · subst h2; exact ⟨rfl, rfl⟩
  by_cases h3 : s = [79]
  · subst h3; exact ⟨rfl, rfl⟩
  by_cases h4 : s = [75]
  · subst h4; exact ⟨rfl, rfl⟩
  by_cases h5 : s = [68]
  · subst h5; exact ⟨rfl, rfl⟩
  by_cases h6 : s = [82]
  · subst h6; exact ⟨rfl, rfl⟩
  by_cases h7 : s = [67]
  · subst h7; exact ⟨rfl, rfl⟩
  by_cases h8 : s = [72]
  · subst h8; exact ⟨rfl, rfl⟩
  by_cases h9 : s = [78]
  · subst h9; exact ⟨rfl, rfl⟩
  have n : ∀ c : UInt8, s ≠ [c] → (([c] : List UInt8) == s) = false := fun c h => beq_eq_false_iff_ne.2 (fun e => h e.symm)
  simp only [actK, actB, asksB, repliesB, if_neg h1, if_neg h2, if_neg h3, if_neg h4, if_neg h5, if_neg h6, if_neg h7, if_neg h8, if_neg h9, n _ h1, n _ h2, n _ h3, n _ h4, n _ h5, n _ h6, n _ h7, n _ h8, n _ h9]
  exact ⟨rfl, rfl⟩
set_option maxRecDepth 100000 in
set_option maxHeartbeats 1000000 in
theorem kinds_new (w : World) : Calls Tryz.prog 111 #[] w fun e w' => e = .returned (.map (some w.heap.size)) ∧ KindsM w' w.heap.size ∧ Below w.heap.size w w' := by
  have hmm := @run_makeMap Tryz.prog
  have hown0 : (w.alloc (.map #[] 0)).ownsMap (H := Unit) Tryz.prog 9 (plainElem Tryz.prog 9) w.heap.size 0 (.map []) := World.ownsMap_made w _ _ _
  have hg0 := below_alloc w (.map #[] 0)
  have hlast : ∀ w' : World, (w.alloc (.map #[] 0)).grownBy w' (some w.heap.size) → Below w.heap.size w w' := fun w' hg => hg0.grown hg (by simp) (by rintro k ⟨⟩; exact Nat.le_refl _)
  go_enter Tryz.func111, Tryz.ntmps111
  go_wp2_with (refine wpList_insert_own _ rfl _ _ _ 184 rfl 9 9 keyStr Tryz.underlying184 _ w.heap.size 0 _ rfl hown0 (by unfold maxLen; omega) _ _ _ rfl rfl (Go.WideMaps.keyOf_string_mk Tryz.underlying9 (by decide)) _ [] (elemS (by decide)) ?_)
  intro w1 hown1 hg1
  clear hown0
  go_wp2_with (refine wpList_insert_own _ rfl _ _ _ 184 rfl 9 9 keyStr Tryz.underlying184 _ w.heap.size 1 _ rfl hown1 (by unfold maxLen; omega) _ _ _ rfl rfl (Go.WideMaps.keyOf_string_mk Tryz.underlying9 (by decide)) _ [] (elemS (by decide)) ?_)
  intro w2 hown2 hg2
  have hg2 := gb_trans hg1 hg2
  clear hown1 hg1
  go_wp2_with (refine wpList_insert_own _ rfl _ _ _ 184 rfl 9 9 keyStr Tryz.underlying184 _ w.heap.size 2 _ rfl hown2 (by unfold maxLen; omega) _ _ _ rfl rfl (Go.WideMaps.keyOf_string_mk Tryz.underlying9 (by decide)) _ [] (elemS (by decide)) ?_)
  intro w3 hown3 hg3
  have hg3 := gb_trans hg2 hg3
  clear hown2 hg2
  go_wp2_with (refine wpList_insert_own _ rfl _ _ _ 184 rfl 9 9 keyStr Tryz.underlying184 _ w.heap.size 3 _ rfl hown3 (by unfold maxLen; omega) _ _ _ rfl rfl (Go.WideMaps.keyOf_string_mk Tryz.underlying9 (by decide)) _ [] (elemS (by decide)) ?_)
  intro w4 hown4 hg4
  have hg4 := gb_trans hg3 hg4
  clear hown3 hg3
  go_wp2_with (refine wpList_insert_own _ rfl _ _ _ 184 rfl 9 9 keyStr Tryz.underlying184 _ w.heap.size 4 _ rfl hown4 (by unfold maxLen; omega) _ _ _ rfl rfl (Go.WideMaps.keyOf_string_mk Tryz.underlying9 (by decide)) _ [] (elemS (by decide)) ?_)
  intro w5 hown5 hg5
  have hg5 := gb_trans hg4 hg5
  clear hown4 hg4
  go_wp2_with (refine wpList_insert_own _ rfl _ _ _ 184 rfl 9 9 keyStr Tryz.underlying184 _ w.heap.size 5 _ rfl hown5 (by unfold maxLen; omega) _ _ _ rfl rfl (Go.WideMaps.keyOf_string_mk Tryz.underlying9 (by decide)) _ [] (elemS (by decide)) ?_)
  intro w6 hown6 hg6
  have hg6 := gb_trans hg5 hg6
  clear hown5 hg5
  go_wp2_with (refine wpList_insert_own _ rfl _ _ _ 184 rfl 9 9 keyStr Tryz.underlying184 _ w.heap.size 6 _ rfl hown6 (by unfold maxLen; omega) _ _ _ rfl rfl (Go.WideMaps.keyOf_string_mk Tryz.underlying9 (by decide)) _ [] (elemS (by decide)) ?_)
  intro w7 hown7 hg7
  have hg7 := gb_trans hg6 hg7
  clear hown6 hg6
  go_wp2_with (refine wpList_insert_own _ rfl _ _ _ 184 rfl 9 9 keyStr Tryz.underlying184 _ w.heap.size 7 _ rfl hown7 (by unfold maxLen; omega) _ _ _ rfl rfl (Go.WideMaps.keyOf_string_mk Tryz.underlying9 (by decide)) _ [] (elemS (by decide)) ?_)
  intro w8 hown8 hg8
  have hg8 := gb_trans hg7 hg8
  clear hown7 hg7
  go_wp2_with (refine wpList_insert_own _ rfl _ _ _ 184 rfl 9 9 keyStr Tryz.underlying184 _ w.heap.size 8 _ rfl hown8 (by unfold maxLen; omega) _ _ _ rfl rfl (Go.WideMaps.keyOf_string_mk Tryz.underlying9 (by decide)) _ [] (elemS (by decide)) ?_)
  intro w9 hown9 hg9
  have hg9 := gb_trans hg8 hg9
  clear hown8 hg8
  have hk := kinds_put hown9 rfl
  have hb := hlast _ hg9
  clear hown9 hg9 hlast hg0
  go_wp2_with fail
  go_ret
  exact ⟨rfl, hk, hb⟩
/-- A word is one of a list. -/
def wordIn : List ByteArray → ByteArray → Bool
  | [], _ => false
  | x :: r, s => x.toList == s.toList || wordIn r s
theorem wordIn_drop (l : List ByteArray) (s : ByteArray) (k : Nat) (h : k < l.length) (q : ByteArray) (hq : l[k]? = some q) : wordIn (l.drop k) s = (q.toList == s.toList || wordIn (l.drop (k + 1)) s) := by
  rw [List.drop_eq_getElem_cons h]
  rw [List.getElem?_eq_getElem h] at hq
  cases hq
  rfl
set_option maxRecDepth 100000 in
theorem hasWord_any (l : List ByteArray) (s : ByteArray) (b c : Nat) (w : World) (hc : ∀ (k : Nat) s', l[k]? = some s' → w.cell? ⟨b, k, none⟩ = some (.string s')) (hn : l.length ≤ 100) :
    Calls Tryz.prog 174 #[.slice (some ⟨b, 0, none⟩) l.length c, .string s] w fun e w' => e = .returned (.bool (wordIn l s)) ∧ w' = w := by
  have HC := Lib.hid hc
  clear hc
  go_enter Tryz.func174, Tryz.ntmps174
  go_wp2_with fail
  go_loopw [5] (fun i wr => ∃ (k : Nat), k ≤ l.length ∧ i = .int .i64 k ∧ Hid (wordIn l s = wordIn (l.drop k) s) ∧ wr = w) (fun i _ => l.length - (intOf i).toNat)
  case atStart => exact ⟨0, Nat.zero_le _, rfl, Lib.hid (by simp), rfl⟩
  case round =>
    obtain ⟨k, hk, rfl, HF, rfl⟩ := hrel
    by_cases hlt : k < l.length
    · obtain ⟨q, hq⟩ : ∃ q, l[k]? = some q := ⟨_, List.getElem?_eq_getElem hlt⟩
      have hd := wordIn_drop l s k hlt q hq
      have x0 := HC.out k q hq
      have HD := Lib.hid hd
      clear hd hq
      cases hp : (q.toList == s.toList)
      · rw [hp] at HD
        go_wp2_with fail
        go_round
        case rel => exact ⟨k + 1, by omega, by go_num, Lib.hid (by rw [HF.out, HD.out]; rfl), trivial⟩
        case measure => simp [intOf]; omega
      · rw [hp] at HD
        have HE := Lib.hid (show wordIn l s = true by rw [HF.out, HD.out]; rfl)
        go_wp2_with fail
        go_ret
        exact ⟨by rw [HE.out]; rfl, rfl⟩
    · have HE := Lib.hid (show wordIn l s = false by rw [HF.out, List.drop_of_length_le (by omega)]; rfl)
      go_wp2_with fail
      go_ret
      exact ⟨by rw [HE.out]; rfl, rfl⟩
theorem isAction_any (s : ByteArray) (hs : s.size ≤ maxLen) (w : World) : Calls Tryz.prog 138 #[.string s] w fun e w' => e = .returned (.bool (actB s.data.toList)) ∧ Below w.heap.size w w' := by
  have hk := kinds_new w
  go_enter Tryz.func138, Tryz.ntmps138
  go_wp2_with fail
  refine hk.mono ?_
  rintro e w1 ⟨rfl, hm, hb⟩
  have hl := hm.lookOk hs
  clear hk
  go_wp2_with fail
  go_ret
  exact ⟨rfl, hb⟩
set_option maxRecDepth 100000 in
set_option maxHeartbeats 1000000 in
theorem asks_any (s : ByteArray) (w : World) : Calls Tryz.prog 118 #[.string s] w fun e w' => e = .returned (.bool (asksB s.data.toList)) ∧ Below w.heap.size w w' := by
  have hh := fun (w : World) hc => hasWord_any [⟨#[78]⟩, ⟨#[72]⟩, ⟨#[67]⟩, ⟨#[82]⟩, ⟨#[68]⟩] s w.heap.size 5 (w.alloc (.cells #[.string ⟨#[78]⟩, .string ⟨#[72]⟩, .string ⟨#[67]⟩, .string ⟨#[82]⟩, .string ⟨#[68]⟩] 9)) hc (by decide)
  go_enter Tryz.func118, Tryz.ntmps118
  go_wp2_with fail
  refine (hh _ (fun k s' hk => cell_fresh _ _ _ _ _ (by match k, hk with | 0, hk | 1, hk | 2, hk | 3, hk | 4, hk => cases hk; rfl))).mono ?_
  rintro e w1 ⟨rfl, hw⟩
  have hb := below_alloc w (.cells #[.string ⟨#[78]⟩, .string ⟨#[72]⟩, .string ⟨#[67]⟩, .string ⟨#[82]⟩, .string ⟨#[68]⟩] 9)
  rw [hw]
  clear hw hh
  go_wp2_with fail
  go_ret
  exact ⟨by simp [asksB, wordIn, ByteArray.toList_eq], hb⟩
set_option maxRecDepth 100000 in
set_option maxHeartbeats 1000000 in
theorem replies_any (s : ByteArray) (w : World) : Calls Tryz.prog 172 #[.string s] w fun e w' => e = .returned (.bool (repliesB s.data.toList)) ∧ Below w.heap.size w w' := by
  have hh := fun (w : World) hc => hasWord_any [⟨#[75]⟩, ⟨#[79]⟩, ⟨#[85]⟩, ⟨#[88]⟩] s w.heap.size 4 (w.alloc (.cells #[.string ⟨#[75]⟩, .string ⟨#[79]⟩, .string ⟨#[85]⟩, .string ⟨#[88]⟩] 9)) hc (by decide)
  go_enter Tryz.func172, Tryz.ntmps172
  go_wp2_with fail
  refine (hh _ (fun k s' hk => cell_fresh _ _ _ _ _ (by match k, hk with | 0, hk | 1, hk | 2, hk | 3, hk => cases hk; rfl))).mono ?_
  rintro e w1 ⟨rfl, hw⟩
  have hb := below_alloc w (.cells #[.string ⟨#[75]⟩, .string ⟨#[79]⟩, .string ⟨#[85]⟩, .string ⟨#[88]⟩] 9)
  rw [hw]
  clear hw hh
  go_wp2_with fail
  go_ret
  exact ⟨by simp [repliesB, wordIn, ByteArray.toList_eq], hb⟩
end Go.Proofs.YtphoclgibnhjfaaGreat
namespace Go.Proofs.YtphoclgibnhjfaaGreat
open Go Go.RowKit
theorem hRange_any (n a b : Int) (w : World) :
    Calls Tryz.prog 129 #[.int .i64 n, .int .i64 a, .int .i64 b] w fun r w' => r = .returned (.int .i64 (rng n a b)) ∧ w' = w := by
  by_cases h1 : n < a
  · have H : Hid (rng n a b = 3) := Lib.hid (by unfold rng; rw [if_neg (by omega)])
    go_enter Tryz.func129, Tryz.ntmps129
    go_wp2_with fail
    go_ret
    exact ⟨by rw [H.out]; rfl, rfl⟩
  · by_cases h2 : b < n
    · have H : Hid (rng n a b = 3) := Lib.hid (by unfold rng; rw [if_neg (by omega)])
      go_enter Tryz.func129, Tryz.ntmps129
      go_wp2_with fail
      go_ret
      exact ⟨by rw [H.out]; rfl, rfl⟩
    · have H : Hid (rng n a b = 0) := Lib.hid (by unfold rng; rw [if_pos (by omega)])
      go_enter Tryz.func129, Tryz.ntmps129
      go_wp2_with fail
      go_ret
      exact ⟨by rw [H.out]; rfl, rfl⟩
theorem hDay_any (d : Int) (w : World) :
    Calls Tryz.prog 83 #[.int .i64 d] w fun r w' => r = .returned (.int .i64 (rng d 0 99999)) ∧ w' = w := by
  go_enter Tryz.func83, Tryz.ntmps83
  go_wp2_with (go_at_call 129; refine (hRange_any _ _ _ _).mono ?_; rintro e w' ⟨rfl, rfl⟩)
  go_ret
  exact ⟨rfl, rfl⟩
theorem hPer_eq (a b m : Int) :
    perErr a b m = if ¬ (0 ≤ a ∧ a ≤ 99999) then 3 else if ¬ (0 ≤ b ∧ b ≤ 99999) then 3 else if b < a then 11 else if 400 < b - a then 4 else rng m 1 127 := by
  unfold perErr
  by_cases h1 : 0 ≤ a ∧ a ≤ 99999
  · rw [if_neg (by simpa using h1)]
    by_cases h2 : 0 ≤ b ∧ b ≤ 99999
    · rw [if_neg (by simpa using h2), rng_ok h1.1 h1.2, rng_ok h2.1 h2.2]
      have hw : wrap64 (b - a) = b - a := by unfold wrap64; omega
      rw [hw]
      by_cases h3 : b < a
      · rw [if_pos h3, decide_eq_false (by omega)]
        simp [fst, unl]
      · rw [if_neg h3, decide_eq_true (by omega)]
        by_cases h4 : 400 < b - a
        · rw [if_pos h4, decide_eq_false (by omega)]
          simp [fst, unl]
        · rw [if_neg h4, decide_eq_true (by omega)]
          simp only [fst, unl, if_true]
          by_cases h5 : rng m 1 127 = 0
          · simp [h5]
          · simp [h5]
    · rw [if_pos (by simpa using h2), rng_ok h1.1 h1.2, rng_bad h2]
      simp [fst]
  · rw [if_pos (by simpa using h1), rng_bad h1]
    simp [fst]
set_option maxRecDepth 100000 in
theorem hPeriod_any (a b m : Int) (w : World) :
    Calls Tryz.prog 128 #[.agg #[.int .i64 a, .int .i64 b, .int .i64 m]] w fun r w' => r = .returned (.int .i64 (perErr a b m)) ∧ Below w.heap.size w w' := by
  obtain ⟨W, HW, hb0, hc0, hc1, hc2⟩ : ∃ W, Hid (w.alloc (.cells #[.int .i64 a, .int .i64 b, .int .i64 m] 82) = W) ∧ Below w.heap.size w W ∧ W.cell? ⟨w.heap.size, 0, none⟩ = some (.int .i64 a) ∧ W.cell? ⟨w.heap.size, 1, none⟩ = some (.int .i64 b) ∧ W.cell? ⟨w.heap.size, 2, none⟩ = some (.int .i64 m) := ⟨_, Lib.hid rfl, below_alloc w _, by simp, by simp, by simp⟩
  have HP := Lib.hid (hPer_eq a b m)
  by_cases h1 : 0 ≤ a ∧ a ≤ 99999
  · have RA : Hid (rng a 0 99999 = 0) := Lib.hid (rng_ok h1.1 h1.2)
    by_cases h2 : 0 ≤ b ∧ b ≤ 99999
    · have RB : Hid (rng b 0 99999 = 0) := Lib.hid (rng_ok h2.1 h2.2)
      by_cases h3 : b < a
      · have HQ : Hid (perErr a b m = 11) := Lib.hid (by rw [HP.out, if_neg (by simpa using h1), if_neg (by simpa using h2), if_pos h3])
        go_enter Tryz.func128, Tryz.ntmps128
        go_wp2_with fail
        rw [HW.out]
        refine (hDay_any _ _).mono ?_
        rintro e w2 ⟨rfl, hw⟩
        rw [hw, RA.out]
        clear hw
        go_wp2_with fail
        refine (hDay_any _ _).mono ?_
        rintro e w2 ⟨rfl, hw⟩
        rw [hw, RB.out]
        clear hw
        go_wp2_with fail
        go_ret
        exact ⟨by rw [HQ.out]; rfl, hb0⟩
      · by_cases h4 : 400 < b - a
        · have HQ : Hid (perErr a b m = 4) := Lib.hid (by rw [HP.out, if_neg (by simpa using h1), if_neg (by simpa using h2), if_neg h3, if_pos h4])
          go_enter Tryz.func128, Tryz.ntmps128
          go_wp2_with fail
          rw [HW.out]
          refine (hDay_any _ _).mono ?_
          rintro e w2 ⟨rfl, hw⟩
          rw [hw, RA.out]
          clear hw
          go_wp2_with fail
          refine (hDay_any _ _).mono ?_
          rintro e w2 ⟨rfl, hw⟩
          rw [hw, RB.out]
          clear hw
          go_wp2_with fail
          go_ret
          exact ⟨by rw [HQ.out]; rfl, hb0⟩
        · have HQ : Hid (perErr a b m = rng m 1 127) := Lib.hid (by rw [HP.out, if_neg (by simpa using h1), if_neg (by simpa using h2), if_neg h3, if_neg h4])
          go_enter Tryz.func128, Tryz.ntmps128
          go_wp2_with fail
          rw [HW.out]
          refine (hDay_any _ _).mono ?_
          rintro e w2 ⟨rfl, hw⟩
          rw [hw, RA.out]
          clear hw
          go_wp2_with fail
          refine (hDay_any _ _).mono ?_
          rintro e w2 ⟨rfl, hw⟩
          rw [hw, RB.out]
          clear hw
          go_wp2_with fail
          refine (hRange_any _ _ _ _).mono ?_
          rintro e w2 ⟨rfl, hw⟩
          rw [hw]
          clear hw
          go_wp2_with fail
          go_ret
          exact ⟨by rw [HQ.out]; rfl, hb0⟩
    · have RB : Hid (rng b 0 99999 = 3) := Lib.hid (rng_bad h2)
      have HQ : Hid (perErr a b m = 3) := Lib.hid (by rw [HP.out, if_neg (by simpa using h1), if_pos h2])
      go_enter Tryz.func128, Tryz.ntmps128
      go_wp2_with fail
      rw [HW.out]
      refine (hDay_any _ _).mono ?_
      rintro e w2 ⟨rfl, hw⟩
      rw [hw, RA.out]
      clear hw
      go_wp2_with fail
      refine (hDay_any _ _).mono ?_
      rintro e w2 ⟨rfl, hw⟩
      rw [hw, RB.out]
      clear hw
      go_wp2_with fail
      go_ret
      exact ⟨by rw [HQ.out]; rfl, hb0⟩
  · have RA : Hid (rng a 0 99999 = 3) := Lib.hid (rng_bad h1)
    have HQ : Hid (perErr a b m = 3) := Lib.hid (by rw [HP.out, if_pos h1])
    go_enter Tryz.func128, Tryz.ntmps128
    go_wp2_with fail
    rw [HW.out]
    refine (hDay_any _ _).mono ?_
    rintro e w2 ⟨rfl, hw⟩
    rw [hw, RA.out]
    clear hw
    go_wp2_with fail
    go_ret
    exact ⟨by rw [HQ.out]; rfl, hb0⟩
end Go.Proofs.YtphoclgibnhjfaaGreat
namespace Go.Proofs.YtphoclgibnhjfaaGreat
open Go Go.RowKit
/-- How the reference's test of a byte goes. -/
inductive NC (i : Nat) (c : Int) : Bool → Prop
  | low (h1 : decide (97 ≤ c) = true) (h2 : decide (c ≤ 122) = true) : NC i c true
  | up (h1 : decide (97 ≤ c) = false) (h3 : decide (65 ≤ c) = true) (h4 : decide (c ≤ 90) = true) : NC i c true
  | head1 (h : ((i : Int) == 0) = true) (h1 : decide (97 ≤ c) = true) (h2 : decide (c ≤ 122) = false) (h3 : decide (65 ≤ c) = true) (h4 : decide (c ≤ 90) = false) : NC i c false
  | head2 (h : ((i : Int) == 0) = true) (h1 : decide (97 ≤ c) = false) (h3 : decide (65 ≤ c) = true) (h4 : decide (c ≤ 90) = false) : NC i c false
  | head3 (h : ((i : Int) == 0) = true) (h1 : decide (97 ≤ c) = false) (h3 : decide (65 ≤ c) = false) : NC i c false
  | high (h : ((i : Int) == 0) = false) (h1 : decide (97 ≤ c) = true) (h2 : decide (c ≤ 122) = false) (h3 : decide (65 ≤ c) = true) (h4 : decide (c ≤ 90) = false) (h9 : (c != 95) = true) (h5 : decide (c < 48) = false) (h6 : decide (57 < c) = true) : NC i c false
  | line (h : ((i : Int) == 0) = false) (h1 : decide (97 ≤ c) = false) (h3 : decide (65 ≤ c) = true) (h4 : decide (c ≤ 90) = false) (h9 : (c != 95) = false) : NC i c true
  | mid (h : ((i : Int) == 0) = false) (h1 : decide (97 ≤ c) = false) (h3 : decide (65 ≤ c) = true) (h4 : decide (c ≤ 90) = false) (h9 : (c != 95) = true) (h5 : decide (c < 48) = false) (h6 : decide (57 < c) = true) : NC i c false
  | less (h : ((i : Int) == 0) = false) (h1 : decide (97 ≤ c) = false) (h3 : decide (65 ≤ c) = false) (h9 : (c != 95) = true) (h5 : decide (c < 48) = true) : NC i c false
  | gap (h : ((i : Int) == 0) = false) (h1 : decide (97 ≤ c) = false) (h3 : decide (65 ≤ c) = false) (h9 : (c != 95) = true) (h5 : decide (c < 48) = false) (h6 : decide (57 < c) = true) : NC i c false
  | digit (h : ((i : Int) == 0) = false) (h1 : decide (97 ≤ c) = false) (h3 : decide (65 ≤ c) = false) (h9 : (c != 95) = true) (h5 : decide (c < 48) = false) (h6 : decide (57 < c) = false) : NC i c true
theorem nc_of (i c : Nat) : NC i (c : Int) (nameC i c) := by
  have e : ∀ b, (b = nameC i c) → NC i (c : Int) b → NC i (c : Int) (nameC i c) := fun b h k => h ▸ k
  have z1 : i = 0 → ((i : Int) == 0) = true := fun h => by simp [h]
  have z0 : i ≠ 0 → ((i : Int) == 0) = false := fun h => by rw [beq_eq_false_iff_ne]; omega
  have n1 : c ≠ 95 → ((c : Int) != 95) = true := fun h => by rw [bne_iff_ne]; omega
  by_cases h1 : 97 ≤ c
  · by_cases h2 : c ≤ 122
    · exact e _ (by unfold nameC letN; rw [decide_eq_true (show (97 : Int) ≤ c by omega), decide_eq_true (show (c : Int) ≤ 122 by omega)]; simp) (.low (decide_eq_true (by omega)) (decide_eq_true (by omega)))
    · by_cases h : i = 0
      · exact e _ (by unfold nameC letN; rw [decide_eq_false (show ¬ (c : Int) ≤ 122 by omega), decide_eq_false (show ¬ (c : Int) ≤ 90 by omega)]; simp [h]) (.head1 (z1 h) (decide_eq_true (by omega)) (decide_eq_false (by omega)) (decide_eq_true (by omega)) (decide_eq_false (by omega)))
      · exact e _ (by unfold nameC letN digN; rw [decide_eq_false (show ¬ (c : Int) ≤ 122 by omega), decide_eq_false (show ¬ (c : Int) ≤ 90 by omega), decide_eq_false (show ¬ (c : Int) ≤ 57 by omega), decide_eq_false (show ¬ c = 95 by omega)]; simp) (.high (z0 h) (decide_eq_true (by omega)) (decide_eq_false (by omega)) (decide_eq_true (by omega)) (decide_eq_false (by omega)) (n1 (by omega)) (decide_eq_false (by omega)) (decide_eq_true (by omega)))
  · by_cases h3 : 65 ≤ c
    · by_cases h4 : c ≤ 90
      · exact e _ (by unfold nameC letN; rw [decide_eq_true (show (65 : Int) ≤ c by omega), decide_eq_true (show (c : Int) ≤ 90 by omega)]; simp) (.up (decide_eq_false (by omega)) (decide_eq_true (by omega)) (decide_eq_true (by omega)))
      · by_cases h : i = 0
        · exact e _ (by unfold nameC letN; rw [decide_eq_false (show ¬ (97 : Int) ≤ c by omega), decide_eq_false (show ¬ (c : Int) ≤ 90 by omega)]; simp [h]) (.head2 (z1 h) (decide_eq_false (by omega)) (decide_eq_true (by omega)) (decide_eq_false (by omega)))
        · by_cases h5 : c = 95
          · exact e _ (by unfold nameC; rw [decide_eq_true h5, decide_eq_true h]; simp) (.line (z0 h) (decide_eq_false (by omega)) (decide_eq_true (by omega)) (decide_eq_false (by omega)) (by simp [h5]))
          · exact e _ (by unfold nameC letN digN; rw [decide_eq_false (show ¬ (97 : Int) ≤ c by omega), decide_eq_false (show ¬ (c : Int) ≤ 90 by omega), decide_eq_false (show ¬ (c : Int) ≤ 57 by omega), decide_eq_false h5]; simp) (.mid (z0 h) (decide_eq_false (by omega)) (decide_eq_true (by omega)) (decide_eq_false (by omega)) (n1 h5) (decide_eq_false (by omega)) (decide_eq_true (by omega)))
    · by_cases h : i = 0
      · exact e _ (by unfold nameC letN; rw [decide_eq_false (show ¬ (97 : Int) ≤ c by omega), decide_eq_false (show ¬ (65 : Int) ≤ c by omega)]; simp [h]) (.head3 (z1 h) (decide_eq_false (by omega)) (decide_eq_false (by omega)))
      · by_cases h5 : c < 48
        · exact e _ (by unfold nameC letN digN; rw [decide_eq_false (show ¬ (97 : Int) ≤ c by omega), decide_eq_false (show ¬ (65 : Int) ≤ c by omega), decide_eq_false (show ¬ (48 : Int) ≤ c by omega), decide_eq_false (show ¬ c = 95 by omega)]; simp) (.less (z0 h) (decide_eq_false (by omega)) (decide_eq_false (by omega)) (n1 (by omega)) (decide_eq_true (by omega)))
        · by_cases h6 : c ≤ 57
          · exact e _ (by unfold nameC digN; rw [decide_eq_true (show (48 : Int) ≤ c by omega), decide_eq_true (show (c : Int) ≤ 57 by omega), decide_eq_true h]; simp) (.digit (z0 h) (decide_eq_false (by omega)) (decide_eq_false (by omega)) (n1 (by omega)) (decide_eq_false (by omega)) (decide_eq_false (by omega)))
          · exact e _ (by unfold nameC letN digN; rw [decide_eq_false (show ¬ (97 : Int) ≤ c by omega), decide_eq_false (show ¬ (65 : Int) ≤ c by omega), decide_eq_false (show ¬ (c : Int) ≤ 57 by omega), decide_eq_false (show ¬ c = 95 by omega)]; simp) (.gap (z0 h) (decide_eq_false (by omega)) (decide_eq_false (by omega)) (n1 (by omega)) (decide_eq_false (by omega)) (decide_eq_true (by omega)))
set_option maxRecDepth 100000 in
set_option maxHeartbeats 2000000 in
theorem qIsName_any (s : ByteArray) (w : World) :
    Calls Tryz.prog 81 #[.string s] w fun e w' => e = .returned (.bool (decide (isName s))) ∧ Below w.heap.size w w' := by
  by_cases h0 : s.size = 0
  · have HN : Hid (decide (isName s) = false) := Lib.hid (decide_eq_false fun h => h.1 h0)
    have hb : ((s.size : Int) == 0) = true := by simp [h0]
    clear h0
    go_enter Tryz.func81, Tryz.ntmps81
    go_wp2_with fail
    go_ret
    exact ⟨by rw [HN.out]; rfl, Below.refl _ _⟩
  · have hb : ((s.size : Int) == 0) = false := by rw [beq_eq_false_iff_ne]; omega
    by_cases h24 : s.size ≤ 24
    · have hb2 : decide ((24 : Int) < s.size) = false := decide_eq_false (by omega)
      have HS : Hid (s.size ≠ 0 ∧ s.size ≤ 24) := Lib.hid ⟨h0, h24⟩
      clear h0
      go_enter Tryz.func81, Tryz.ntmps81
      go_wp2_with fail
      go_loop [3] (fun i => ∃ pos : Nat, pos ≤ s.size ∧ i = .int .i64 pos ∧ Hid (∀ i, i < pos → nameC i (byteAt s i) = true)) (fun i => s.size - (intOf i).toNat)
      case atStart => exact ⟨0, Nat.zero_le _, rfl, Lib.hid (fun i hi => absurd hi (Nat.not_lt_zero _))⟩
      case round =>
        obtain ⟨pos, hps, rfl, HP⟩ := hrel
        by_cases hp : pos < s.size
        · have hnc := nc_of pos (byteAt s pos)
          have HOK : Hid (nameC pos (byteAt s pos) = true → ∀ i, i < pos + 1 → nameC i (byteAt s i) = true) := Lib.hid (fun hok i hi => by
            rcases Nat.lt_or_ge i pos with h | h
            · exact HP.out i h
            · obtain rfl : i = pos := by omega
              exact hok)
          have HBD : Hid (nameC pos (byteAt s pos) = false → decide (isName s) = false) := Lib.hid (fun h => name_bad hp h)
          generalize nameC pos (byteAt s pos) = bb at *
          rw [byteAt_eq hp] at hnc
          cases hnc
          all_goals
            first
            | (have HB := Lib.hid (HBD.out rfl)
               clear HBD HOK
               go_wp2_with fail
               go_ret
               exact ⟨by rw [HB.out]; rfl, Below.refl _ _⟩)
            | (have HP2 := Lib.hid (HOK.out rfl)
               clear HBD HOK
               go_wp2_with fail
               go_round
               case rel => exact ⟨pos + 1, by omega, by go_num, HP2⟩
               case measure => simp [intOf]; omega)
        · obtain rfl : pos = s.size := by omega
          have HB : Hid (decide (isName s) = true) := Lib.hid (decide_eq_true ⟨HS.out.1, HS.out.2, HP.out⟩)
          go_wp2_with fail
          go_ret
          exact ⟨by rw [HB.out]; rfl, Below.refl _ _⟩
    · have HN : Hid (decide (isName s) = false) := Lib.hid (decide_eq_false fun h => h24 h.2.1)
      have hb2 : decide ((24 : Int) < s.size) = true := decide_eq_true (by omega)
      clear h24 h0
      go_enter Tryz.func81, Tryz.ntmps81
      go_wp2_with fail
      go_ret
      exact ⟨by rw [HN.out]; rfl, Below.refl _ _⟩
end Go.Proofs.YtphoclgibnhjfaaGreat
namespace Go.Proofs.YtphoclgibnhjfaaGreat
open Go Go.RowKit
theorem qFirst_any (es : List Int) (b c : Nat) (w : World) (hc : ∀ i, i < es.length → w.cell? ⟨b, i, none⟩ = some (.int .i64 (es.getD i 0))) (hl : es.length ≤ 100) :
    Calls Tryz.prog 26 #[.slice (some ⟨b, 0, none⟩) es.length c] w fun r w' => r = .returned (.int .i64 (fst es)) ∧ w' = w := by
  have HC := Lib.hid hc
  clear hc
  go_enter Tryz.func26, Tryz.ntmps26
  go_wp2
  go_loop [3] (fun i => ∃ k : Nat, k ≤ es.length ∧ i = .int .i64 k ∧ Hid (fst es = fst (es.drop k))) (fun i => es.length - (intOf i).toNat)
  case atStart => exact ⟨0, Nat.zero_le _, rfl, Lib.hid (by simp)⟩
  case round =>
    obtain ⟨k, hk, rfl, HF⟩ := hrel
    by_cases hlt : k < es.length
    · have hcell := HC.out k hlt
      have hd := fst_drop es k hlt
      by_cases hz : es.getD k 0 = 0
      · have HD := Lib.hid hd; clear hd
        have HZ := Lib.hid hz
        rw [hz] at hcell
        clear hz
        go_wp2
        go_round
        case rel => exact ⟨k + 1, by omega, by go_num, Lib.hid (by rw [HF.out, HD.out, if_pos HZ.out])⟩
        case measure => simp [intOf]; omega
      · have HD := Lib.hid (show fst es = es.getD k 0 by rw [HF.out, hd, if_neg hz]); clear hd
        generalize es.getD k 0 = x at *
        have hb : (x != 0) = true := by simpa using hz
        clear hz
        go_wp2
        go_ret
        exact ⟨by rw [HD.out]; rfl, rfl⟩
    · have HD := Lib.hid (show fst es = 0 by rw [HF.out, List.drop_of_length_le (by omega)]; rfl)
      go_wp2
      go_ret
      exact ⟨by rw [HD.out]; rfl, rfl⟩
end Go.Proofs.YtphoclgibnhjfaaGreat
namespace Go.Proofs.YtphoclgibnhjfaaGreat
open Go Go.RowKit Go.ChangeMaps Go.MapKept
theorem store_func (w : World) (a : Addr) (m : Mode) (fn : Fn) (first captured : Array Value) : (store a (.func fn first captured) m).run Tryz.prog w = stored Tryz.prog w a (.func fn first captured) m := run_store Tryz.prog w a _ m rfl
instance : Inhabited ReqV := ⟨⟨ByteArray.empty, ByteArray.empty, ByteArray.empty, ByteArray.empty, ByteArray.empty, ByteArray.empty, 0, 0, 0, 0, 0, 0, 0⟩⟩
/-- The cells of a slice of requests. -/
structure RqsAt (w : World) (b off : Nat) (l : List ReqV) : Prop where
  c : ∀ k, k < l.length → ∀ t v, (l.getD k default).cells[t]? = some v → w.cell? ⟨b, off + k * 13 + t, none⟩ = some v
theorem RqsAt.below {w w' : World} {b off : Nat} {l : List ReqV} (h : RqsAt w b off l) (hb : Below w.heap.size w w') : RqsAt w' b off l := ⟨fun k hk t v hv => b_old hb (h.c k hk t v hv)⟩
theorem RqsAt.grown {w w' : World} {b off : Nat} {l : List ReqV} {r : Nat} (h : RqsAt w b off l) (hg : w.grownBy w' (some r)) (hne : b ≠ r) : RqsAt w' b off l := ⟨fun k hk t v hv => gb_cell hg (h.c k hk t v hv) hne⟩
theorem RqsAt.row {w : World} {b off : Nat} {l : List ReqV} (h : RqsAt w b off l) {k : Nat} (hk : k < l.length) {q : ReqV} (hq : l.getD k default = q) :
    w.cell? ⟨b, off + k * 13, none⟩ = some (.string q.name) ∧ w.cell? ⟨b, off + k * 13 + 1, none⟩ = some (.string q.carrier) ∧ w.cell? ⟨b, off + k * 13 + 2, none⟩ = some (.string q.kind) ∧ w.cell? ⟨b, off + k * 13 + 3, none⟩ = some (.string q.terminal) ∧ w.cell? ⟨b, off + k * 13 + 4, none⟩ = some (.string q.partner) ∧ w.cell? ⟨b, off + k * 13 + 5, none⟩ = some (.string q.link) ∧ w.cell? ⟨b, off + k * 13 + 6, none⟩ = some (.int .i64 q.from_) ∧ w.cell? ⟨b, off + k * 13 + 7, none⟩ = some (.int .i64 q.to) ∧ w.cell? ⟨b, off + k * 13 + 8, none⟩ = some (.int .i64 q.days) ∧ w.cell? ⟨b, off + k * 13 + 9, none⟩ = some (.int .i64 q.minute) ∧ w.cell? ⟨b, off + k * 13 + 10, none⟩ = some (.int .i64 q.seats) ∧ w.cell? ⟨b, off + k * 13 + 11, none⟩ = some (.int .i64 q.size) ∧ w.cell? ⟨b, off + k * 13 + 12, none⟩ = some (.int .i64 q.noise) := by
  subst hq
  exact ⟨h.c k hk 0 _ rfl, h.c k hk 1 _ rfl, h.c k hk 2 _ rfl, h.c k hk 3 _ rfl, h.c k hk 4 _ rfl, h.c k hk 5 _ rfl, h.c k hk 6 _ rfl, h.c k hk 7 _ rfl, h.c k hk 8 _ rfl, h.c k hk 9 _ rfl, h.c k hk 10 _ rfl, h.c k hk 11 _ rfl, h.c k hk 12 _ rfl⟩
theorem NamedW.grown {w w' : World} {c1 c2 c3 cm m n n' : Nat} {S S' : ByteArray → Bool} (h : NamedW w c1 c2 c3 cm m n S) (hg : w.grownBy w' (some m)) (hS : SeenM w' m n' S') : NamedW w' c1 c2 c3 cm m n' S' :=
  ⟨gb_cell hg h.f1 h.n1, gb_cell hg h.f2 h.n2, gb_cell hg h.f3 h.n3, gb_cell hg h.f4 h.n4, hS, h.n1, h.n2, h.n3, h.n4⟩
theorem NamedW.below {w w' : World} {c1 c2 c3 cm m n : Nat} {S : ByteArray → Bool} (h : NamedW w c1 c2 c3 cm m n S) (hb : Below w.heap.size w w') : NamedW w' c1 c2 c3 cm m n S :=
  h.grown (gb_but (grown_below hb) _) (h.seen.below hb)
/-- The first error of requests, with the names that were seen before them. -/
def namedErr : List ReqV → (ByteArray → Bool) → Int
  | [], _ => 0
  | q :: r, S => if fst [reqErr q, unl (!(S q.name)) 9] ≠ 0 then fst [reqErr q, unl (!(S q.name)) 9] else namedErr r (onceStep S q.name)
theorem namedErr_drop (l : List ReqV) (k : Nat) (h : k < l.length) (S : ByteArray → Bool) (q : ReqV) (hq : l.getD k default = q) :
    namedErr (l.drop k) S = if fst [reqErr q, unl (!(S q.name)) 9] ≠ 0 then fst [reqErr q, unl (!(S q.name)) 9] else namedErr (l.drop (k + 1)) (onceStep S q.name) := by
  subst hq
  rw [List.drop_eq_getElem_cons h]
  simp only [List.getD_eq_getElem?_getD, List.getElem?_eq_getElem h, Option.getD_some]
  rfl
theorem reqList_many (A : Option Addr) (n cap : Nat) (most : Int) (f : Value) (w : World) (h : most < (n : Int)) :
    Calls Tryz.prog 177 #[.slice A n cap, .int .i64 most, f] w fun e w' => e = .returned (.int .i64 5) ∧ w' = w := by
  go_enter Tryz.func177, Tryz.ntmps177
  go_wp2_with fail
  go_ret
  exact ⟨rfl, rfl⟩
set_option maxRecDepth 100000 in
set_option maxHeartbeats 2000000 in
theorem reqList_any (c1 c2 c3 cm m : Nat) (S : ByteArray → Bool) (l : List ReqV) (b off cap : Nat) (most : Int) (w : World) (h : NamedW w c1 c2 c3 cm m 0 S) (hl : RqsAt w b off l) (hbm : b ≠ m) (hn : (l.length : Int) ≤ most) (hm : most ≤ 900)
    (hs : ∀ k, k < l.length → (l.getD k default).name.size ≤ maxLen) :
    Calls Tryz.prog 177 #[.slice (some ⟨b, off, none⟩) l.length cap, .int .i64 most, .func (.func 178) #[] #[.pointer (some ⟨c1, 0, none⟩), .pointer (some ⟨c2, 0, none⟩), .pointer (some ⟨c3, 0, none⟩)]] w
      fun e w' => e = .returned (.int .i64 (namedErr l S)) ∧ w.grownBy w' (some m) := by
  have hgt : ¬ (most < (l.length : Int)) := by omega
  have HN := Lib.hid h
  have HL := Lib.hid hl
  have HS := Lib.hid hs
  clear h hl hs
  have hlen : l.length ≤ 900 := by omega
  go_enter Tryz.func177, Tryz.ntmps177
  go_wp2_with fail
  go_loopw [16] (fun i wr => ∃ (k : Nat) (T : ByteArray → Bool), k ≤ l.length ∧ i = .int .i64 k ∧ Hid (namedErr l S = namedErr (l.drop k) T) ∧ Hid (NamedW wr c1 c2 c3 cm m k T) ∧ Hid (RqsAt wr b off l) ∧ Hid (w.grownBy wr (some m))) (fun i _ => l.length - (intOf i).toNat)
  case atStart => exact ⟨0, S, Nat.zero_le _, rfl, Lib.hid (by simp), HN, HL, Lib.hid (World.grownBy.refl _ _)⟩
  case round =>
    obtain ⟨k, T, hk, rfl, HF, HNW, HQ, HG⟩ := hrel
    by_cases hlt : k < l.length
    · have hd := namedErr_drop l k hlt T _ rfl
      have hsz := HS.out k hlt
      have hrow := HQ.out.row hlt rfl
      generalize l.getD k default = q at hd hsz hrow
      have hcall : ∀ w1 : World, NamedW w1 c1 c2 c3 cm m k T → Calls Tryz.prog 178 #[.agg q.cells, .pointer (some ⟨c1, 0, none⟩), .pointer (some ⟨c2, 0, none⟩), .pointer (some ⟨c3, 0, none⟩)] w1
          fun e w' => e = .returned (.int .i64 (fst [reqErr q, unl (!(T q.name)) 9])) ∧ SeenM w' m (k + 1) (onceStep T q.name) ∧ w1.grownBy w' (some m) := fun w1 h1 => named1_any c1 c2 c3 cm m k T q w1 h1 hsz (by omega)
      generalize fst [reqErr q, unl (!(T q.name)) 9] = e at hd hcall
      generalize onceStep T q.name = T' at hd hcall
      have HD := Lib.hid hd
      clear hd
      obtain ⟨qa, qb, qc, qd, qe, qf, qg, qh, qi, qj, qk, ql, qm⟩ := q
      dsimp only [ReqV.cells] at hcall hrow
      obtain ⟨x0, x1, x2, x3, x4, x5, x6, x7, x8, x9, x10, x11, x12⟩ := hrow
      go_wp2_with fail
      refine (hcall _ (HNW.out.below (below_alloc _ _))).mono ?_
      rintro e1 w1 ⟨rfl, hS1, hg1⟩
      have HN1 : Hid (NamedW w1 c1 c2 c3 cm m (k + 1) T') := Lib.hid ((HNW.out.below (below_alloc _ _)).grown hg1 hS1)
      have hg2 : wr.grownBy w1 (some m) := gb_trans (gb_but (grown_below (below_alloc _ _)) _) hg1
      have HG1 : Hid (w.grownBy w1 (some m)) := Lib.hid (gb_trans HG.out hg2)
      have HQ1 : Hid (RqsAt w1 b off l) := Lib.hid (HQ.out.grown hg2 hbm)
      clear x0 x1 x2 x3 x4 x5 x6 x7 x8 x9 x10 x11 x12 hg1 hg2 hS1 hcall
      by_cases he : e = 0
      · subst he
        go_wp2_with fail
        go_round
        case rel => exact ⟨k + 1, T', by omega, by go_num, Lib.hid (by rw [HF.out, HD.out, if_neg (by simp)]), HN1, HQ1, HG1⟩
        case measure => simp [intOf]; omega
      · have hb : (e != 0) = true := by simpa using he
        have HE := Lib.hid (show namedErr l S = e by rw [HF.out, HD.out, if_pos he])
        clear he
        go_wp2_with fail
        go_ret
        exact ⟨by rw [HE.out]; rfl, HG1.out⟩
    · have HE := Lib.hid (show namedErr l S = 0 by rw [HF.out, List.drop_of_length_le (by omega)]; rfl)
      go_wp2_with fail
      go_ret
      exact ⟨by rw [HE.out]; rfl, HG.out⟩
set_option maxRecDepth 100000 in
set_option maxHeartbeats 2000000 in
theorem reqNamed_any (l : List ReqV) (b off cap : Nat) (most : Int) (w : World) (hl : RqsAt w b off l) (hbs : b < w.heap.size) (hn : (l.length : Int) ≤ most) (hm : most ≤ 900)
    (hs : ∀ k, k < l.length → (l.getD k default).name.size ≤ maxLen) :
    Calls Tryz.prog 123 #[.slice (some ⟨b, off, none⟩) l.length cap, .int .i64 most, .func (.func 124) #[] #[], .func (.func 125) #[] #[]] w
      fun e w' => e = .returned (.int .i64 (namedErr l fun _ => false)) ∧ Below w.heap.size w w' := by
  have HL := Lib.hid hl
  have HS := Lib.hid hs
  clear hl hs
  go_enter Tryz.func123, Tryz.ntmps123
  go_wp2_with fail
  obtain ⟨W2, HW2, hb2, hs2, x0, x1⟩ : ∃ W2, (w.alloc (.cells #[.func (.func 124) #[] #[]] 197)).alloc (.cells #[.func (.func 125) #[] #[]] 198) = W2 ∧
      Below w.heap.size w W2 ∧ W2.heap.size = w.heap.size + 2 ∧ W2.cell? ⟨w.heap.size, 0, none⟩ = some (.func (.func 124) #[] #[]) ∧ W2.cell? ⟨w.heap.size + 1, 0, none⟩ = some (.func (.func 125) #[] #[]) :=
    ⟨_, rfl, below_alloc2 _ _ _, by simp, b_old (below_alloc _ _) (cell_fresh w [_] _ 0 _ rfl), by have := cell_fresh (w.alloc (.cells #[.func (.func 124) #[] #[]] 197)) [.func (.func 125) #[] #[]] 198 0 (.func (.func 125) #[] #[]) rfl; rw [show (w.alloc (.cells #[.func (.func 124) #[] #[]] 197)).heap.size = w.heap.size + 1 by simp] at this; exact this⟩
  rw [HW2]
  clear HW2
  have hon := Once_new W2
  rw [hs2] at hon
  refine hon.mono ?_
  rintro e1 w1 ⟨rfl, hS1, hcm, hb1, hs1⟩
  clear hon
  have hB1 : Below w.heap.size w w1 := hb2.trans (hb1.mono (by omega))
  have y0 := b_keep hb1 (show w.heap.size < w.heap.size + 2 by omega) x0
  have y1 := b_keep hb1 (show w.heap.size + 1 < w.heap.size + 2 by omega) x1
  have HS1 := Lib.hid hs1
  have hsf := store_func
  clear x0 x1 hb1 hb2 hs1
  go_wp2_with fail
  have hs1 := HS1.out
  have hb3 := below_alloc w1 (.cells #[.func (.func 205) #[] #[.pointer (some ⟨w.heap.size + 2 + 1, 0, none⟩)]] 203)
  have hNW : NamedW (w1.alloc (.cells #[.func (.func 205) #[] #[.pointer (some ⟨w.heap.size + 2 + 1, 0, none⟩)]] 203)) (w.heap.size + 1) w1.heap.size w.heap.size (w.heap.size + 2 + 1) (w.heap.size + 2) 0 (fun _ => false) :=
    ⟨b_old hb3 y1, cell_fresh w1 [_] _ 0 _ rfl, b_old hb3 y0, b_old hb3 hcm, hS1.below hb3, by omega, by omega, by omega, by omega⟩
  have hB3 := hB1.trans (hb3.mono (by omega))
  refine (reqList_any _ _ _ _ _ _ l b off cap most _ hNW (HL.out.below hB3) (by omega) hn hm HS.out).mono ?_
  rintro e2 w2 ⟨rfl, hg⟩
  have hB := hB3.grown hg (by simp; omega) (by rintro k ⟨⟩; omega)
  clear hNW hg hb3
  go_wp2_with fail
  go_ret
  exact ⟨rfl, hB⟩
set_option maxRecDepth 100000 in
theorem reqNamed_many (A : Option Addr) (n cap : Nat) (most : Int) (w : World) (h : most < (n : Int)) :
    Calls Tryz.prog 123 #[.slice A n cap, .int .i64 most, .func (.func 124) #[] #[], .func (.func 125) #[] #[]] w
      fun e w' => e = .returned (.int .i64 5) ∧ Below w.heap.size w w' := by
  go_enter Tryz.func123, Tryz.ntmps123
  go_wp2_with fail
  obtain ⟨W2, HW2, hb2⟩ : ∃ W2, (w.alloc (.cells #[.func (.func 124) #[] #[]] 197)).alloc (.cells #[.func (.func 125) #[] #[]] 198) = W2 ∧
      Below w.heap.size w W2 := ⟨_, rfl, below_alloc2 _ _ _⟩
  rw [HW2]
  clear HW2
  refine (Once_new W2).mono ?_
  rintro e1 w1 ⟨rfl, hS1, hcm, hb1, hs1⟩
  have hB1 := b_then hb2 hb1
  have hsf := store_func
  clear hS1 hcm hb1 hb2 hs1
  go_wp2_with fail
  have hB3 := b_then hB1 (below_alloc w1 (.cells #[.func (.func 205) #[] #[.pointer (some ⟨W2.heap.size + 1, 0, none⟩)]] 203))
  refine (reqList_many _ _ _ _ _ _ h).mono ?_
  rintro e2 w2 ⟨rfl, rfl⟩
  go_wp2_with fail
  go_ret
  exact ⟨rfl, hB3⟩
/-- The error of requests. -/
def reqsErr (l : List ReqV) : Int := if 64 < l.length then 5 else namedErr l fun _ => false
theorem checkReqs_any (l : List ReqV) (b off cap : Nat) (w : World) (hl : RqsAt w b off l) (hbs : b < w.heap.size) (hs : ∀ k, k < l.length → (l.getD k default).name.size ≤ maxLen) :
    Calls Tryz.prog 68 #[.slice (some ⟨b, off, none⟩) l.length cap] w fun e w' => e = .returned (.int .i64 (reqsErr l)) ∧ Below w.heap.size w w' := by
  have hH : Calls Tryz.prog 123 #[.slice (some ⟨b, off, none⟩) l.length cap, .int .i64 64, .func (.func 124) #[] #[], .func (.func 125) #[] #[]] w
      fun e w' => e = .returned (.int .i64 (reqsErr l)) ∧ Below w.heap.size w w' := by
    unfold reqsErr
    by_cases h : 64 < l.length
    · rw [if_pos h]; exact reqNamed_many _ _ _ _ _ (by omega)
    · rw [if_neg h]; exact reqNamed_any l b off cap 64 w hl hbs (by omega) (by omega) hs
  generalize reqsErr l = e at *
  generalize l.length = n at *
  go_enter Tryz.func68, Tryz.ntmps68
  go_wp2_with fail
  refine hH.mono ?_
  rintro e2 w2 ⟨rfl, hb⟩
  go_wp2_with fail
  go_ret
  exact ⟨rfl, hb⟩
end Go.Proofs.YtphoclgibnhjfaaGreat
namespace Go.Proofs.YtphoclgibnhjfaaGreat
open Go Go.RowKit
theorem isOf_any (s : ByteArray) (q : ReqV) (w : World) : Calls Tryz.prog 103 #[.string s, .agg q.cells] w fun r w' => r = .returned (.bool (q.name.toList == s.toList)) ∧ Below w.heap.size w w' := by
  obtain ⟨name, carrier, kind, terminal, partner, link, a, b, d, m, u, z, n⟩ := q
  simp only [ReqV.cells]
  go_enter Tryz.func103, Tryz.ntmps103
  go_wp2_with fail
  go_ret
  exact ⟨rfl, below_alloc _ _⟩
/-- The index of the first request with a name, counted from i, or -1. -/
def findIx (s : ByteArray) : List ReqV → Nat → Int
  | [], _ => -1
  | q :: r, i => if q.name.toList == s.toList then i else findIx s r (i + 1)
theorem findIx_drop (s : ByteArray) (l : List ReqV) (k : Nat) (h : k < l.length) (q : ReqV) (hq : l.getD k default = q) :
    findIx s (l.drop k) k = if q.name.toList == s.toList then (k : Int) else findIx s (l.drop (k + 1)) (k + 1) := by
  subst hq
  rw [List.drop_eq_getElem_cons h]
  simp only [List.getD_eq_getElem?_getD, List.getElem?_eq_getElem h, Option.getD_some]
  rfl
theorem findIx_at (s : ByteArray) : ∀ (l : List ReqV) (i : Nat), findIx s l i = -1 ∨ ∃ k, k < l.length ∧ findIx s l i = ((i + k : Nat) : Int)
  | [], _ => .inl rfl
  | q :: r, i => by
    unfold findIx
    split
    · exact .inr ⟨0, by simp, by simp⟩
    · rcases findIx_at s r (i + 1) with h | ⟨k, hk, h⟩
      · exact .inl h
      · exact .inr ⟨k + 1, by simpa using hk, by rw [h]; congr 1; omega⟩
set_option maxRecDepth 100000 in
set_option maxHeartbeats 2000000 in
theorem indexQ_any (s : ByteArray) (l : List ReqV) (b off cap : Nat) (w : World) (hl : RqsAt w b off l) (hn : l.length ≤ 900) :
    Calls Tryz.prog 69 #[.slice (some ⟨b, off, none⟩) l.length cap, .func (.func 103) #[.string s] #[]] w
      fun e w' => e = .returned (.int .i64 (findIx s l 0)) ∧ Below w.heap.size w w' := by
  have HL := Lib.hid hl
  clear hl
  go_enter Tryz.func69, Tryz.ntmps69
  go_wp2_with fail
  go_loopw [8] (fun i wr => ∃ (k : Nat), k ≤ l.length ∧ i = .int .i64 k ∧ Hid (findIx s l 0 = findIx s (l.drop k) k) ∧ Hid (RqsAt wr b off l) ∧ Hid (Below w.heap.size w wr)) (fun i _ => l.length - (intOf i).toNat)
  case atStart => exact ⟨0, Nat.zero_le _, rfl, Lib.hid (by simp), HL, Lib.hid (Below.refl _ _)⟩
  case round =>
    obtain ⟨k, hk, rfl, HF, HQ, HB⟩ := hrel
    by_cases hlt : k < l.length
    · have hd := findIx_drop s l k hlt _ rfl
      have hrow := HQ.out.row hlt rfl
      generalize l.getD k default = q at hd hrow
      have hcall := isOf_any s q
      generalize (q.name.toList == s.toList) = p at hd hcall
      have HD := Lib.hid hd
      clear hd
      obtain ⟨qa, qb, qc, qd, qe, qf, qg, qh, qi, qj, qk, ql, qm⟩ := q
      dsimp only [ReqV.cells] at hcall hrow
      obtain ⟨x0, x1, x2, x3, x4, x5, x6, x7, x8, x9, x10, x11, x12⟩ := hrow
      go_wp2_with fail
      refine (hcall _).mono ?_
      rintro e1 w1 ⟨rfl, hb1⟩
      have HB1 : Hid (Below w.heap.size w w1) := Lib.hid (b_then HB.out hb1)
      have HQ1 : Hid (RqsAt w1 b off l) := Lib.hid (HQ.out.below hb1)
      clear x0 x1 x2 x3 x4 x5 x6 x7 x8 x9 x10 x11 x12 hb1 hcall
      cases p
      · go_wp2_with fail
        go_round
        case rel => exact ⟨k + 1, by omega, by go_num, Lib.hid (by rw [HF.out, HD.out, if_neg (by simp)]), HQ1, HB1⟩
        case measure => simp [intOf]; omega
      · have HE := Lib.hid (show findIx s l 0 = k by rw [HF.out, HD.out, if_pos rfl])
        go_wp2_with fail
        go_ret
        exact ⟨by rw [HE.out]; rfl, HB1.out⟩
    · have HE := Lib.hid (show findIx s l 0 = -1 by rw [HF.out, List.drop_of_length_le (by omega)]; rfl)
      go_wp2_with fail
      go_ret
      exact ⟨by rw [HE.out]; rfl, HB.out⟩
/-- The request that another one names as its link can be linked with it. -/
def fitsB (q r : ReqV) : Bool := (r.link.toList == q.name.toList) && (!(r.kind.toList == q.kind.toList) && (r.carrier.toList == q.carrier.toList))
set_option maxRecDepth 100000 in
theorem fits_any (q r : ReqV) (w : World) : Calls Tryz.prog 104 #[.agg q.cells, .agg r.cells] w fun e w' => e = .returned (.bool (fitsB q r)) ∧ Below w.heap.size w w' := by
  have HF : Hid (fitsB q r = ((r.link.toList == q.name.toList) && (!(r.kind.toList == q.kind.toList) && (r.carrier.toList == q.carrier.toList)))) := Lib.hid rfl
  obtain ⟨name, carrier, kind, terminal, partner, link, a, b, d, m, u, z, n⟩ := q
  obtain ⟨name', carrier', kind', terminal', partner', link', a', b', d', m', u', z', n'⟩ := r
  simp only [ReqV.cells] at *
  cases h1 : (link'.toList == name.toList)
  · have HG := Lib.hid (HF.out.trans (by rw [h1, Bool.false_and]))
    go_enter Tryz.func104, Tryz.ntmps104
    go_wp2_with fail
    go_ret
    exact ⟨by rw [HG.out]; rfl, below_alloc2 _ _ _⟩
  · cases h2 : (kind'.toList == kind.toList)
    · have HG := Lib.hid (HF.out.trans (by rw [h1, h2, Bool.true_and, Bool.not_false, Bool.true_and]))
      go_enter Tryz.func104, Tryz.ntmps104
      go_wp2_with fail
      go_ret
      exact ⟨by rw [HG.out]; rfl, below_alloc2 _ _ _⟩
    · have HG := Lib.hid (HF.out.trans (by rw [h1, h2, Bool.true_and, Bool.not_true, Bool.false_and]))
      go_enter Tryz.func104, Tryz.ntmps104
      go_wp2_with fail
      go_ret
      exact ⟨by rw [HG.out]; rfl, below_alloc2 _ _ _⟩
end Go.Proofs.YtphoclgibnhjfaaGreat
