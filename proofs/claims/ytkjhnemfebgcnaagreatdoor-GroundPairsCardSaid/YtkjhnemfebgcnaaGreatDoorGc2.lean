/- Contracts of package ground: CheckMovements, for every list. · Contracts of package ground: CheckSeats, one element. · Contracts of package ground: CheckSeats, for every list. · Contracts of package calendar: Day, Date, texts of dates. · Contracts of package calendar: seasons. · Contracts of package ground: nights and quotas; of the reference: the same. · Contracts of package ground: the night of a moment; of the reference: the same. · Contracts of the reference: the night of a moment. · Contracts of the reference: First. · Contracts of the reference: ranges, moments, seasons (for seats without the reference's other functions). · Contracts: NightOf; of the reference: CheckNight, CheckQuota, CheckMoment; of the statement: first, when, quota. · Contracts of the reference: CheckNight, CheckQuota; of the statement: first, when, quota. · Contracts: the reference's IsName. -/
import Derived.Test.YtkjhnemfebgcnaaGreatDoorGc1
namespace Go.Proofs.YtkjhnemfebgcnaaGreatDoor
open Go Go.RowKit Go.ChangeMaps Go.MapKept
set_option maxRecDepth 100000 in
set_option maxHeartbeats 2000000 in
theorem movList_any (l : List MovV) (b off cap : Nat) (most : Int) (w : World) (hl : RowsAt MovV.cells 7 w b off l) (hn : (l.length : Int) ≤ most) (hmo : most ≤ 900) :
    Calls Tryz.prog 92 #[.slice (some ⟨b, off, none⟩) l.length cap, .int .i64 most, .func (.func 93) #[] #[]] w
      fun e w' => e = .returned (.int .i64 (plainErr movE l)) ∧ Below w.heap.size w w' := by
  have HL := Lib.hid hl
  have hgt : ¬ (l.length : Int) > most := by omega
  obtain ⟨R, hR⟩ : ∃ R, R = plainErr movE l := ⟨_, rfl⟩
  rw [← hR]
  have HR := Lib.hid hR
  clear hl hR
  go_enter Tryz.func92, Tryz.ntmps92
  go_wp2_with fail
  go_loopw [8, 9, 16] (fun _ _ v16 wr => ∃ (k : Nat), k ≤ l.length ∧ v16 = .int .i64 k ∧ Hid (R = plainErr movE (l.drop k)) ∧ Hid (Below w.heap.size w wr)) (fun _ _ v16 _ => l.length - (intOf v16).toNat)
  case atStart => exact ⟨0, Nat.zero_le _, rfl, Lib.hid (by rw [HR.out]; rfl), Lib.hid (Below.refl _ _)⟩
  case round =>
    obtain ⟨k, hk, rfl, HD, HG⟩ := hrel
    by_cases hlt : k < l.length
    · have hrow := (HL.out.below HG.out).c k hlt
      have hd := HD.out.trans (plainErr_drop movE l k hlt rfl)
      generalize l.getD k default = x at hrow hd
      have hcall := mov1_any x
      have HDD := Lib.hid hd
      clear hd
      generalize movE x = e at *
      obtain ⟨moment, kind, terminal, seats, size, noise, name⟩ := x
      simp only [MovV.cells] at hrow hcall
      have x0 := hrow 0 _ rfl
      have x1 := hrow 1 _ rfl
      have x2 := hrow 2 _ rfl
      have x3 := hrow 3 _ rfl
      have x4 := hrow 4 _ rfl
      have x5 := hrow 5 _ rfl
      have x6 := hrow 6 _ rfl
      clear hrow
      simp only [Nat.add_zero] at x0
      have HBA := Lib.hid (below_alloc wr (.cells #[.int .i64 moment, .string kind, .string terminal, .int .i64 seats, .int .i64 size, .int .i64 noise, .string name] 50))
      go_wp2_with fail
      refine (hcall _).mono ?_
      rintro e1 w1 ⟨rfl, hb1⟩
      have HG1 : Hid (Below w.heap.size w w1) := Lib.hid (b_then (b_then HG.out HBA.out) hb1)
      clear hcall hb1 x0 x1 x2 x3 x4 x5 x6
      by_cases he : e = 0
      · subst he
        go_wp2_with fail
        go_roundw
        case rel => exact ⟨k + 1, by omega, by go_num, Lib.hid (by rw [HDD.out, if_neg (by simp)]), HG1⟩
        case measure => simp [intOf]; omega
      · have hb : (e != 0) = true := by simpa using he
        have HE := Lib.hid (show R = e by rw [HDD.out, if_pos he])
        go_wp2_with fail
        go_ret
        exact ⟨by rw [HE.out]; rfl, HG1.out⟩
    · have HE := Lib.hid (show R = 0 by rw [HD.out, List.drop_eq_nil_of_le (by omega)]; rfl)
      go_wp2_with fail
      go_ret
      exact ⟨by rw [HE.out]; rfl, HG.out⟩
set_option maxRecDepth 100000 in
theorem movList_many (F : Value) (A : Option Addr) (n cap : Nat) (most : Int) (w : World) (h : most < (n : Int)) :
    Calls Tryz.prog 92 #[.slice A n cap, .int .i64 most, F] w fun e w' => e = .returned (.int .i64 5) ∧ w' = w := by
  have hgt : (n : Int) > most := h
  go_enter Tryz.func92, Tryz.ntmps92
  go_wp2_with fail
  go_ret
  exact ⟨rfl, rfl⟩
set_option maxRecDepth 100000 in
theorem movList_none (F : Value) (A : Option Addr) (cap : Nat) (most : Int) (w : World) (h : 0 ≤ most) :
    Calls Tryz.prog 92 #[.slice A 0 cap, .int .i64 most, F] w fun e w' => e = .returned (.int .i64 0) ∧ w' = w := by
  have hgt : ¬ (0 : Int) > most := by omega
  go_enter Tryz.func92, Tryz.ntmps92
  go_wp2_with fail
  go_loopw [8, 9, 16] (fun _ _ v16 wr => v16 = .int .i64 0 ∧ wr = w) (fun _ _ _ _ => 0)
  case atStart => exact ⟨rfl, rfl⟩
  case round =>
    obtain ⟨rfl, rfl⟩ := hrel
    go_wp2_with fail
    go_ret
    exact ⟨rfl, rfl⟩
def movsErr (l : List MovV) : Int := if 256 < l.length then 5 else plainErr movE l
set_option maxRecDepth 100000 in
theorem CheckMovements_any (l : List MovV) (v : Value) (w0 w : World) (hv : SlArg MovV.cells 7 w0 v l) (hb : Below w0.heap.size w0 w) :
    Calls Tryz.prog 26 #[v] w fun e w' => e = .returned (.int .i64 (movsErr l)) ∧ Below w.heap.size w w' := by
  have key : Calls Tryz.prog 92 #[v, .int .i64 256, .func (.func 93) #[] #[]] w fun e w' => e = .returned (.int .i64 (movsErr l)) ∧ Below w.heap.size w w' := by
    rcases hv with ⟨rfl, A, c, rfl⟩ | ⟨h0, b, off, cap, rfl, hl, hc, hg⟩
    · exact (movList_none _ A c 256 w (by decide)).mono fun e w' ⟨h1, h2⟩ => ⟨h1, h2 ▸ Below.refl _ _⟩
    · by_cases hlen : 256 < l.length
      · refine (movList_many _ _ l.length cap 256 w (by omega)).mono fun e w' ⟨h1, h2⟩ => ⟨?_, h2 ▸ Below.refl _ _⟩
        unfold movsErr
        rw [if_pos hlen]; exact h1
      · refine (movList_any l b off cap 256 w (hl.below hb) (by omega) (by decide)).mono fun e w' ⟨h1, h2⟩ => ⟨?_, h2⟩
        unfold movsErr
        rw [if_neg hlen]; exact h1
  obtain ⟨A, c, rfl⟩ := hv.len
  clear hv hb
  generalize movsErr l = R at *
  generalize l.length = nn at *
  go_enter Tryz.func26, Tryz.ntmps26
  go_wp2_with fail
  refine key.mono ?_
  rintro e2 w2 ⟨rfl, hb2⟩
  go_wp2_with fail
  go_ret
  exact ⟨rfl, hb2⟩
end Go.Proofs.YtkjhnemfebgcnaaGreatDoor
namespace Go.Proofs.YtkjhnemfebgcnaaGreatDoor
open Go Go.RowKit
structure SeatV where
  terminal : ByteArray
  kind : ByteArray
  length : Int
  step : Int
  most : Int
instance : Inhabited SeatV := ⟨⟨ByteArray.empty, ByteArray.empty, 0, 0, 0⟩⟩
def SeatV.cells (x : SeatV) : Array Value := #[.string x.terminal, .string x.kind, .int .i64 x.length, .int .i64 x.step, .int .i64 x.most]
structure SeatW (w : World) (b : Nat) (x : SeatV) : Prop where
  c0 : w.cell? ⟨b, 0, none⟩ = some (.string x.terminal)
  c1 : w.cell? ⟨b, 1, none⟩ = some (.string x.kind)
  c2 : w.cell? ⟨b, 2, none⟩ = some (.int .i64 x.length)
  c3 : w.cell? ⟨b, 3, none⟩ = some (.int .i64 x.step)
  c4 : w.cell? ⟨b, 4, none⟩ = some (.int .i64 x.most)
theorem Seat_new (w : World) (x : SeatV) (T : TypeId) : ∃ W, Hid (w.alloc (.cells x.cells T) = W) ∧ Below w.heap.size w W ∧ SeatW W w.heap.size x := by
  refine ⟨_, Lib.hid rfl, below_alloc w _, ?_⟩
  unfold SeatV.cells
  constructor <;> simp
def seatE (x : SeatV) : Int := fst [termE x.terminal, unl (x.kind.toList == [84] || isKindB x.kind) 13, rng x.length 1 1440, rng x.step 1 x.length, rng x.most 0 999999999]
set_option maxRecDepth 100000 in
set_option maxHeartbeats 1000000 in
theorem seat1_any (x : SeatV) (w : World) :
    Calls Tryz.prog 95 #[.agg x.cells] w fun e w' => e = .returned (.int .i64 (seatE x)) ∧ Below w.heap.size w w' := by
  have HE : Hid (seatE x = fst [termE x.terminal, unl (x.kind.toList == [84] || isKindB x.kind) 13, rng x.length 1 1440, rng x.step 1 x.length, rng x.most 0 999999999]) := Lib.hid rfl
  obtain ⟨W, HW, hb0, R⟩ := Seat_new w x 104
  obtain ⟨terminal, kind, length, step, most⟩ := x
  obtain ⟨r0, r1, r2, r3, r4⟩ := R
  simp only [SeatV.cells] at *
  have k0 : ∀ x : KeptW W, x.v.cell? ⟨w.heap.size, 0, none⟩ = _ := fun x => x.cell r0
  have k1 : ∀ x : KeptW W, x.v.cell? ⟨w.heap.size, 1, none⟩ = _ := fun x => x.cell r1
  have k2 : ∀ x : KeptW W, x.v.cell? ⟨w.heap.size, 2, none⟩ = _ := fun x => x.cell r2
  have k3 : ∀ x : KeptW W, x.v.cell? ⟨w.heap.size, 3, none⟩ = _ := fun x => x.cell r3
  have k4 : ∀ x : KeptW W, x.v.cell? ⟨w.heap.size, 4, none⟩ = _ := fun x => x.cell r4
  have hne : Nonempty (KeptW W) := ⟨⟨W, Below.refl _ _⟩⟩
  clear r0 r1 r2 r3 r4
  cases hbk : (kind.toList == [84])
  · replace HE : Hid (seatE ⟨terminal, kind, length, step, most⟩ = fst [termE terminal, unl (isKindB kind) 13, rng length 1 1440, rng step 1 length, rng most 0 999999999]) := Lib.hid (by rw [HE.out, hbk]; rfl)
    go_enter Tryz.func95, Tryz.ntmps95
    go_wp2_with fail
    rw [HW.out]
    refine tail_kept 23 (by kernel_rfl) (by kernel_rfl) ?_
    simp only [List.take_succ_cons, List.take_zero, List.drop_succ_cons, List.drop_zero]
    iterate 2 (go_big_quiet_step (fail))
    go_big_quiet_step (exact KeptW.calls (gTerm_any _ _))
    iterate 4 (go_big_quiet_step (fail))
    iterate 2 (go_big_quiet_step (fail))
    go_big_quiet_step (exact KeptW.calls_same (CIsKind_any _ _))
    go_big_quiet_step (fail)
    go_big_quiet_step (exact KeptW.calls_same (unless_any _ _ _))
    iterate 2 (go_big_quiet_step (fail))
    go_big_quiet_step (exact KeptW.calls_same (checkRange_any _ _ _ _))
    iterate 4 (go_big_quiet_step (fail))
    go_big_quiet_step (exact KeptW.calls_same (checkRange_any _ _ _ _))
    iterate 2 (go_big_quiet_step (fail))
    go_big_quiet_step (exact KeptW.calls_same (checkRange_any _ _ _ _))
    refine wpQuiet_nil ?_
    rintro _ ⟨x, rfl⟩
    have hbx := b_then hb0 x.below
    clear k0 k1 k2 k3 k4 hb0
    go_wp2_with fail
    refine (fe_new [_, _, _, _, _] _ _ _ _ _ rfl rfl (by simp)).mono ?_
    rintro e2 w2 ⟨rfl, hw⟩
    have hb2 : Below w.heap.size w w2 := by rw [hw]; exact b_then hbx (below_alloc _ _)
    clear hw
    go_wp2_with fail
    go_ret
    exact ⟨by rw [HE.out]; rfl, hb2⟩
  · replace HE : Hid (seatE ⟨terminal, kind, length, step, most⟩ = fst [termE terminal, unl true 13, rng length 1 1440, rng step 1 length, rng most 0 999999999]) := Lib.hid (by rw [HE.out, hbk]; rfl)
    go_enter Tryz.func95, Tryz.ntmps95
    go_wp2_with fail
    rw [HW.out]
    refine tail_kept 23 (by kernel_rfl) (by kernel_rfl) ?_
    simp only [List.take_succ_cons, List.take_zero, List.drop_succ_cons, List.drop_zero]
    iterate 2 (go_big_quiet_step (fail))
    go_big_quiet_step (exact KeptW.calls (gTerm_any _ _))
    iterate 4 (go_big_quiet_step (fail))
    iterate 4 (go_big_quiet_step (fail))
    go_big_quiet_step (exact KeptW.calls_same (unless_any _ _ _))
    iterate 2 (go_big_quiet_step (fail))
    go_big_quiet_step (exact KeptW.calls_same (checkRange_any _ _ _ _))
    iterate 4 (go_big_quiet_step (fail))
    go_big_quiet_step (exact KeptW.calls_same (checkRange_any _ _ _ _))
    iterate 2 (go_big_quiet_step (fail))
    go_big_quiet_step (exact KeptW.calls_same (checkRange_any _ _ _ _))
    refine wpQuiet_nil ?_
    rintro _ ⟨x, rfl⟩
    have hbx := b_then hb0 x.below
    clear k0 k1 k2 k3 k4 hb0
    go_wp2_with fail
    refine (fe_new [_, _, _, _, _] _ _ _ _ _ rfl rfl (by simp)).mono ?_
    rintro e2 w2 ⟨rfl, hw⟩
    have hb2 : Below w.heap.size w w2 := by rw [hw]; exact b_then hbx (below_alloc _ _)
    clear hw
    go_wp2_with fail
    go_ret
    exact ⟨by rw [HE.out]; rfl, hb2⟩
end Go.Proofs.YtkjhnemfebgcnaaGreatDoor
namespace Go.Proofs.YtkjhnemfebgcnaaGreatDoor
open Go Go.RowKit Go.ChangeMaps Go.MapKept
set_option maxRecDepth 100000 in
set_option maxHeartbeats 2000000 in
theorem seatList_any (l : List SeatV) (b off cap : Nat) (most : Int) (w : World) (hl : RowsAt SeatV.cells 5 w b off l) (hn : (l.length : Int) ≤ most) (hmo : most ≤ 900) :
    Calls Tryz.prog 94 #[.slice (some ⟨b, off, none⟩) l.length cap, .int .i64 most, .func (.func 95) #[] #[]] w
      fun e w' => e = .returned (.int .i64 (plainErr seatE l)) ∧ Below w.heap.size w w' := by
  have HL := Lib.hid hl
  have hgt : ¬ (l.length : Int) > most := by omega
  obtain ⟨R, hR⟩ : ∃ R, R = plainErr seatE l := ⟨_, rfl⟩
  rw [← hR]
  have HR := Lib.hid hR
  clear hl hR
  go_enter Tryz.func94, Tryz.ntmps94
  go_wp2_with fail
  go_loopw [8, 9, 16] (fun _ _ v16 wr => ∃ (k : Nat), k ≤ l.length ∧ v16 = .int .i64 k ∧ Hid (R = plainErr seatE (l.drop k)) ∧ Hid (Below w.heap.size w wr)) (fun _ _ v16 _ => l.length - (intOf v16).toNat)
  case atStart => exact ⟨0, Nat.zero_le _, rfl, Lib.hid (by rw [HR.out]; rfl), Lib.hid (Below.refl _ _)⟩
  case round =>
    obtain ⟨k, hk, rfl, HD, HG⟩ := hrel
    by_cases hlt : k < l.length
    · have hrow := (HL.out.below HG.out).c k hlt
      have hd := HD.out.trans (plainErr_drop seatE l k hlt rfl)
      generalize l.getD k default = x at hrow hd
      have hcall := seat1_any x
      have HDD := Lib.hid hd
      clear hd
      generalize seatE x = e at *
      obtain ⟨terminal, kind, length, step, most⟩ := x
      simp only [SeatV.cells] at hrow hcall
      have x0 := hrow 0 _ rfl
      have x1 := hrow 1 _ rfl
      have x2 := hrow 2 _ rfl
      have x3 := hrow 3 _ rfl
      have x4 := hrow 4 _ rfl
      clear hrow
      simp only [Nat.add_zero] at x0
      have HBA := Lib.hid (below_alloc wr (.cells #[.string terminal, .string kind, .int .i64 length, .int .i64 step, .int .i64 most] 104))
      go_wp2_with fail
      refine (hcall _).mono ?_
      rintro e1 w1 ⟨rfl, hb1⟩
      have HG1 : Hid (Below w.heap.size w w1) := Lib.hid (b_then (b_then HG.out HBA.out) hb1)
      clear hcall hb1 x0 x1 x2 x3 x4
      by_cases he : e = 0
      · subst he
        go_wp2_with fail
        go_roundw
        case rel => exact ⟨k + 1, by omega, by go_num, Lib.hid (by rw [HDD.out, if_neg (by simp)]), HG1⟩
        case measure => simp [intOf]; omega
      · have hb : (e != 0) = true := by simpa using he
        have HE := Lib.hid (show R = e by rw [HDD.out, if_pos he])
        go_wp2_with fail
        go_ret
        exact ⟨by rw [HE.out]; rfl, HG1.out⟩
    · have HE := Lib.hid (show R = 0 by rw [HD.out, List.drop_eq_nil_of_le (by omega)]; rfl)
      go_wp2_with fail
      go_ret
      exact ⟨by rw [HE.out]; rfl, HG.out⟩
set_option maxRecDepth 100000 in
theorem seatList_many (F : Value) (A : Option Addr) (n cap : Nat) (most : Int) (w : World) (h : most < (n : Int)) :
    Calls Tryz.prog 94 #[.slice A n cap, .int .i64 most, F] w fun e w' => e = .returned (.int .i64 5) ∧ w' = w := by
  have hgt : (n : Int) > most := h
  go_enter Tryz.func94, Tryz.ntmps94
  go_wp2_with fail
  go_ret
  exact ⟨rfl, rfl⟩
set_option maxRecDepth 100000 in
theorem seatList_none (F : Value) (A : Option Addr) (cap : Nat) (most : Int) (w : World) (h : 0 ≤ most) :
    Calls Tryz.prog 94 #[.slice A 0 cap, .int .i64 most, F] w fun e w' => e = .returned (.int .i64 0) ∧ w' = w := by
  have hgt : ¬ (0 : Int) > most := by omega
  go_enter Tryz.func94, Tryz.ntmps94
  go_wp2_with fail
  go_loopw [8, 9, 16] (fun _ _ v16 wr => v16 = .int .i64 0 ∧ wr = w) (fun _ _ _ _ => 0)
  case atStart => exact ⟨rfl, rfl⟩
  case round =>
    obtain ⟨rfl, rfl⟩ := hrel
    go_wp2_with fail
    go_ret
    exact ⟨rfl, rfl⟩
def seatsErr (l : List SeatV) : Int := if 32 < l.length then 5 else plainErr seatE l
set_option maxRecDepth 100000 in
theorem CheckSeats_any (l : List SeatV) (v : Value) (w0 w : World) (hv : SlArg SeatV.cells 5 w0 v l) (hb : Below w0.heap.size w0 w) :
    Calls Tryz.prog 28 #[v] w fun e w' => e = .returned (.int .i64 (seatsErr l)) ∧ Below w.heap.size w w' := by
  have key : Calls Tryz.prog 94 #[v, .int .i64 32, .func (.func 95) #[] #[]] w fun e w' => e = .returned (.int .i64 (seatsErr l)) ∧ Below w.heap.size w w' := by
    rcases hv with ⟨rfl, A, c, rfl⟩ | ⟨h0, b, off, cap, rfl, hl, hc, hg⟩
    · exact (seatList_none _ A c 32 w (by decide)).mono fun e w' ⟨h1, h2⟩ => ⟨h1, h2 ▸ Below.refl _ _⟩
    · by_cases hlen : 32 < l.length
      · refine (seatList_many _ _ l.length cap 32 w (by omega)).mono fun e w' ⟨h1, h2⟩ => ⟨?_, h2 ▸ Below.refl _ _⟩
        unfold seatsErr
        rw [if_pos hlen]; exact h1
      · refine (seatList_any l b off cap 32 w (hl.below hb) (by omega) (by decide)).mono fun e w' ⟨h1, h2⟩ => ⟨?_, h2⟩
        unfold seatsErr
        rw [if_neg hlen]; exact h1
  obtain ⟨A, c, rfl⟩ := hv.len
  clear hv hb
  generalize seatsErr l = R at *
  generalize l.length = nn at *
  go_enter Tryz.func28, Tryz.ntmps28
  go_wp2_with fail
  refine key.mono ?_
  rintro e2 w2 ⟨rfl, hb2⟩
  go_wp2_with fail
  go_ret
  exact ⟨rfl, hb2⟩
end Go.Proofs.YtkjhnemfebgcnaaGreatDoor
namespace Go.Proofs.YtkjhnemfebgcnaaGreatDoor
open Go.RowKit
def dayIn (y m d : Int) : Int := fst [rng y 2000 2273, rng m 1 12, rng d 1 31]
def dayErr (y m d : Int) : Int :=
  if dayIn y m d ≠ 0 then dayIn y m d
  else if Cal.ml y m.toNat < d ∨ 99999 < Cal.dn y m.toNat d then 7 else 0
theorem rng_zero {n a b : Int} (h : rng n a b = 0) : a ≤ n ∧ n ≤ b := by
  unfold rng at h; split at h
  · assumption
  · omega
theorem fst_cons_zero {x : Int} {l : List Int} (h : fst (x :: l) = 0) : x = 0 ∧ fst l = 0 := by
  by_cases e : x = 0
  · simp [fst, e] at h; exact ⟨e, h⟩
  · simp [fst, e] at h
theorem dayIn_zero {y m d : Int} (h : dayIn y m d = 0) : (2000 ≤ y ∧ y ≤ 2273) ∧ (1 ≤ m ∧ m ≤ 12) ∧ (1 ≤ d ∧ d ≤ 31) := by
  obtain ⟨h1, h⟩ := fst_cons_zero h
  obtain ⟨h2, h⟩ := fst_cons_zero h
  obtain ⟨h3, h⟩ := fst_cons_zero h
  exact ⟨rng_zero h1, rng_zero h2, rng_zero h3⟩

end Go.Proofs.YtkjhnemfebgcnaaGreatDoor
namespace Go.Proofs.YtkjhnemfebgcnaaGreatDoor
open Go.RowKit
def isS (s : ByteArray) : Bool := s.toList == [83]
def isW (s : ByteArray) : Bool := s.toList == [87]
def kindErr (s : ByteArray) : Int := if isS s = true ∨ isW s = true then 0 else 13
def seasonErr (y : Int) (s : ByteArray) : Int := fst [rng y 2000 2272, kindErr s]
set_option maxRecDepth 100000 in
theorem CheckSeason_any (y : Int) (s : ByteArray) (w : World) :
    Calls Tryz.prog 170 #[.agg #[.int .i64 y, .string s]] w fun r w' => r = .returned (.int .i64 (seasonErr y s)) ∧ Below w.heap.size w w' := by
  have hbl : Below w.heap.size w (w.alloc (.cells #[.int .i64 y, .string s] 124)).drew := (below_alloc w _).drew
  cases h1 : (s.toList == [83])
  · cases h2 : (s.toList == [87])
    · have HK : Hid (kindErr s = 13) := Lib.hid (by simp [kindErr, isS, isW, h1, h2])
      go_enter Tryz.func170, Tryz.ntmps170
      go_wp2_with fail
      refine still_tail 12 (by kernel_rfl) (by kernel_rfl) ?_
      simp only [List.take_succ_cons, List.take_zero, List.drop_succ_cons, List.drop_zero]
      repeat (refine wpStill_step (fun K hK => ?_); go_simp; (first | (with_reducible refine hK _ ?_) | (with_reducible refine ⟨_, checkRange_any _ _ _ _, hK _ ?_⟩) | (with_reducible refine ⟨_, unless_t _ _, hK _ ?_⟩) | (with_reducible refine ⟨_, unless_f _ _, hK _ ?_⟩)); clear hK K)
      refine wpStill_nil ?_
      obtain ⟨W, hW⟩ : ∃ W, (w.alloc (.cells #[.int .i64 y, .string s] 124)).drew = W := ⟨_, rfl⟩
      rw [hW] at hbl ⊢
      clear hW
      go_wp2_with fail
      refine (fe_new [_, _] _ _ _ _ _ rfl rfl (by simp)).mono ?_
      rintro e w1 ⟨rfl, hw⟩
      have hbl2 : Below w.heap.size w w1 := by rw [hw]; exact b_then hbl (below_alloc _ _)
      clear hw
      go_wp2_with fail
      go_ret
      exact ⟨ret_int (by unfold seasonErr; rw [HK.out]), hbl2⟩
    · have HK : Hid (kindErr s = 0) := Lib.hid (by simp [kindErr, isW, h2])
      go_enter Tryz.func170, Tryz.ntmps170
      go_wp2_with fail
      refine still_tail 12 (by kernel_rfl) (by kernel_rfl) ?_
      simp only [List.take_succ_cons, List.take_zero, List.drop_succ_cons, List.drop_zero]
      repeat (refine wpStill_step (fun K hK => ?_); go_simp; (first | (with_reducible refine hK _ ?_) | (with_reducible refine ⟨_, checkRange_any _ _ _ _, hK _ ?_⟩) | (with_reducible refine ⟨_, unless_t _ _, hK _ ?_⟩) | (with_reducible refine ⟨_, unless_f _ _, hK _ ?_⟩)); clear hK K)
      refine wpStill_nil ?_
      obtain ⟨W, hW⟩ : ∃ W, (w.alloc (.cells #[.int .i64 y, .string s] 124)).drew = W := ⟨_, rfl⟩
      rw [hW] at hbl ⊢
      clear hW
      go_wp2_with fail
      refine (fe_new [_, _] _ _ _ _ _ rfl rfl (by simp)).mono ?_
      rintro e w1 ⟨rfl, hw⟩
      have hbl2 : Below w.heap.size w w1 := by rw [hw]; exact b_then hbl (below_alloc _ _)
      clear hw
      go_wp2_with fail
      go_ret
      exact ⟨ret_int (by unfold seasonErr; rw [HK.out]), hbl2⟩
  · have HK : Hid (kindErr s = 0) := Lib.hid (by simp [kindErr, isS, h1])
    go_enter Tryz.func170, Tryz.ntmps170
    go_wp2_with fail
    refine still_tail 12 (by kernel_rfl) (by kernel_rfl) ?_
    simp only [List.take_succ_cons, List.take_zero, List.drop_succ_cons, List.drop_zero]
    repeat (refine wpStill_step (fun K hK => ?_); go_simp; (first | (with_reducible refine hK _ ?_) | (with_reducible refine ⟨_, checkRange_any _ _ _ _, hK _ ?_⟩) | (with_reducible refine ⟨_, unless_t _ _, hK _ ?_⟩) | (with_reducible refine ⟨_, unless_f _ _, hK _ ?_⟩)); clear hK K)
    refine wpStill_nil ?_
    obtain ⟨W, hW⟩ : ∃ W, (w.alloc (.cells #[.int .i64 y, .string s] 124)).drew = W := ⟨_, rfl⟩
    rw [hW] at hbl ⊢
    clear hW
    go_wp2_with fail
    refine (fe_new [_, _] _ _ _ _ _ rfl rfl (by simp)).mono ?_
    rintro e w1 ⟨rfl, hw⟩
    have hbl2 : Below w.heap.size w w1 := by rw [hw]; exact b_then hbl (below_alloc _ _)
    clear hw
    go_wp2_with fail
    go_ret
    exact ⟨ret_int (by unfold seasonErr; rw [HK.out]), hbl2⟩

def fDay (y : Int) (s : ByteArray) : Int := Cal.ls y (if isS s = true then 3 else 10)
theorem firstDay_any (y : Int) (s : ByteArray) (w : World) (ht : HeldTab w) (h1 : 2000 ≤ y) (h2 : y ≤ 2300) :
    Calls Tryz.prog 171 #[.agg #[.int .i64 y, .string s]] w fun r w' => r = .returned (.int .i64 (fDay y s)) ∧ Below w.heap.size w w' := by
  have hbl : Below w.heap.size w (w.alloc (.cells #[.int .i64 y, .string s] 124)) := below_alloc w _
  have ht1 := ht.below hbl
  cases h : (s.toList == [83])
  · have HF : Hid (fDay y s = Cal.ls y 10) := Lib.hid (by simp [fDay, isS, h])
    go_enter Tryz.func171, Tryz.ntmps171
    go_wp2_with fail
    refine (lastSunday_any _ _ _ ht1 h1 h2 (by omega) (by omega)).mono ?_
    rintro e w1 ⟨rfl, rfl⟩
    go_wp2_with fail
    go_ret
    exact ⟨ret_int (by rw [HF.out]), hbl⟩
  · have HF : Hid (fDay y s = Cal.ls y 3) := Lib.hid (by simp [fDay, isS, h])
    go_enter Tryz.func171, Tryz.ntmps171
    go_wp2_with fail
    refine (lastSunday_any _ _ _ ht1 h1 h2 (by omega) (by omega)).mono ?_
    rintro e w1 ⟨rfl, rfl⟩
    go_wp2_with fail
    go_ret
    exact ⟨ret_int (by rw [HF.out]), hbl⟩
theorem isS_W : isS ⟨#[87]⟩ = false := by decide +kernel
theorem isS_S : isS ⟨#[83]⟩ = true := by decide +kernel
theorem isW_W : isW ⟨#[87]⟩ = true := by decide +kernel
theorem isW_S : isW ⟨#[83]⟩ = false := by decide +kernel
def follY (y : Int) (s : ByteArray) : Int := if isS s = true then y else y + 1
def follK (s : ByteArray) : ByteArray := if isS s = true then ⟨#[87]⟩ else ⟨#[83]⟩
theorem following_any (y : Int) (s : ByteArray) (w : World) (h1 : 0 ≤ y) (h2 : y ≤ 3000) :
    Calls Tryz.prog 204 #[.agg #[.int .i64 y, .string s]] w fun r w' => r = .returned (.agg #[.int .i64 (follY y s), .string (follK s)]) ∧ Below w.heap.size w w' := by
  cases h : (s.toList == [83])
  · have HF : Hid (follY y s = y + 1 ∧ follK s = ⟨#[83]⟩) := Lib.hid (by simp [follY, follK, isS, h])
    go_enter Tryz.func204, Tryz.ntmps204
    go_wp2_with fail
    exact bodyPost_ret (v := .agg #[.int .i64 (y + 1), .string ⟨#[83]⟩]) (by simp [results, Tryz.results204, go_sem]) rfl ⟨by rw [HF.out.1, HF.out.2], below_alloc2 _ _ _⟩
  · have HF : Hid (follY y s = y ∧ follK s = ⟨#[87]⟩) := Lib.hid (by simp [follY, follK, isS, h])
    go_enter Tryz.func204, Tryz.ntmps204
    go_wp2_with fail
    exact bodyPost_ret (v := .agg #[.int .i64 y, .string ⟨#[87]⟩]) (by simp [results, Tryz.results204, go_sem]) rfl ⟨by rw [HF.out.1, HF.out.2], below_alloc2 _ _ _⟩
def lDay (y : Int) (s : ByteArray) : Int := fDay (follY y s) (follK s) - 1
theorem ls_bd (y : Int) (m : Nat) (h1 : 2000 ≤ y) (h2 : y ≤ 2300) (h3 : m ≤ 12) : -10 ≤ Cal.ls y m ∧ Cal.ls y m ≤ 150000 := by
  have := Cal.dn_bd y m 31 h1 h2 h3 (by omega) (by omega)
  unfold Cal.ls; omega
theorem fDay_bd (y : Int) (s : ByteArray) (h1 : 2000 ≤ y) (h2 : y ≤ 2300) : -10 ≤ fDay y s ∧ fDay y s ≤ 150000 := by
  unfold fDay; exact ls_bd _ _ h1 h2 (by split <;> omega)
theorem follY_bd (y : Int) (s : ByteArray) : y ≤ follY y s ∧ follY y s ≤ y + 1 := by unfold follY; split <;> omega
theorem lastDay_any (y : Int) (s : ByteArray) (w : World) (ht : HeldTab w) (h1 : 2000 ≤ y) (h2 : y ≤ 2290) :
    Calls Tryz.prog 172 #[.agg #[.int .i64 y, .string s]] w fun r w' => r = .returned (.int .i64 (lDay y s)) ∧ Below w.heap.size w w' := by
  have hbl : Below w.heap.size w (w.alloc (.cells #[.int .i64 y, .string s] 124)) := below_alloc w _
  have hy := follY_bd y s
  have hd := fDay_bd (follY y s) (follK s) (by omega) (by omega)
  have HL : Hid (lDay y s = fDay (follY y s) (follK s) - 1) := Lib.hid rfl
  go_enter Tryz.func172, Tryz.ntmps172
  go_wp2_with fail
  refine (following_any _ _ _ (by omega) (by omega)).mono ?_
  rintro e w1 ⟨rfl, hb1⟩
  have hb2 := b_then hbl hb1
  have ht2 := ht.below hb2
  clear hbl hb1
  go_wp2_with fail
  refine (firstDay_any _ _ _ ht2 (by omega) (by omega)).mono ?_
  rintro e w2 ⟨rfl, hb3⟩
  have hb4 := b_then hb2 hb3
  clear hb2 hb3
  go_wp2_with fail
  go_ret
  exact ⟨ret_int (by rw [HL.out]), hb4⟩
end Go.Proofs.YtkjhnemfebgcnaaGreatDoor
namespace Go.Proofs.YtkjhnemfebgcnaaGreatDoor
open Go Go.RowKit
theorem Minute_any (n : Int) (w : World) : Calls Tryz.prog 161 #[.int .i64 n] w fun r w' => r = .returned (.int .i64 (rng n 0 1439)) ∧ w' = w := by
  go_enter Tryz.func161, Tryz.ntmps161
  go_wp2_with fail
  refine (checkRange_any _ _ _ _).mono ?_
  rintro e w' ⟨rfl, rfl⟩
  go_wp2_with fail
  go_ret
  exact ⟨rfl, rfl⟩
/-- The error of a night. -/
def nightErr (f t : Int) : Int := fst [rng f 0 1439, rng t 0 1439, unl (f != t) 11]
theorem checkNight_any (f t : Int) (w : World) : Calls Tryz.prog 129 #[.agg #[.int .i64 f, .int .i64 t]] w fun r w' => r = .returned (.int .i64 (nightErr f t)) ∧ Below w.heap.size w w' := by
  obtain ⟨W, HW, hb0, hc0, hc1⟩ : ∃ W, Hid (w.alloc (.cells #[.int .i64 f, .int .i64 t] 122) = W) ∧ Below w.heap.size w W ∧ W.cell? ⟨w.heap.size, 0, none⟩ = some (.int .i64 f) ∧ W.cell? ⟨w.heap.size, 1, none⟩ = some (.int .i64 t) := ⟨_, Lib.hid rfl, below_alloc w _, by simp, by simp⟩
  go_enter Tryz.func129, Tryz.ntmps129
  go_wp2_with fail
  rw [HW.out]
  have k0 : ∀ x : KeptW W, x.v.cell? ⟨w.heap.size, 0, none⟩ = some (.int .i64 f) := fun x => x.cell hc0
  have k1 : ∀ x : KeptW W, x.v.cell? ⟨w.heap.size, 1, none⟩ = some (.int .i64 t) := fun x => x.cell hc1
  have hne : Nonempty (KeptW W) := ⟨⟨W, Below.refl _ _⟩⟩
  refine tail_kept 12 (by kernel_rfl) (by kernel_rfl) ?_
  simp only [List.take_succ_cons, List.take_zero, List.drop_succ_cons, List.drop_zero]
  iterate 2 (go_big_quiet_step (fail))
  go_big_quiet_step (exact KeptW.calls_same (Minute_any _ _))
  iterate 2 (go_big_quiet_step (fail))
  go_big_quiet_step (exact KeptW.calls_same (Minute_any _ _))
  iterate 5 (go_big_quiet_step (fail))
  go_big_quiet_step (exact KeptW.calls_same (unless_any _ _ _))
  refine wpQuiet_nil ?_
  rintro _ ⟨x, rfl⟩
  have hbx := b_then hb0 x.below
  clear k0 k1 hc0 hc1 hb0
  go_wp2_with fail
  refine (fe_new [_, _, _] _ _ _ _ _ rfl rfl (by simp)).mono ?_
  rintro e2 w2 ⟨rfl, hw⟩
  have hb2 : Below w.heap.size w w2 := by rw [hw]; exact b_then hbx (below_alloc _ _)
  clear hw
  go_wp2_with fail
  go_ret
  exact ⟨rfl, hb2⟩
/-- The error of a quota. -/
def quotaErr (f t y : Int) (s : ByteArray) (c p : Int) : Int := fst [nightErr f t, seasonErr y s, rng c 0 100000, rng p 0 100000]
theorem CheckQuota_any (f t y : Int) (s : ByteArray) (c p : Int) (w : World) :
    Calls Tryz.prog 155 #[.agg #[.int .i64 f, .int .i64 t, .int .i64 y, .string s, .int .i64 c, .int .i64 p]] w fun r w' => r = .returned (.int .i64 (quotaErr f t y s c p)) ∧ Below w.heap.size w w' := by
  obtain ⟨W, HW, hb0, hc⟩ : ∃ W, Hid (w.alloc (.cells #[.int .i64 f, .int .i64 t, .int .i64 y, .string s, .int .i64 c, .int .i64 p] 126) = W) ∧ Below w.heap.size w W ∧
      (W.cell? ⟨w.heap.size, 0, none⟩ = some (.int .i64 f) ∧ W.cell? ⟨w.heap.size, 1, none⟩ = some (.int .i64 t) ∧ W.cell? ⟨w.heap.size, 2, none⟩ = some (.int .i64 y) ∧ W.cell? ⟨w.heap.size, 3, none⟩ = some (.string s) ∧ W.cell? ⟨w.heap.size, 4, none⟩ = some (.int .i64 c) ∧ W.cell? ⟨w.heap.size, 5, none⟩ = some (.int .i64 p)) :=
    ⟨_, Lib.hid rfl, below_alloc w _, by simp, by simp, by simp, by simp, by simp, by simp⟩
  obtain ⟨hc0, hc1, hc2, hc3, hc4, hc5⟩ := hc
  go_enter Tryz.func155, Tryz.ntmps155
  go_wp2_with fail
  rw [HW.out]
  have k0 : ∀ x : KeptW W, x.v.cell? ⟨w.heap.size, 0, none⟩ = some (.int .i64 f) := fun x => x.cell hc0
  have k1 : ∀ x : KeptW W, x.v.cell? ⟨w.heap.size, 1, none⟩ = some (.int .i64 t) := fun x => x.cell hc1
  have k2 : ∀ x : KeptW W, x.v.cell? ⟨w.heap.size, 2, none⟩ = some (.int .i64 y) := fun x => x.cell hc2
  have k3 : ∀ x : KeptW W, x.v.cell? ⟨w.heap.size, 3, none⟩ = some (.string s) := fun x => x.cell hc3
  have k4 : ∀ x : KeptW W, x.v.cell? ⟨w.heap.size, 4, none⟩ = some (.int .i64 c) := fun x => x.cell hc4
  have k5 : ∀ x : KeptW W, x.v.cell? ⟨w.heap.size, 5, none⟩ = some (.int .i64 p) := fun x => x.cell hc5
  have hne : Nonempty (KeptW W) := ⟨⟨W, Below.refl _ _⟩⟩
  refine tail_kept 12 (by kernel_rfl) (by kernel_rfl) ?_
  simp only [List.take_succ_cons, List.take_zero, List.drop_succ_cons, List.drop_zero]
  iterate 2 (go_big_quiet_step (fail))
  go_big_quiet_step (exact KeptW.calls (checkNight_any _ _ _))
  iterate 2 (go_big_quiet_step (fail))
  go_big_quiet_step (exact KeptW.calls (CheckSeason_any _ _ _))
  iterate 2 (go_big_quiet_step (fail))
  go_big_quiet_step (exact KeptW.calls_same (checkRange_any _ _ _ _))
  iterate 2 (go_big_quiet_step (fail))
  go_big_quiet_step (exact KeptW.calls_same (checkRange_any _ _ _ _))
  refine wpQuiet_nil ?_
  rintro _ ⟨x, rfl⟩
  have hbx := b_then hb0 x.below
  clear k0 k1 k2 k3 k4 k5 hc0 hc1 hc2 hc3 hc4 hc5 hb0
  go_wp2_with fail
  refine (fe_new [_, _, _, _] _ _ _ _ _ rfl rfl (by simp)).mono ?_
  rintro e2 w2 ⟨rfl, hw⟩
  have hb2 : Below w.heap.size w w2 := by rw [hw]; exact b_then hbx (below_alloc _ _)
  clear hw
  go_wp2_with fail
  go_ret
  exact ⟨rfl, hb2⟩
/-- The day of the night in which a moment is, and whether there is one. -/
def nDay (f t m : Int) : Int := if f < t then m / 1440 else if f ≤ m % 1440 then m / 1440 else m / 1440 - 1
def nIs (f t m : Int) : Bool := if f < t then decide (f ≤ m % 1440 ∧ m % 1440 < t) else if f ≤ m % 1440 then true else decide (m % 1440 < t ∧ 0 < m / 1440)
end Go.Proofs.YtkjhnemfebgcnaaGreatDoor
namespace Go.Proofs.YtkjhnemfebgcnaaGreatDoor
open Go Go.RowKit
def nBd (f t m : Int) : Prop := 0 ≤ f ∧ f ≤ 1439 ∧ 0 ≤ t ∧ t ≤ 1439 ∧ 0 ≤ m ∧ m ≤ 143999999
theorem nightOf_any (f t m : Int) (w : World) (hb : nBd f t m) :
    Calls Tryz.prog 130 #[.agg #[.int .i64 f, .int .i64 t], .int .i64 m] w fun r w' => r = .returned (.tuple #[.int .i64 (nDay f t m), .bool (nIs f t m)]) ∧ Below w.heap.size w w' := by
  obtain ⟨W, HW, hb0, hc0, hc1⟩ : ∃ W, Hid (w.alloc (.cells #[.int .i64 f, .int .i64 t] 122) = W) ∧ Below w.heap.size w W ∧ W.cell? ⟨w.heap.size, 0, none⟩ = some (.int .i64 f) ∧ W.cell? ⟨w.heap.size, 1, none⟩ = some (.int .i64 t) := ⟨_, Lib.hid rfl, below_alloc w _, by simp, by simp⟩
  obtain ⟨hf1, hf2, ht1, ht2, hm1, hm2⟩ := hb
  have k0 : ∀ x : KeptW W, x.v.cell? ⟨w.heap.size, 0, none⟩ = some (.int .i64 f) := fun x => x.cell hc0
  have k1 : ∀ x : KeptW W, x.v.cell? ⟨w.heap.size, 1, none⟩ = some (.int .i64 t) := fun x => x.cell hc1
  have hne : Nonempty (KeptW W) := ⟨⟨W, Below.refl _ _⟩⟩
  by_cases h1 : f < t
  · by_cases h2 : f ≤ m % 1440
    · have HD : Hid (nDay f t m = m / 1440 ∧ nIs f t m = decide (m % 1440 < t)) := Lib.hid ⟨by simp [nDay, h1], by simp [nIs, h1, h2]⟩
      go_enter Tryz.func130, Tryz.ntmps130
      go_wp2_with fail
      rw [HW.out]
      go_wp2_with fail
      refine region_kept (by kernel_rfl) (by kernel_rfl) ?_
      iterate 13 (go_big_quiet_step (fail))
      refine wpQuiet_nil ?_
      rintro _ ⟨x, rfl⟩
      have hbx := b_then hb0 x.below
      go_wp2_with fail
      go_ret2
      exact ⟨by rw [HD.out.1, HD.out.2]; rfl, hbx⟩
    · have HD : Hid (nDay f t m = m / 1440 ∧ nIs f t m = false) := Lib.hid ⟨by simp [nDay, h1], by simp [nIs, h1, h2]⟩
      have b2 : decide (f ≤ m % 1440) = false := decide_eq_false h2
      have h2' : m % 1440 < f := by omega
      go_enter Tryz.func130, Tryz.ntmps130
      go_wp2_with fail
      rw [HW.out]
      go_wp2_with fail
      refine region_kept (by kernel_rfl) (by kernel_rfl) ?_
      iterate 13 (go_big_quiet_step (fail))
      refine wpQuiet_nil ?_
      rintro _ ⟨x, rfl⟩
      have hbx := b_then hb0 x.below
      go_wp2_with fail
      go_ret2
      exact ⟨by rw [HD.out.1, HD.out.2]; rfl, hbx⟩
  · by_cases h2 : f ≤ m % 1440
    · have HD : Hid (nDay f t m = m / 1440 ∧ nIs f t m = true) := Lib.hid ⟨by simp [nDay, h1, h2], by simp [nIs, h1, h2]⟩
      go_enter Tryz.func130, Tryz.ntmps130
      go_wp2_with fail
      rw [HW.out]
      go_wp2_with fail
      go_ret2
      exact ⟨by rw [HD.out.1, HD.out.2]; rfl, hb0⟩
    · by_cases h3 : m % 1440 < t
      · have HD : Hid (nDay f t m = m / 1440 - 1 ∧ nIs f t m = decide (0 < m / 1440)) := Lib.hid ⟨by simp [nDay, h1, h2], by simp [nIs, h1, h2, h3]⟩
        go_enter Tryz.func130, Tryz.ntmps130
        go_wp2_with fail
        rw [HW.out]
        go_wp2_with fail
        go_ret2
        exact ⟨by rw [HD.out.1, HD.out.2]; rfl, hb0⟩
      · have HD : Hid (nDay f t m = m / 1440 - 1 ∧ nIs f t m = false) := Lib.hid ⟨by simp [nDay, h1, h2], by simp [nIs, h1, h2, h3]⟩
        go_enter Tryz.func130, Tryz.ntmps130
        go_wp2_with fail
        rw [HW.out]
        go_wp2_with fail
        go_ret2
        exact ⟨by rw [HD.out.1, HD.out.2]; rfl, hb0⟩
end Go.Proofs.YtkjhnemfebgcnaaGreatDoor
namespace Go.Proofs.YtkjhnemfebgcnaaGreatDoor
open Go Go.RowKit
theorem qNightOf_any (f t m : Int) (w : World) (hb : nBd f t m) :
    Calls Tryz.prog 128 #[.agg #[.int .i64 f, .int .i64 t], .int .i64 m] w fun r w' => r = .returned (.tuple #[.int .i64 (nDay f t m), .bool (nIs f t m)]) ∧ Below w.heap.size w w' := by
  obtain ⟨W, HW, hb0, hc0, hc1⟩ : ∃ W, Hid (w.alloc (.cells #[.int .i64 f, .int .i64 t] 135) = W) ∧ Below w.heap.size w W ∧ W.cell? ⟨w.heap.size, 0, none⟩ = some (.int .i64 f) ∧ W.cell? ⟨w.heap.size, 1, none⟩ = some (.int .i64 t) := ⟨_, Lib.hid rfl, below_alloc w _, by simp, by simp⟩
  obtain ⟨hf1, hf2, ht1, ht2, hm1, hm2⟩ := hb
  have k0 : ∀ x : KeptW W, x.v.cell? ⟨w.heap.size, 0, none⟩ = some (.int .i64 f) := fun x => x.cell hc0
  have k1 : ∀ x : KeptW W, x.v.cell? ⟨w.heap.size, 1, none⟩ = some (.int .i64 t) := fun x => x.cell hc1
  have hne : Nonempty (KeptW W) := ⟨⟨W, Below.refl _ _⟩⟩
  by_cases h1 : f < t
  · by_cases h2 : f ≤ m % 1440
    · have HD : Hid (nDay f t m = m / 1440 ∧ nIs f t m = decide (m % 1440 < t)) := Lib.hid ⟨by simp [nDay, h1], by simp [nIs, h1, h2]⟩
      go_enter Tryz.func128, Tryz.ntmps128
      go_wp2_with fail
      rw [HW.out]
      go_wp2_with fail
      refine region_kept (by kernel_rfl) (by kernel_rfl) ?_
      iterate 13 (go_big_quiet_step (fail))
      refine wpQuiet_nil ?_
      rintro _ ⟨x, rfl⟩
      have hbx := b_then hb0 x.below
      go_wp2_with fail
      go_ret2
      exact ⟨by rw [HD.out.1, HD.out.2]; rfl, hbx⟩
    · have HD : Hid (nDay f t m = m / 1440 ∧ nIs f t m = false) := Lib.hid ⟨by simp [nDay, h1], by simp [nIs, h1, h2]⟩
      have b2 : decide (f ≤ m % 1440) = false := decide_eq_false h2
      have h2' : m % 1440 < f := by omega
      go_enter Tryz.func128, Tryz.ntmps128
      go_wp2_with fail
      rw [HW.out]
      go_wp2_with fail
      refine region_kept (by kernel_rfl) (by kernel_rfl) ?_
      iterate 13 (go_big_quiet_step (fail))
      refine wpQuiet_nil ?_
      rintro _ ⟨x, rfl⟩
      have hbx := b_then hb0 x.below
      go_wp2_with fail
      go_ret2
      exact ⟨by rw [HD.out.1, HD.out.2]; rfl, hbx⟩
  · by_cases h2 : f ≤ m % 1440
    · have HD : Hid (nDay f t m = m / 1440 ∧ nIs f t m = true) := Lib.hid ⟨by simp [nDay, h1, h2], by simp [nIs, h1, h2]⟩
      go_enter Tryz.func128, Tryz.ntmps128
      go_wp2_with fail
      rw [HW.out]
      go_wp2_with fail
      go_ret2
      exact ⟨by rw [HD.out.1, HD.out.2]; rfl, hb0⟩
    · by_cases h3 : m % 1440 < t
      · have HD : Hid (nDay f t m = m / 1440 - 1 ∧ nIs f t m = decide (0 < m / 1440)) := Lib.hid ⟨by simp [nDay, h1, h2], by simp [nIs, h1, h2, h3]⟩
        go_enter Tryz.func128, Tryz.ntmps128
        go_wp2_with fail
        rw [HW.out]
        go_wp2_with fail
        go_ret2
        exact ⟨by rw [HD.out.1, HD.out.2]; rfl, hb0⟩
      · have HD : Hid (nDay f t m = m / 1440 - 1 ∧ nIs f t m = false) := Lib.hid ⟨by simp [nDay, h1, h2], by simp [nIs, h1, h2, h3]⟩
        go_enter Tryz.func128, Tryz.ntmps128
        go_wp2_with fail
        rw [HW.out]
        go_wp2_with fail
        go_ret2
        exact ⟨by rw [HD.out.1, HD.out.2]; rfl, hb0⟩
end Go.Proofs.YtkjhnemfebgcnaaGreatDoor
namespace Go.Proofs.YtkjhnemfebgcnaaGreatDoor
open Go Go.RowKit
theorem qFirst_any (es : List Int) (b c : Nat) (w : World) (hc : ∀ i, i < es.length → w.cell? ⟨b, i, none⟩ = some (.int .i64 (es.getD i 0))) (hl : es.length ≤ 100) :
    Calls Tryz.prog 85 #[.slice (some ⟨b, 0, none⟩) es.length c] w fun r w' => r = .returned (.int .i64 (fst es)) ∧ w' = w := by
  have HC := Lib.hid hc
  clear hc
  go_enter Tryz.func85, Tryz.ntmps85
  go_wp2
  go_loop [3] (fun i => ∃ k : Nat, k ≤ es.length ∧ i = .int .i64 k ∧ Hid (fst es = fst (es.drop k))) (fun i => es.length - (intOf i).toNat)
  case atStart => exact ⟨0, Nat.zero_le _, rfl, Lib.hid (by simp)⟩
  case round =>
    obtain ⟨k, hk, rfl, HF⟩ := hrel
    by_cases hlt : k < es.length
    · have hcell := HC.out k hlt
      have hd := fst_drop es k hlt
      by_cases hz : es.getD k 0 = 0
      · have HD := Lib.hid hd; clear hd
        have HZ := Lib.hid hz
        rw [hz] at hcell
        clear hz
        go_wp2
        go_round
        case rel => exact ⟨k + 1, by omega, by go_num, Lib.hid (by rw [HF.out, HD.out, if_pos HZ.out])⟩
        case measure => simp [intOf]; omega
      · have HD := Lib.hid (show fst es = es.getD k 0 by rw [HF.out, hd, if_neg hz]); clear hd
        generalize es.getD k 0 = x at *
        have hb : (x != 0) = true := by simpa using hz
        clear hz
        go_wp2
        go_ret
        exact ⟨by rw [HD.out]; rfl, rfl⟩
    · have HD := Lib.hid (show fst es = 0 by rw [HF.out, List.drop_of_length_le (by omega)]; rfl)
      go_wp2
      go_ret
      exact ⟨by rw [HD.out]; rfl, rfl⟩
end Go.Proofs.YtkjhnemfebgcnaaGreatDoor
namespace Go.Proofs.YtkjhnemfebgcnaaGreatDoor
open Go Go.RowKit
theorem gRange_any (n a b : Int) (w : World) :
    Calls Tryz.prog 54 #[.int .i64 n, .int .i64 a, .int .i64 b] w fun r w' => r = .returned (.int .i64 (rng n a b)) ∧ w' = w := by
  by_cases h1 : n < a
  · have H : Hid (rng n a b = 3) := Lib.hid (by unfold rng; rw [if_neg (by omega)])
    go_enter Tryz.func54, Tryz.ntmps54
    go_wp2_with fail
    go_ret
    exact ⟨by rw [H.out]; rfl, rfl⟩
  · by_cases h2 : b < n
    · have H : Hid (rng n a b = 3) := Lib.hid (by unfold rng; rw [if_neg (by omega)])
      go_enter Tryz.func54, Tryz.ntmps54
      go_wp2_with fail
      go_ret
      exact ⟨by rw [H.out]; rfl, rfl⟩
    · have H : Hid (rng n a b = 0) := Lib.hid (by unfold rng; rw [if_pos (by omega)])
      go_enter Tryz.func54, Tryz.ntmps54
      go_wp2_with fail
      go_ret
      exact ⟨by rw [H.out]; rfl, rfl⟩
theorem gMoment_any (d : Int) (w : World) :
    Calls Tryz.prog 53 #[.int .i64 d] w fun r w' => r = .returned (.int .i64 (rng d 0 143999999)) ∧ w' = w := by
  go_enter Tryz.func53, Tryz.ntmps53
  go_wp2_with (go_at_call 54; refine (gRange_any _ _ _ _).mono ?_; rintro e w' ⟨rfl, rfl⟩)
  go_ret
  exact ⟨rfl, rfl⟩
set_option maxRecDepth 100000 in
theorem gCheckSeason_any (y : Int) (s : ByteArray) (w : World) :
    Calls Tryz.prog 127 #[.agg #[.int .i64 y, .string s]] w fun r w' => r = .returned (.int .i64 (seasonErr y s)) ∧ Below w.heap.size w w' := by
  obtain ⟨W, HW, hb0, hc0, hc1⟩ : ∃ W, Hid (w.alloc (.cells #[.int .i64 y, .string s] 136) = W) ∧ Below w.heap.size w W ∧ W.cell? ⟨w.heap.size, 0, none⟩ = some (.int .i64 y) ∧ W.cell? ⟨w.heap.size, 1, none⟩ = some (.string s) := ⟨_, Lib.hid rfl, below_alloc w _, by simp, by simp⟩
  by_cases hy : 2000 ≤ y ∧ y ≤ 2272
  · have HR : Hid (rng y 2000 2272 = 0) := Lib.hid (rng_ok hy.1 hy.2)
    cases h1 : (s.toList == [83])
    · cases h2 : (s.toList == [87])
      · have HK : Hid (seasonErr y s = 13) := Lib.hid (by simp [seasonErr, fst, HR.out, kindErr, isS, isW, h1, h2])

        go_enter Tryz.func127, Tryz.ntmps127
        go_wp2_with fail
        rw [HW.out]
        refine (gRange_any _ _ _ _).mono ?_
        rintro e w2 ⟨rfl, hw⟩
        rw [hw, HR.out]
        clear hw
        go_wp2_with fail
        go_ret
        exact ⟨by rw [HK.out]; rfl, hb0⟩
      · have HK : Hid (seasonErr y s = 0) := Lib.hid (by simp [seasonErr, fst, HR.out, kindErr, isS, isW, h1, h2])
        go_enter Tryz.func127, Tryz.ntmps127
        go_wp2_with fail
        rw [HW.out]
        refine (gRange_any _ _ _ _).mono ?_
        rintro e w2 ⟨rfl, hw⟩
        rw [hw, HR.out]
        clear hw
        go_wp2_with fail
        go_ret
        exact ⟨by rw [HK.out]; rfl, hb0⟩
    · have HK : Hid (seasonErr y s = 0) := Lib.hid (by simp [seasonErr, fst, HR.out, kindErr, isS, h1])
      go_enter Tryz.func127, Tryz.ntmps127
      go_wp2_with fail
      rw [HW.out]
      refine (gRange_any _ _ _ _).mono ?_
      rintro e w2 ⟨rfl, hw⟩
      rw [hw, HR.out]
      clear hw
      go_wp2_with fail
      go_ret
      exact ⟨by rw [HK.out]; rfl, hb0⟩
  · have HR : Hid (rng y 2000 2272 = 3) := Lib.hid (rng_bad hy)
    have HK : Hid (seasonErr y s = 3) := Lib.hid (by simp [seasonErr, fst, HR.out])
    go_enter Tryz.func127, Tryz.ntmps127
    go_wp2_with fail
    rw [HW.out]
    refine (gRange_any _ _ _ _).mono ?_
    rintro e w2 ⟨rfl, hw⟩
    rw [hw, HR.out]
    clear hw
    go_wp2_with fail
    go_ret
    exact ⟨by rw [HK.out]; rfl, hb0⟩
end Go.Proofs.YtkjhnemfebgcnaaGreatDoor
namespace Go.Proofs.YtkjhnemfebgcnaaGreatDoor
open Go Go.RowKit
def momErr (f t m : Int) : Int := fst [nightErr f t, rng m 0 143999999]
theorem fst_zero2 {a b : Int} (h : fst [a, b] = 0) : a = 0 ∧ b = 0 := by
  simp only [fst] at h
  by_cases h1 : a = 0
  · rw [if_pos h1] at h
    by_cases h2 : b = 0
    · exact ⟨h1, h2⟩
    · rw [if_neg h2] at h; exact absurd h h2
  · rw [if_neg h1] at h; exact absurd h h1
theorem fst_zero3 {a b c : Int} (h : fst [a, b, c] = 0) : a = 0 ∧ b = 0 ∧ c = 0 := by
  by_cases h1 : a = 0
  · have : fst [b, c] = 0 := by rw [show fst [a, b, c] = if a = 0 then fst [b, c] else a from rfl, if_pos h1] at h; exact h
    exact ⟨h1, fst_zero2 this⟩
  · rw [show fst [a, b, c] = if a = 0 then fst [b, c] else a from rfl, if_neg h1] at h; exact absurd h h1
theorem momErr_bd {f t m : Int} (h : momErr f t m = 0) : nBd f t m := by
  obtain ⟨h1, h2⟩ := fst_zero2 h
  obtain ⟨h3, h4, _⟩ := fst_zero3 h1
  have a1 := rng_zero h3
  have a2 := rng_zero h4
  have a3 := rng_zero h2
  exact ⟨a1.1, a1.2, a2.1, a2.2, a3.1, a3.2⟩
def nOut (f t m : Int) : Value := if momErr f t m = 0 then (if nIs f t m = true then .tuple #[.int .i64 (nDay f t m), .int .i64 0] else .tuple #[.int .i64 0, .int .i64 7]) else .tuple #[.int .i64 0, .int .i64 (momErr f t m)]
set_option maxRecDepth 100000 in
theorem NightOf_any (f t m : Int) (w : World) :
    Calls Tryz.prog 71 #[.agg #[.int .i64 f, .int .i64 t], .int .i64 m] w fun r w' => r = .returned (nOut f t m) ∧ Below w.heap.size w w' := by
  obtain ⟨W, HW, hb0, hc0, hc1⟩ : ∃ W, Hid (w.alloc (.cells #[.int .i64 f, .int .i64 t] 122) = W) ∧ Below w.heap.size w W ∧ W.cell? ⟨w.heap.size, 0, none⟩ = some (.int .i64 f) ∧ W.cell? ⟨w.heap.size, 1, none⟩ = some (.int .i64 t) := ⟨_, Lib.hid rfl, below_alloc w _, by simp, by simp⟩
  by_cases hz : momErr f t m = 0
  · have hbd := momErr_bd hz
    have HZ := Lib.hid hz
    cases hi : nIs f t m
    · have HO : Hid (nOut f t m = .tuple #[.int .i64 0, .int .i64 7]) := Lib.hid (by simp [nOut, hz, hi])
      clear hz
      go_enter Tryz.func71, Tryz.ntmps71
      go_wp2_with fail
      rw [HW.out]
      refine (checkNight_any _ _ _).mono ?_
      rintro e w1 ⟨rfl, hb1⟩
      have c0 := b_old hb1 hc0
      have c1 := b_old hb1 hc1
      have hb1' := b_then hb0 hb1
      clear hb1 hc0 hc1
      go_wp2_with fail
      refine (checkMoment_any _ _).mono ?_
      rintro e w2 ⟨rfl, rfl⟩
      go_wp2_with fail
      refine (fe_new [_, _] _ _ _ _ _ rfl rfl (by simp)).mono ?_
      rintro e w3 ⟨rfl, hw⟩
      have hb3 : Below w2.heap.size w2 w3 := by rw [hw]; exact below_alloc _ _
      have d0 := b_old hb3 c0
      have d1 := b_old hb3 c1
      have hb3' := b_then hb1' hb3
      clear hw hb3 c0 c1 hb1'
      rw [show fst [nightErr f t, rng m 0 143999999] = momErr f t m from rfl, HZ.out]
      go_wp2_with fail
      refine (nightOf_any _ _ _ _ hbd).mono ?_
      rintro e w4 ⟨rfl, hb4⟩
      have hb4' := b_then hb3' hb4
      rw [hi]
      go_wp2_with fail
      go_ret2
      exact ⟨by rw [HO.out]; rfl, hb4'⟩
    · have HO : Hid (nOut f t m = .tuple #[.int .i64 (nDay f t m), .int .i64 0]) := Lib.hid (by simp [nOut, hz, hi])
      clear hz
      go_enter Tryz.func71, Tryz.ntmps71
      go_wp2_with fail
      rw [HW.out]
      refine (checkNight_any _ _ _).mono ?_
      rintro e w1 ⟨rfl, hb1⟩
      have c0 := b_old hb1 hc0
      have c1 := b_old hb1 hc1
      have hb1' := b_then hb0 hb1
      clear hb1 hc0 hc1
      go_wp2_with fail
      refine (checkMoment_any _ _).mono ?_
      rintro e w2 ⟨rfl, rfl⟩
      go_wp2_with fail
      refine (fe_new [_, _] _ _ _ _ _ rfl rfl (by simp)).mono ?_
      rintro e w3 ⟨rfl, hw⟩
      have hb3 : Below w2.heap.size w2 w3 := by rw [hw]; exact below_alloc _ _
      have d0 := b_old hb3 c0
      have d1 := b_old hb3 c1
      have hb3' := b_then hb1' hb3
      clear hw hb3 c0 c1 hb1'
      rw [show fst [nightErr f t, rng m 0 143999999] = momErr f t m from rfl, HZ.out]
      go_wp2_with fail
      refine (nightOf_any _ _ _ _ hbd).mono ?_
      rintro e w4 ⟨rfl, hb4⟩
      have hb4' := b_then hb3' hb4
      rw [hi]
      go_wp2_with fail
      go_ret2
      exact ⟨by rw [HO.out]; rfl, hb4'⟩
  · have HO : Hid (nOut f t m = .tuple #[.int .i64 0, .int .i64 (momErr f t m)]) := Lib.hid (by simp [nOut, hz])
    have HN : Hid ((momErr f t m != 0) = true) := Lib.hid (by simpa using hz)
    clear hz
    go_enter Tryz.func71, Tryz.ntmps71
    go_wp2_with fail
    rw [HW.out]
    refine (checkNight_any _ _ _).mono ?_
    rintro e w1 ⟨rfl, hb1⟩
    have c0 := b_old hb1 hc0
    have c1 := b_old hb1 hc1
    have hb1' := b_then hb0 hb1
    clear hb1 hc0 hc1
    go_wp2_with fail
    refine (checkMoment_any _ _).mono ?_
    rintro e w2 ⟨rfl, rfl⟩
    go_wp2_with fail
    refine (fe_new [_, _] _ _ _ _ _ rfl rfl (by simp)).mono ?_
    rintro e w3 ⟨rfl, hw⟩
    have hb3 : Below w2.heap.size w2 w3 := by rw [hw]; exact below_alloc _ _
    have hb3' := b_then hb1' hb3
    clear hw hb3 c0 c1 hb1'
    rw [show fst [nightErr f t, rng m 0 143999999] = momErr f t m from rfl]
    have hn := HN.out
    generalize momErr f t m = bad at *
    go_wp2_with fail
    go_ret2
    exact ⟨by rw [HO.out]; rfl, hb3'⟩
end Go.Proofs.YtkjhnemfebgcnaaGreatDoor
namespace Go.Proofs.YtkjhnemfebgcnaaGreatDoor
open Go Go.RowKit
theorem gFirst_new (es : List Int) (b n c T : Nat) (w : World) (hb : b = w.heap.size) (hn : n = es.length) (hl : es.length ≤ 100) :
    Calls Tryz.prog 85 #[.slice (some ⟨b, 0, none⟩) n c] (w.alloc (.cells (es.map (Value.int .i64)).toArray T)) fun r w' => r = .returned (.int .i64 (fst es)) ∧ w' = w.alloc (.cells (es.map (Value.int .i64)).toArray T) := by
  subst hn hb
  exact qFirst_any es _ c _ (fun i hi => cell_fresh _ _ _ _ _ (by simp [hi])) hl
theorem gfirst_new (es : List Int) (b n c T : Nat) (w : World) (hb : b = w.heap.size) (hn : n = es.length) (hl : es.length ≤ 100) :
    Calls Tryz.prog 34 #[.slice (some ⟨b, 0, none⟩) n c] (w.alloc (.cells (es.map (Value.int .i64)).toArray T)) fun r w' => r = .returned (.int .i64 (fst es)) ∧ w' = w.alloc (.cells (es.map (Value.int .i64)).toArray T) := by
  subst hn hb
  go_enter Tryz.func34, Tryz.ntmps34
  go_wp2_with fail
  refine (qFirst_any es _ c _ (fun i hi => cell_fresh _ _ _ _ _ (by simp [hi])) hl).mono ?_
  rintro e w1 ⟨rfl, rfl⟩
  go_wp2_with fail
  go_ret
  exact ⟨rfl, rfl⟩
theorem gwhen_any (b : Bool) (e : Int) (w : World) :
    Calls Tryz.prog 46 #[.bool b, .int .i64 e] w fun r w' => r = .returned (.int .i64 (if b = true then e else 0)) ∧ w' = w := by
  cases b
  all_goals
    go_enter Tryz.func46, Tryz.ntmps46
    go_wp2
    go_ret
    exact ⟨rfl, rfl⟩
theorem nightErr_eq (f t : Int) : nightErr f t = if fst [rng f 0 1439, rng t 0 1439] = 0 then (if f = t then 11 else 0) else fst [rng f 0 1439, rng t 0 1439] := by
  unfold nightErr
  have h3 : unl (f != t) 11 = if f = t then 11 else 0 := by
    unfold unl
    by_cases h : f = t <;> simp [h]
  rw [h3]
  generalize rng f 0 1439 = a
  generalize rng t 0 1439 = b
  by_cases h1 : a = 0 <;> by_cases h2 : b = 0 <;> by_cases h : f = t <;> simp [fst, h1, h2, h]
set_option maxRecDepth 100000 in
theorem gCheckNight_any (f t : Int) (w : World) : Calls Tryz.prog 126 #[.agg #[.int .i64 f, .int .i64 t]] w fun r w' => r = .returned (.int .i64 (nightErr f t)) ∧ Below w.heap.size w w' := by
  obtain ⟨W, HW, hb0, hc0, hc1⟩ : ∃ W, Hid (w.alloc (.cells #[.int .i64 f, .int .i64 t] 135) = W) ∧ Below w.heap.size w W ∧ W.cell? ⟨w.heap.size, 0, none⟩ = some (.int .i64 f) ∧ W.cell? ⟨w.heap.size, 1, none⟩ = some (.int .i64 t) := ⟨_, Lib.hid rfl, below_alloc w _, by simp, by simp⟩
  have k0 : ∀ x : KeptW W, x.v.cell? ⟨w.heap.size, 0, none⟩ = some (.int .i64 f) := fun x => x.cell hc0
  have k1 : ∀ x : KeptW W, x.v.cell? ⟨w.heap.size, 1, none⟩ = some (.int .i64 t) := fun x => x.cell hc1
  have hne : Nonempty (KeptW W) := ⟨⟨W, Below.refl _ _⟩⟩
  have hcase : (fst [rng f 0 1439, rng t 0 1439] = 0 ∧ f = t ∧ nightErr f t = 11) ∨ (fst [rng f 0 1439, rng t 0 1439] = 0 ∧ f ≠ t ∧ nightErr f t = 0) ∨ (fst [rng f 0 1439, rng t 0 1439] ≠ 0 ∧ nightErr f t = fst [rng f 0 1439, rng t 0 1439]) := by
    rw [nightErr_eq]
    by_cases h1 : fst [rng f 0 1439, rng t 0 1439] = 0
    · by_cases h2 : f = t
      · exact .inl ⟨h1, h2, by rw [if_pos h1, if_pos h2]⟩
      · exact .inr (.inl ⟨h1, h2, by rw [if_pos h1, if_neg h2]⟩)
    · exact .inr (.inr ⟨h1, by rw [if_neg h1]⟩)
  rcases hcase with ⟨h1, h2, h3⟩ | ⟨h1, h2, h3⟩ | ⟨h1, h3⟩
  · subst h2
    have H1 := Lib.hid h1
    have H3 := Lib.hid h3
    clear h1 h3
    go_enter Tryz.func126, Tryz.ntmps126
    go_wp2_with fail
    rw [HW.out]
    refine tail_kept 6 (by kernel_rfl) (by kernel_rfl) ?_
    simp only [List.take_succ_cons, List.take_zero, List.drop_succ_cons, List.drop_zero]
    iterate 2 (go_big_quiet_step (fail))
    go_big_quiet_step (exact KeptW.calls_same (gRange_any _ _ _ _))
    iterate 2 (go_big_quiet_step (fail))
    go_big_quiet_step (exact KeptW.calls_same (gRange_any _ _ _ _))
    refine wpQuiet_nil ?_
    rintro _ ⟨x, rfl⟩
    have hbx := b_then hb0 x.below
    have c0 := k0 x
    have c1 := k1 x
    clear k0 k1 hc0 hc1 hb0
    go_wp2_with fail
    refine (gFirst_new [_, _] _ _ _ _ _ rfl rfl (by simp)).mono ?_
    rintro e2 w2 ⟨rfl, hw⟩
    have hb1 : Below x.v.heap.size x.v w2 := by rw [hw]; exact below_alloc _ _
    have hb2 := b_then hbx hb1
    have d0 := b_old hb1 c0
    have d1 := b_old hb1 c1
    clear hw hb1 c0 c1
    rw [H1.out]
    go_wp2_with fail
    go_ret
    exact ⟨by rw [H3.out]; rfl, hb2⟩
  · have H1 := Lib.hid h1
    have H3 := Lib.hid h3
    have hbq : (f == t) = false := by simpa using h2
    clear h1 h3
    go_enter Tryz.func126, Tryz.ntmps126
    go_wp2_with fail
    rw [HW.out]
    refine tail_kept 6 (by kernel_rfl) (by kernel_rfl) ?_
    simp only [List.take_succ_cons, List.take_zero, List.drop_succ_cons, List.drop_zero]
    iterate 2 (go_big_quiet_step (fail))
    go_big_quiet_step (exact KeptW.calls_same (gRange_any _ _ _ _))
    iterate 2 (go_big_quiet_step (fail))
    go_big_quiet_step (exact KeptW.calls_same (gRange_any _ _ _ _))
    refine wpQuiet_nil ?_
    rintro _ ⟨x, rfl⟩
    have hbx := b_then hb0 x.below
    have c0 := k0 x
    have c1 := k1 x
    clear k0 k1 hc0 hc1 hb0
    go_wp2_with fail
    refine (gFirst_new [_, _] _ _ _ _ _ rfl rfl (by simp)).mono ?_
    rintro e2 w2 ⟨rfl, hw⟩
    have hb1 : Below x.v.heap.size x.v w2 := by rw [hw]; exact below_alloc _ _
    have hb2 := b_then hbx hb1
    have d0 := b_old hb1 c0
    have d1 := b_old hb1 c1
    clear hw hb1 c0 c1
    rw [H1.out]
    go_wp2_with fail
    go_ret
    exact ⟨by rw [H3.out]; rfl, hb2⟩
  · have HN : Hid ((fst [rng f 0 1439, rng t 0 1439] == 0) = false) := Lib.hid (by simpa using h1)
    have H3 := Lib.hid h3
    clear h1 h3
    go_enter Tryz.func126, Tryz.ntmps126
    go_wp2_with fail
    rw [HW.out]
    refine tail_kept 6 (by kernel_rfl) (by kernel_rfl) ?_
    simp only [List.take_succ_cons, List.take_zero, List.drop_succ_cons, List.drop_zero]
    iterate 2 (go_big_quiet_step (fail))
    go_big_quiet_step (exact KeptW.calls_same (gRange_any _ _ _ _))
    iterate 2 (go_big_quiet_step (fail))
    go_big_quiet_step (exact KeptW.calls_same (gRange_any _ _ _ _))
    refine wpQuiet_nil ?_
    rintro _ ⟨x, rfl⟩
    have hbx := b_then hb0 x.below
    clear k0 k1 hc0 hc1 hb0
    go_wp2_with fail
    refine (gFirst_new [_, _] _ _ _ _ _ rfl rfl (by simp)).mono ?_
    rintro e2 w2 ⟨rfl, hw⟩
    have hb2 : Below w.heap.size w w2 := by rw [hw]; exact b_then hbx (below_alloc _ _)
    clear hw
    have hn := HN.out
    have h3 := H3.out
    clear HN H3
    generalize fst [rng f 0 1439, rng t 0 1439] = bad at *
    have H3 := Lib.hid h3
    clear h3
    go_wp2_with fail
    go_ret
    exact ⟨by rw [H3.out]; rfl, hb2⟩
theorem gCheckQuota_any (f t y : Int) (s : ByteArray) (c p : Int) (w : World) :
    Calls Tryz.prog 66 #[.agg #[.int .i64 f, .int .i64 t, .int .i64 y, .string s, .int .i64 c, .int .i64 p]] w fun r w' => r = .returned (.int .i64 (quotaErr f t y s c p)) ∧ Below w.heap.size w w' := by
  obtain ⟨W, HW, hb0, hc⟩ : ∃ W, Hid (w.alloc (.cells #[.int .i64 f, .int .i64 t, .int .i64 y, .string s, .int .i64 c, .int .i64 p] 138) = W) ∧ Below w.heap.size w W ∧
      (W.cell? ⟨w.heap.size, 0, none⟩ = some (.int .i64 f) ∧ W.cell? ⟨w.heap.size, 1, none⟩ = some (.int .i64 t) ∧ W.cell? ⟨w.heap.size, 2, none⟩ = some (.int .i64 y) ∧ W.cell? ⟨w.heap.size, 3, none⟩ = some (.string s) ∧ W.cell? ⟨w.heap.size, 4, none⟩ = some (.int .i64 c) ∧ W.cell? ⟨w.heap.size, 5, none⟩ = some (.int .i64 p)) :=
    ⟨_, Lib.hid rfl, below_alloc w _, by simp, by simp, by simp, by simp, by simp, by simp⟩
  obtain ⟨hc0, hc1, hc2, hc3, hc4, hc5⟩ := hc
  go_enter Tryz.func66, Tryz.ntmps66
  go_wp2_with fail
  rw [HW.out]
  have k0 : ∀ x : KeptW W, x.v.cell? ⟨w.heap.size, 0, none⟩ = some (.int .i64 f) := fun x => x.cell hc0
  have k1 : ∀ x : KeptW W, x.v.cell? ⟨w.heap.size, 1, none⟩ = some (.int .i64 t) := fun x => x.cell hc1
  have k2 : ∀ x : KeptW W, x.v.cell? ⟨w.heap.size, 2, none⟩ = some (.int .i64 y) := fun x => x.cell hc2
  have k3 : ∀ x : KeptW W, x.v.cell? ⟨w.heap.size, 3, none⟩ = some (.string s) := fun x => x.cell hc3
  have k4 : ∀ x : KeptW W, x.v.cell? ⟨w.heap.size, 4, none⟩ = some (.int .i64 c) := fun x => x.cell hc4
  have k5 : ∀ x : KeptW W, x.v.cell? ⟨w.heap.size, 5, none⟩ = some (.int .i64 p) := fun x => x.cell hc5
  have hne : Nonempty (KeptW W) := ⟨⟨W, Below.refl _ _⟩⟩
  refine tail_kept 12 (by kernel_rfl) (by kernel_rfl) ?_
  simp only [List.take_succ_cons, List.take_zero, List.drop_succ_cons, List.drop_zero]
  iterate 2 (go_big_quiet_step (fail))
  go_big_quiet_step (exact KeptW.calls (gCheckNight_any _ _ _))
  iterate 2 (go_big_quiet_step (fail))
  go_big_quiet_step (exact KeptW.calls (gCheckSeason_any _ _ _))
  iterate 2 (go_big_quiet_step (fail))
  go_big_quiet_step (exact KeptW.calls_same (gRange_any _ _ _ _))
  iterate 2 (go_big_quiet_step (fail))
  go_big_quiet_step (exact KeptW.calls_same (gRange_any _ _ _ _))
  refine wpQuiet_nil ?_
  rintro _ ⟨x, rfl⟩
  have hbx := b_then hb0 x.below
  clear k0 k1 k2 k3 k4 k5 hc0 hc1 hc2 hc3 hc4 hc5 hb0
  go_wp2_with fail
  refine (gFirst_new [_, _, _, _] _ _ _ _ _ rfl rfl (by simp)).mono ?_
  rintro e2 w2 ⟨rfl, hw⟩
  have hb2 : Below w.heap.size w w2 := by rw [hw]; exact b_then hbx (below_alloc _ _)
  clear hw
  go_wp2_with fail
  go_ret
  exact ⟨rfl, hb2⟩
set_option maxRecDepth 100000 in
theorem gquota_any (f t y : Int) (s : ByteArray) (c p : Int) (w : World) :
    Calls Tryz.prog 67 #[.agg #[.int .i64 f, .int .i64 t, .int .i64 y, .string s, .int .i64 c, .int .i64 p]] w fun r w' => r = .returned (.agg #[.int .i64 f, .int .i64 t, .int .i64 y, .string s, .int .i64 c, .int .i64 p]) ∧ Below w.heap.size w w' := by
  go_enter Tryz.func67, Tryz.ntmps67
  go_wp2_with fail
  exact bodyPost_ret (v := .agg #[.int .i64 f, .int .i64 t, .int .i64 y, .string s, .int .i64 c, .int .i64 p]) (by simp [results, Tryz.results67, go_sem]) rfl ⟨rfl, below_alloc2 _ _ _⟩
end Go.Proofs.YtkjhnemfebgcnaaGreatDoor
namespace Go.Proofs.YtkjhnemfebgcnaaGreatDoor
open Go Go.RowKit
/-- How the reference's test of a byte goes. -/
inductive NC (i : Nat) (c : Int) : Bool → Prop
  | low (h1 : decide (97 ≤ c) = true) (h2 : decide (c ≤ 122) = true) : NC i c true
  | up (h1 : decide (97 ≤ c) = false) (h3 : decide (65 ≤ c) = true) (h4 : decide (c ≤ 90) = true) : NC i c true
  | head1 (h : ((i : Int) == 0) = true) (h1 : decide (97 ≤ c) = true) (h2 : decide (c ≤ 122) = false) (h3 : decide (65 ≤ c) = true) (h4 : decide (c ≤ 90) = false) : NC i c false
  | head2 (h : ((i : Int) == 0) = true) (h1 : decide (97 ≤ c) = false) (h3 : decide (65 ≤ c) = true) (h4 : decide (c ≤ 90) = false) : NC i c false
  | head3 (h : ((i : Int) == 0) = true) (h1 : decide (97 ≤ c) = false) (h3 : decide (65 ≤ c) = false) : NC i c false
  | high (h : ((i : Int) == 0) = false) (h1 : decide (97 ≤ c) = true) (h2 : decide (c ≤ 122) = false) (h3 : decide (65 ≤ c) = true) (h4 : decide (c ≤ 90) = false) (h9 : (c != 95) = true) (h5 : decide (c < 48) = false) (h6 : decide (57 < c) = true) : NC i c false
  | line (h : ((i : Int) == 0) = false) (h1 : decide (97 ≤ c) = false) (h3 : decide (65 ≤ c) = true) (h4 : decide (c ≤ 90) = false) (h9 : (c != 95) = false) : NC i c true
  | mid (h : ((i : Int) == 0) = false) (h1 : decide (97 ≤ c) = false) (h3 : decide (65 ≤ c) = true) (h4 : decide (c ≤ 90) = false) (h9 : (c != 95) = true) (h5 : decide (c < 48) = false) (h6 : decide (57 < c) = true) : NC i c false
  | less (h : ((i : Int) == 0) = false) (h1 : decide (97 ≤ c) = false) (h3 : decide (65 ≤ c) = false) (h9 : (c != 95) = true) (h5 : decide (c < 48) = true) : NC i c false
  | gap (h : ((i : Int) == 0) = false) (h1 : decide (97 ≤ c) = false) (h3 : decide (65 ≤ c) = false) (h9 : (c != 95) = true) (h5 : decide (c < 48) = false) (h6 : decide (57 < c) = true) : NC i c false
  | digit (h : ((i : Int) == 0) = false) (h1 : decide (97 ≤ c) = false) (h3 : decide (65 ≤ c) = false) (h9 : (c != 95) = true) (h5 : decide (c < 48) = false) (h6 : decide (57 < c) = false) : NC i c true
theorem nc_of (i c : Nat) : NC i (c : Int) (nameC i c) := by
  have e : ∀ b, (b = nameC i c) → NC i (c : Int) b → NC i (c : Int) (nameC i c) := fun b h k => h ▸ k
  have z1 : i = 0 → ((i : Int) == 0) = true := fun h => by simp [h]
  have z0 : i ≠ 0 → ((i : Int) == 0) = false := fun h => by rw [beq_eq_false_iff_ne]; omega
  have n1 : c ≠ 95 → ((c : Int) != 95) = true := fun h => by rw [bne_iff_ne]; omega
  by_cases h1 : 97 ≤ c
  · by_cases h2 : c ≤ 122
    · exact e _ (by unfold nameC letN; rw [decide_eq_true (show (97 : Int) ≤ c by omega), decide_eq_true (show (c : Int) ≤ 122 by omega)]; simp) (.low (decide_eq_true (by omega)) (decide_eq_true (by omega)))
    · by_cases h : i = 0
      · exact e _ (by unfold nameC letN; rw [decide_eq_false (show ¬ (c : Int) ≤ 122 by omega), decide_eq_false (show ¬ (c : Int) ≤ 90 by omega)]; simp [h]) (.head1 (z1 h) (decide_eq_true (by omega)) (decide_eq_false (by omega)) (decide_eq_true (by omega)) (decide_eq_false (by omega)))
      · exact e _ (by unfold nameC letN digN; rw [decide_eq_false (show ¬ (c : Int) ≤ 122 by omega), decide_eq_false (show ¬ (c : Int) ≤ 90 by omega), decide_eq_false (show ¬ (c : Int) ≤ 57 by omega), decide_eq_false (show ¬ c = 95 by omega)]; simp) (.high (z0 h) (decide_eq_true (by omega)) (decide_eq_false (by omega)) (decide_eq_true (by omega)) (decide_eq_false (by omega)) (n1 (by omega)) (decide_eq_false (by omega)) (decide_eq_true (by omega)))
  · by_cases h3 : 65 ≤ c
    · by_cases h4 : c ≤ 90
      · exact e _ (by unfold nameC letN; rw [decide_eq_true (show (65 : Int) ≤ c by omega), decide_eq_true (show (c : Int) ≤ 90 by omega)]; simp) (.up (decide_eq_false (by omega)) (decide_eq_true (by omega)) (decide_eq_true (by omega)))
      · by_cases h : i = 0
        · exact e _ (by unfold nameC letN; rw [decide_eq_false (show ¬ (97 : Int) ≤ c by omega), decide_eq_false (show ¬ (c : Int) ≤ 90 by omega)]; simp [h]) (.head2 (z1 h) (decide_eq_false (by omega)) (decide_eq_true (by omega)) (decide_eq_false (by omega)))
        · by_cases h5 : c = 95
          · exact e _ (by unfold nameC; rw [decide_eq_true h5, decide_eq_true h]; simp) (.line (z0 h) (decide_eq_false (by omega)) (decide_eq_true (by omega)) (decide_eq_false (by omega)) (by simp [h5]))
          · exact e _ (by unfold nameC letN digN; rw [decide_eq_false (show ¬ (97 : Int) ≤ c by omega), decide_eq_false (show ¬ (c : Int) ≤ 90 by omega), decide_eq_false (show ¬ (c : Int) ≤ 57 by omega), decide_eq_false h5]; simp) (.mid (z0 h) (decide_eq_false (by omega)) (decide_eq_true (by omega)) (decide_eq_false (by omega)) (n1 h5) (decide_eq_false (by omega)) (decide_eq_true (by omega)))
    · by_cases h : i = 0
      · exact e _ (by unfold nameC letN; rw [decide_eq_false (show ¬ (97 : Int) ≤ c by omega), decide_eq_false (show ¬ (65 : Int) ≤ c by omega)]; simp [h]) (.head3 (z1 h) (decide_eq_false (by omega)) (decide_eq_false (by omega)))
      · by_cases h5 : c < 48
        · exact e _ (by unfold nameC letN digN; rw [decide_eq_false (show ¬ (97 : Int) ≤ c by omega), decide_eq_false (show ¬ (65 : Int) ≤ c by omega), decide_eq_false (show ¬ (48 : Int) ≤ c by omega), decide_eq_false (show ¬ c = 95 by omega)]; simp) (.less (z0 h) (decide_eq_false (by omega)) (decide_eq_false (by omega)) (n1 (by omega)) (decide_eq_true (by omega)))
        · by_cases h6 : c ≤ 57
          · exact e _ (by unfold nameC digN; rw [decide_eq_true (show (48 : Int) ≤ c by omega), decide_eq_true (show (c : Int) ≤ 57 by omega), decide_eq_true h]; simp) (.digit (z0 h) (decide_eq_false (by omega)) (decide_eq_false (by omega)) (n1 (by omega)) (decide_eq_false (by omega)) (decide_eq_false (by omega)))
          · exact e _ (by unfold nameC letN digN; rw [decide_eq_false (show ¬ (97 : Int) ≤ c by omega), decide_eq_false (show ¬ (65 : Int) ≤ c by omega), decide_eq_false (show ¬ (c : Int) ≤ 57 by omega), decide_eq_false (show ¬ c = 95 by omega)]; simp) (.gap (z0 h) (decide_eq_false (by omega)) (decide_eq_false (by omega)) (n1 (by omega)) (decide_eq_false (by omega)) (decide_eq_true (by omega)))
set_option maxRecDepth 100000 in
set_option maxHeartbeats 2000000 in
theorem qIsName_any (s : ByteArray) (w : World) :
    Calls Tryz.prog 84 #[.string s] w fun e w' => e = .returned (.bool (decide (isName s))) ∧ Below w.heap.size w w' := by
  by_cases h0 : s.size = 0
  · have HN : Hid (decide (isName s) = false) := Lib.hid (decide_eq_false fun h => h.1 h0)
    have hb : ((s.size : Int) == 0) = true := by simp [h0]
    clear h0
    go_enter Tryz.func84, Tryz.ntmps84
    go_wp2_with fail
    go_ret
    exact ⟨by rw [HN.out]; rfl, Below.refl _ _⟩
  · have hb : ((s.size : Int) == 0) = false := by rw [beq_eq_false_iff_ne]; omega
    by_cases h24 : s.size ≤ 24
    · have hb2 : decide ((24 : Int) < s.size) = false := decide_eq_false (by omega)
      have HS : Hid (s.size ≠ 0 ∧ s.size ≤ 24) := Lib.hid ⟨h0, h24⟩
      clear h0
      go_enter Tryz.func84, Tryz.ntmps84
      go_wp2_with fail
      go_loop [3] (fun i => ∃ pos : Nat, pos ≤ s.size ∧ i = .int .i64 pos ∧ Hid (∀ i, i < pos → nameC i (byteAt s i) = true)) (fun i => s.size - (intOf i).toNat)
      case atStart => exact ⟨0, Nat.zero_le _, rfl, Lib.hid (fun i hi => absurd hi (Nat.not_lt_zero _))⟩
      case round =>
        obtain ⟨pos, hps, rfl, HP⟩ := hrel
        by_cases hp : pos < s.size
        · have hnc := nc_of pos (byteAt s pos)
          have HOK : Hid (nameC pos (byteAt s pos) = true → ∀ i, i < pos + 1 → nameC i (byteAt s i) = true) := Lib.hid (fun hok i hi => by
            rcases Nat.lt_or_ge i pos with h | h
            · exact HP.out i h
            · obtain rfl : i = pos := by omega
              exact hok)
          have HBD : Hid (nameC pos (byteAt s pos) = false → decide (isName s) = false) := Lib.hid (fun h => name_bad hp h)
          generalize nameC pos (byteAt s pos) = bb at *
          rw [byteAt_eq hp] at hnc
          cases hnc
          all_goals
            first
            | (have HB := Lib.hid (HBD.out rfl)
               clear HBD HOK
               go_wp2_with fail
               go_ret
               exact ⟨by rw [HB.out]; rfl, Below.refl _ _⟩)
            | (have HP2 := Lib.hid (HOK.out rfl)
               clear HBD HOK
               go_wp2_with fail
               go_round
               case rel => exact ⟨pos + 1, by omega, by go_num, HP2⟩
               case measure => simp [intOf]; omega)
        · obtain rfl : pos = s.size := by omega
          have HB : Hid (decide (isName s) = true) := Lib.hid (decide_eq_true ⟨HS.out.1, HS.out.2, HP.out⟩)
          go_wp2_with fail
          go_ret
          exact ⟨by rw [HB.out]; rfl, Below.refl _ _⟩
    · have HN : Hid (decide (isName s) = false) := Lib.hid (decide_eq_false fun h => h24 h.2.1)
      have hb2 : decide ((24 : Int) < s.size) = true := decide_eq_true (by omega)
      clear h24 h0
      go_enter Tryz.func84, Tryz.ntmps84
      go_wp2_with fail
      go_ret
      exact ⟨by rw [HN.out]; rfl, Below.refl _ _⟩
end Go.Proofs.YtkjhnemfebgcnaaGreatDoor
