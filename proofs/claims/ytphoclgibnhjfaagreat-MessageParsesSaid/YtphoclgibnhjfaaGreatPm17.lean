/- Contract of message.CheckMessage, for every message. · Contracts of the reference: lines and messages that are short. · Contracts of the statements: a message of the reference as one of the program. · Contracts: the reference's Shift and CheckPeriod; turn. · Contracts: the reference's Shift. · Contracts of package calendar: Split. Contracts of package calendar: Split, where the day lies inside. A region that draws its order, in whose head (its first n operations) one operation makes a block · A region that draws its order, with operations in its head that make memory of their own (allocations, calls that hand back fresh rows): each of them keeps all cells that are there, and what it yields · Contract of the statements' program: a message of the reference as one of the program. · What a value is that is a slice of requests. · The statement's copy of requests; requests of no length. · Rows of structs, of any type whose values are a fixed number of cells. · Contract of the reference's split: the words of a text. · The lines of text of a string, with their line feeds; contract of the reference's pieces. -/
import Derived.Test.YtphoclgibnhjfaaGreatPm13
import Derived.Test.YtphoclgibnhjfaaGreatPm12
import Derived.Test.YtphoclgibnhjfaaGreatPm14
import Derived.Test.YtphoclgibnhjfaaGreatPm10
import Derived.RangeFuncBox
import Derived.Test.YtphoclgibnhjfaaGreatPm11
import Derived.Test.YtphoclgibnhjfaaGreatPm8
import Derived.Deep.RegionHeld3
import Derived.Shelf.RegionOpen
import Derived.Test.YtphoclgibnhjfaaGreatPm9
import Derived.Test.YtphoclgibnhjfaaGreatPm16
namespace Go.Proofs.YtphoclgibnhjfaaGreat
open Go Go.RowKit Ev Go.ChangeMaps Go.MapKept
theorem line_act {l : LineV} (h : lineErr l = 0) : actB l.act.data.toList = true := by
  unfold lineErr at h
  rw [fst_zero] at h
  exact (unl_zero (show (13 : Int) ≠ 0 by decide)).1 (h (unl (actB l.act.data.toList) 13) (by simp))
/-- A value that is a slice of these lines. -/
def LnArg (w : World) (v : Value) (L : List LineV) : Prop :=
  (L = [] ∧ ∃ A c, v = .slice A 0 c) ∨ (0 < L.length ∧ ∃ b off cap, v = .slice (some ⟨b, off, none⟩) L.length cap ∧ LnsAt w b off L ∧ L.length ≤ cap ∧ ∀ k, k < L.length → (L.getD k default).act.size ≤ maxLen ∧ (L.getD k default).q.name.size ≤ maxLen)
theorem LnArg.below {w w' : World} {v : Value} {L : List LineV} (h : LnArg w v L) (hb : Below w.heap.size w w') : LnArg w' v L := by
  rcases h with h | ⟨h0, b, off, cap, hv, hl, hc, hs⟩
  · exact .inl h
  · exact .inr ⟨h0, b, off, cap, hv, hl.below hb, hc, hs⟩
theorem LnArg.len {w : World} {v : Value} {L : List LineV} (h : LnArg w v L) : ∃ A c, v = .slice A L.length c := by
  rcases h with ⟨rfl, A, c, rfl⟩ | ⟨_, b, off, cap, rfl, _⟩
  · exact ⟨A, c, rfl⟩
  · exact ⟨_, _, rfl⟩
set_option maxRecDepth 100000 in
set_option maxHeartbeats 4000000 in
theorem wrongLine_zero (h : HeadV) (A : Option Addr) (c : Nat) (w : World) :
    Calls Tryz.prog 53 #[.agg (h.cells (.slice A 0 c))] w fun e w' => e = .returned (.tuple #[.int .i64 0, .int .i64 0]) ∧ Below w.heap.size w w' := by
  obtain ⟨W, HW, hb0, R⟩ := head_new w h (.slice A 0 c) 25
  obtain ⟨kind, airport, season, day⟩ := h
  simp only [HeadV.cells] at HW ⊢
  go_enter Tryz.func53, Tryz.ntmps53
  go_wp2_with fail
  rw [HW.out]
  clear HW
  refine (kinds_new' _).mono ?_
  rintro e1 w1 ⟨rfl, hK, hb1, hlt1⟩
  have hb2 := below_alloc w1 (.cells #[.string ⟨#[]⟩, .string ⟨#[]⟩, .string ⟨#[]⟩, .string ⟨#[]⟩, .string ⟨#[]⟩, .string ⟨#[]⟩, .string ⟨#[]⟩, .int .i64 0, .int .i64 0, .int .i64 0, .int .i64 0, .int .i64 0, .int .i64 0, .int .i64 0] 88)
  have x4 := b_old hb2 (b_old hb1 R.c4)
  have HB := Lib.hid (b_then (b_then hb0 hb1) hb2)
  clear R hK hb1 hb2 hlt1 hb0
  go_wp2_with fail
  go_loopw [6, 7, 8, 13] (fun _ _ _ i wr => i = .int .i64 0 ∧ wr = w1.alloc (.cells #[.string ⟨#[]⟩, .string ⟨#[]⟩, .string ⟨#[]⟩, .string ⟨#[]⟩, .string ⟨#[]⟩, .string ⟨#[]⟩, .string ⟨#[]⟩, .int .i64 0, .int .i64 0, .int .i64 0, .int .i64 0, .int .i64 0, .int .i64 0, .int .i64 0] 88)) (fun _ _ _ _ _ => 0)
  case atStart => exact ⟨rfl, rfl⟩
  case round =>
    obtain ⟨rfl, rfl⟩ := hrel
    go_wp2_with fail
    go_ret2
    exact ⟨rfl, HB.out⟩
theorem wrongLine_arg (h : HeadV) (L : List LineV) (v : Value) (w w' : World) (hv : LnArg w v L) (hb : Below w.heap.size w w') (hn : L.length ≤ 900) :
    Calls Tryz.prog 53 #[.agg (h.cells v)] w' fun e w'' => e = .returned (.tuple #[.int .i64 (wlGo h.kind L zeroLine 0).1, .int .i64 (wlGo h.kind L zeroLine 0).2]) ∧ Below w'.heap.size w' w'' := by
  rcases hv with ⟨rfl, A, c, rfl⟩ | ⟨h0, b, off, cap, rfl, hl, hc, hs⟩
  · have e : wlGo h.kind [] zeroLine 0 = (0, 0) := by
      unfold wlGo
      rw [if_neg (by show ¬ ((⟨#[]⟩ : ByteArray).toList == [67]) = true; rw [empty_toList]; decide)]
    rw [e]
    exact wrongLine_zero h A c w'
  · exact wrongLine_any h L b off cap w' (hl.below hb) (fun k hk => (hs k hk).1) hn
/-- The error of a message. -/
def msgErr (h : HeadV) (L : List LineV) : Int := if fst [headErr h, unl (decide ((L.length : Int) ≤ 64)) 5] ≠ 0 then fst [headErr h, unl (decide ((L.length : Int) ≤ 64)) 5] else (wlGo h.kind L zeroLine 0).2
set_option maxRecDepth 100000 in
set_option maxHeartbeats 4000000 in
theorem CheckMessage_any (h : HeadV) (L : List LineV) (v : Value) (w w' : World) (hv : LnArg w v L) (hb : Below w.heap.size w w') :
    Calls Tryz.prog 85 #[.agg (h.cells v)] w' fun e w'' => e = .returned (.int .i64 (msgErr h L)) ∧ Below w'.heap.size w' w'' := by
  have HE : Hid (msgErr h L = if fst [headErr h, unl (decide ((L.length : Int) ≤ 64)) 5] ≠ 0 then fst [headErr h, unl (decide ((L.length : Int) ≤ 64)) 5] else (wlGo h.kind L zeroLine 0).2) := Lib.hid rfl
  obtain ⟨A, c, rfl⟩ := hv.len
  have hh := checkHeader_any h A L.length c
  have hwl : L.length ≤ 64 → _ := fun h64 => fun (W : World) (hW : Below w.heap.size w W) => wrongLine_arg h L _ w W hv hW (by omega)
  have hlen : L.length ≤ 64 ∨ ¬ L.length ≤ 64 := Decidable.em _
  have HLEN : Hid (decide ((L.length : Int) ≤ 64) = true → L.length ≤ 64) := Lib.hid fun hd => by have := of_decide_eq_true hd; omega
  generalize msgErr h L = me at HE ⊢
  generalize headErr h = he at HE hh
  generalize wlGo h.kind L zeroLine 0 = P at HE hwl
  obtain ⟨W, HW, hb0, R⟩ := head_new w' h (.slice A L.length c) 25
  have HBB := Lib.hid hb
  have HWLN := Lib.hid hwl
  obtain ⟨kind, airport, season, day⟩ := h
  obtain ⟨r0, r1, r2, r3, r4⟩ := R
  simp only [HeadV.cells] at *
  have k0 : ∀ x : KeptW W, x.v.cell? ⟨w'.heap.size, 0, none⟩ = _ := fun x => x.cell r0
  have k1 : ∀ x : KeptW W, x.v.cell? ⟨w'.heap.size, 1, none⟩ = _ := fun x => x.cell r1
  have k2 : ∀ x : KeptW W, x.v.cell? ⟨w'.heap.size, 2, none⟩ = _ := fun x => x.cell r2
  have k3 : ∀ x : KeptW W, x.v.cell? ⟨w'.heap.size, 3, none⟩ = _ := fun x => x.cell r3
  have k4 : ∀ x : KeptW W, x.v.cell? ⟨w'.heap.size, 4, none⟩ = _ := fun x => x.cell r4
  have hne : Nonempty (KeptW W) := ⟨⟨W, Below.refl _ _⟩⟩
  clear r0 r1 r2 r3 r4 hv hb hlen hwl
  go_enter Tryz.func85, Tryz.ntmps85
  go_wp2_with fail
  rw [HW.out]
  clear HW
  refine tail_kept 7 (by kernel_rfl) (by kernel_rfl) ?_
  simp only [List.take_succ_cons, List.take_zero, List.drop_succ_cons, List.drop_zero]
  go_big_quiet_step (fail)
  go_big_quiet_step (exact KeptW.calls (hh _))
  iterate 4 (go_big_quiet_step (fail))
  go_big_quiet_step (exact KeptW.calls_same (unless_any _ _ _))
  refine wpQuiet_nil ?_
  rintro _ ⟨x, rfl⟩
  have HBx := Lib.hid (b_then hb0 x.below)
  have x0 := k0 x
  have x1 := k1 x
  have x2 := k2 x
  have x3 := k3 x
  have x4 := k4 x
  clear k0 k1 k2 k3 k4 hh hb0 hne
  go_wp2_with fail
  refine (fe_new [_, _] _ _ _ _ _ rfl rfl (by simp)).mono ?_
  rintro e2 w2 ⟨rfl, hw⟩
  have hb2 : Below x.v.heap.size x.v w2 := by rw [hw]; exact below_alloc _ _
  have y0 := b_old hb2 x0
  have y1 := b_old hb2 x1
  have y2 := b_old hb2 x2
  have y3 := b_old hb2 x3
  have y4 := b_old hb2 x4
  have HB2 := Lib.hid (b_then HBx.out hb2)
  clear hw x0 x1 x2 x3 x4 hb2
  generalize hd64 : decide ((L.length : Int) ≤ 64) = d64 at *
  have HD64 := Lib.hid hd64
  clear hd64
  by_cases hf : fst [he, unl d64 5] = 0
  · have hd : d64 = true := by
      rw [fst_zero] at hf
      exact (unl_zero (show (5 : Int) ≠ 0 by decide)).1 (hf (unl d64 5) (by simp))
    have hc := HWLN.out (HLEN.out (by first | exact hd | (rw [HD64.out]; exact hd))) w2 (HBB.out.trans (HB2.out.mono HBB.out.size))
    have HZ := Lib.hid (show me = P.2 by rw [HE.out, if_neg (fun hne => hne hf)])
    rw [hf]
    clear HE HWLN HLEN HD64 hf hd
    go_wp2_with fail
    refine hc.mono ?_
    rintro e3 w3 ⟨rfl, hb3⟩
    have HB3 := Lib.hid (b_then HB2.out hb3)
    clear y0 y1 y2 y3 y4 hb3 hc
    go_wp2_with fail
    go_ret
    exact ⟨by rw [HZ.out]; rfl, HB3.out⟩
  · have HZ := Lib.hid (show me = fst [he, unl d64 5] by rw [HE.out, if_pos hf])
    have hb : (fst [he, unl d64 5] != 0) = true := by simpa using hf
    clear HE HWLN HLEN HD64 hf y0 y1 y2 y3 y4
    generalize fst [he, unl d64 5] = e at *
    go_wp2_with fail
    go_ret
    exact ⟨by rw [HZ.out]; rfl, HB2.out⟩
end Go.Proofs.YtphoclgibnhjfaaGreat
namespace Go.Proofs.YtphoclgibnhjfaaGreat
open Go Go.RowKit Ev
set_option maxRecDepth 100000 in
theorem ShortLines_zero (A : Option Addr) (c k : Nat) (w : World) : Calls Tryz.prog 61 #[.slice A 0 c, .int .i64 k] w fun e w' => BoolR e True ∧ Below w.heap.size w w' := by
  have hk : ¬ ((k : Int) < 0) := by omega
  go_enter Tryz.func61, Tryz.ntmps61
  go_wp2_with fail
  go_loopw [5] (fun i wr => i = .int .i64 0 ∧ wr = w) (fun _ _ => 0)
  case atStart => exact ⟨rfl, rfl⟩
  case round =>
    obtain ⟨rfl, rfl⟩ := hrel
    go_wp2_with fail
    go_ret
    exact ⟨.mk' _ rfl fun _ => trivial, Below.refl _ _⟩
set_option maxRecDepth 100000 in
set_option maxHeartbeats 4000000 in
theorem ShortLines_any (l : List LineV) (b off cap n : Nat) (w : World) (hn : n ≤ 60) (hl : LnsAt w b off l) : Calls Tryz.prog 61 #[.slice (some ⟨b, off, none⟩) l.length cap, .int .i64 n] w
    fun e w' => BoolR e (l.length ≤ 65) ∧ Below w.heap.size w w' := by
  have HL := Lib.hid hl
  clear hl
  by_cases h3 : (n : Int) < (l.length : Int) ∧ (l.length : Int) ≠ 65
  · have h2 : ((l.length : Int) == 65) = false := by simpa using h3.2
    have h1 := h3.1
    go_enter Tryz.func61, Tryz.ntmps61
    go_wp2_with fail
    all_goals go_ret
    all_goals exact ⟨.mk' false rfl (fun h => by cases h), Below.refl _ _⟩
  have h65 : l.length ≤ 65 := by
    rcases Nat.lt_or_ge 65 l.length with h | h
    · exact absurd ⟨by omega, by omega⟩ h3
    · exact h
  have hloop : (¬ (n : Int) < (l.length : Int)) ∨ ((n : Int) < (l.length : Int) ∧ (l.length : Int) = 65) := by
    by_cases h1 : (n : Int) < (l.length : Int)
    · exact .inr ⟨h1, by
        by_cases h : (l.length : Int) = 65
        · exact h
        · exact absurd ⟨h1, h⟩ h3⟩
    · exact .inl h1
  clear h3
  rcases hloop with h1 | ⟨h1, h2⟩
  all_goals
    go_enter Tryz.func61, Tryz.ntmps61
    go_wp2_with fail
    go_loopw [5] (fun i wr => ∃ k : Nat, k ≤ l.length ∧ i = .int .i64 k ∧ Hid (Below w.heap.size w wr)) (fun i _ => l.length - (intOf i).toNat)
    case atStart => exact ⟨0, Nat.zero_le _, rfl, Lib.hid (Below.refl _ _)⟩
    case round =>
      obtain ⟨k, hk, rfl, HB⟩ := hrel
      by_cases hlt : k < l.length
      · obtain ⟨x0, x1, x2, x3, x4, x5, x6, x7, x8, x9, x10, x11, x12, x13⟩ := (HL.out.below HB.out).row hlt rfl
        have hcall := Brief_any (l.getD k default).q
        generalize l.getD k default = q at *
        obtain ⟨qq, ⟨qa, qb, qc, qd, qe, qf, qg, qh, qi, qj, qk, ql, qm⟩⟩ := q
        dsimp only [ReqV.cells] at hcall x0 x1 x2 x3 x4 x5 x6 x7 x8 x9 x10 x11 x12 x13
        by_cases h40 : (40 : Int) < (qq.size : Int)
        · go_wp2_with fail
          go_ret
          exact ⟨.mk' _ rfl fun _ => h65, HB.out⟩
        · go_wp2_with fail
          refine (hcall _).mono ?_
          rintro e1 w1 ⟨⟨bb, rfl, -⟩, hb1⟩
          have HB1 : Hid (Below w.heap.size w w1) := Lib.hid (b_then HB.out hb1)
          clear x0 x1 x2 x3 x4 x5 x6 x7 x8 x9 x10 x11 x12 x13 hcall hb1
          cases bb
          · go_wp2_with fail
            go_ret
            exact ⟨.mk' _ rfl fun _ => h65, HB1.out⟩
          · go_wp2_with fail
            refine ⟨⟨k + 1, by omega, by go_num, HB1⟩, by simp [intOf]; omega⟩
      · go_wp2_with fail
        go_ret
        exact ⟨.mk' _ rfl fun _ => h65, HB.out⟩
theorem ShortLines_arg (L : List LineV) (v : Value) (n : Nat) (w w' : World) (hn : n ≤ 60) (hv : LnArg w v L) (hb : Below w.heap.size w w') : Calls Tryz.prog 61 #[v, .int .i64 n] w'
    fun e w'' => BoolR e (L.length ≤ 65) ∧ Below w'.heap.size w' w'' := by
  rcases hv with ⟨rfl, A, c, rfl⟩ | ⟨h0, b, off, cap, rfl, hl, hc, hs⟩
  · exact (ShortLines_zero A c n w').mono fun e w'' ⟨⟨bb, h1, _⟩, h2⟩ => ⟨⟨bb, h1, fun _ => by simp⟩, h2⟩
  · exact ShortLines_any L b off cap n w' hn (hl.below hb)
set_option maxRecDepth 100000 in
set_option maxHeartbeats 2000000 in
theorem ShortMessage_any (h : HeadV) (L : List LineV) (v : Value) (n : Nat) (w w' : World) (hn : n ≤ 60) (hv : LnArg w v L) (hb : Below w.heap.size w w') : Calls Tryz.prog 17 #[.agg (h.cells v), .int .i64 n] w'
    fun e w'' => BoolR e (L.length ≤ 65) ∧ Below w'.heap.size w' w'' := by
  obtain ⟨A, c, rfl⟩ := hv.len
  have hs := fun W hW => ShortLines_arg L _ n w W hn hv hW
  have HBB := Lib.hid hb
  have HBA := Lib.hid (below_alloc w' (.cells (h.cells (.slice A L.length c)) 31))
  obtain ⟨kind, airport, season, day⟩ := h
  simp only [HeadV.cells] at *
  clear hv hb
  by_cases h1 : (kind.size : Int) ≤ 40
  · by_cases h2 : (airport.size : Int) ≤ 40
    · by_cases h3 : (season.size : Int) ≤ 40
      · go_enter Tryz.func17, Tryz.ntmps17
        go_wp2_with fail
        refine (hs _ (HBB.out.trans (HBA.out.mono HBB.out.size))).mono ?_
        rintro e1 w1 ⟨⟨bb, rfl, hbb⟩, hb1⟩
        have HB1 := Lib.hid (b_then HBA.out hb1)
        go_wp2_with fail
        go_ret
        exact ⟨.mk' bb rfl hbb, HB1.out⟩
      · have h3' : decide ((season.size : Int) ≤ 40) = false := decide_eq_false h3
        go_enter Tryz.func17, Tryz.ntmps17
        go_wp2_with fail
        go_ret
        exact ⟨.mk' false rfl (fun h => by cases h), HBA.out⟩
    · have h2' : decide ((airport.size : Int) ≤ 40) = false := decide_eq_false h2
      go_enter Tryz.func17, Tryz.ntmps17
      go_wp2_with fail
      go_ret
      exact ⟨.mk' false rfl (fun h => by cases h), HBA.out⟩
  · have h1' : decide ((kind.size : Int) ≤ 40) = false := decide_eq_false h1
    go_enter Tryz.func17, Tryz.ntmps17
    go_wp2_with fail
    go_ret
    exact ⟨.mk' false rfl (fun h => by cases h), HBA.out⟩
end Go.Proofs.YtphoclgibnhjfaaGreat
namespace Go.Proofs.YtphoclgibnhjfaaGreat
open Go Go.RowKit Ev Go.ChangeMaps Go.MapKept
def lnFlat (l : List LineV) : List Value := (l.map fun x => x.cells.toList).flatten
theorem lnFlat_snoc (l : List LineV) (x : LineV) : lnFlat (l ++ [x]) = lnFlat l ++ x.cells.toList := by simp [lnFlat]
theorem lnFlat_len (l : List LineV) : (lnFlat l).length = l.length * 14 := by
  induction l with
  | nil => rfl
  | cons x r ih =>
    have e : lnFlat (x :: r) = x.cells.toList ++ lnFlat r := by simp [lnFlat]
    rw [e, List.length_append, ih]
    simp [LineV.cells]; omega
theorem lnFlat_at (l : List LineV) : ∀ (k t : Nat), k < l.length → t < 14 → (lnFlat l)[k * 14 + t]? = (l.getD k default).cells[t]? := by
  induction l with
  | nil => intro k t h; simp at h
  | cons x r ih =>
    intro k t h ht
    have e : lnFlat (x :: r) = x.cells.toList ++ lnFlat r := by simp [lnFlat]
    have hs : x.cells.toList.length = 14 := by simp [LineV.cells]
    cases k with
    | zero => rw [e, List.getElem?_append_left (by omega)]; simp
    | succ j =>
      rw [e, List.getElem?_append_right (by omega), hs, show (j + 1) * 14 + t - 14 = j * 14 + t by omega, ih j t (by simpa using h) ht]
      simp
theorem lnInfo_parts : ∃ i0, Tryz.prog.info? 88 = some i0 ∧ i0.zero = some (.agg #[.string ⟨#[]⟩, .string ⟨#[]⟩, .string ⟨#[]⟩, .string ⟨#[]⟩, .string ⟨#[]⟩, .string ⟨#[]⟩, .string ⟨#[]⟩, .int .i64 0, .int .i64 0, .int .i64 0, .int .i64 0, .int .i64 0, .int .i64 0, .int .i64 0]) ∧ i0.size = 14 ∧ i0.bytes = 168 := by
  have h : (Tryz.prog.info? 88).map (fun i => (i.zero, i.size, i.bytes)) = some (some (.agg #[.string ⟨#[]⟩, .string ⟨#[]⟩, .string ⟨#[]⟩, .string ⟨#[]⟩, .string ⟨#[]⟩, .string ⟨#[]⟩, .string ⟨#[]⟩, .int .i64 0, .int .i64 0, .int .i64 0, .int .i64 0, .int .i64 0, .int .i64 0, .int .i64 0]), 14, 168) := by kernel_rfl
  cases hp : Tryz.prog.info? 88 with
  | none => rw [hp] at h; simp at h
  | some i => rw [hp] at h; simp only [Option.map_some, Option.some.injEq, Prod.mk.injEq] at h; exact ⟨i, rfl, h.1, h.2.1, h.2.2⟩
theorem lns_own {w : World} {base g c : Nat} {l : List LineV} (h : w.ownsRow base 88 14 (.slice (some ⟨g, 0, none⟩) l.length c) l.length (lnFlat l)) : LnsAt w g 0 l :=
  ⟨fun k hk t v hv => by
    have ht : t < 14 := by
      have := (Array.getElem?_eq_some_iff.1 hv).1
      simpa [LineV.cells] using this
    have e : w.cell? ⟨g, k * 14 + t, none⟩ = (lnFlat l)[k * 14 + t]? := h.cellAt _ (by omega)
    rw [lnFlat_at l k t hk ht, hv] at e
    rw [Nat.zero_add]
    exact e⟩
theorem own_cap {w : World} {base : Nat} {e : TypeId} {size : Nat} {g n cp : Nat} {xs : List Value} (h : w.ownsRow base e size (.slice (some ⟨g, 0, none⟩) n cp) n xs) : n ≤ cp := by
  rcases h.2 with ⟨hv, _⟩ | ⟨g', cp', cur, hv, _, _, hc, _⟩
  · cases hv
  · cases hv; exact hc
theorem ln_arg_own {w : World} {base : Nat} {v : Value} {l : List LineV} (h : w.ownsRow base 88 14 v l.length (lnFlat l)) (hs : ∀ k, k < l.length → (l.getD k default).act.size ≤ maxLen ∧ (l.getD k default).q.name.size ≤ maxLen) : LnArg w v l := by
  rcases Nat.eq_zero_or_pos l.length with h0 | h0
  · have e : l = [] := List.length_eq_zero_iff.1 h0
    rw [h0] at h
    obtain ⟨A, c, rfl⟩ := pr_zero h
    exact .inl ⟨e, A, c, rfl⟩
  · have h' := h
    rw [show l.length = (l.length - 1) + 1 by omega] at h'
    obtain ⟨g, cp, hv⟩ := ownsRow_succ h'
    rw [Nat.sub_add_cancel h0] at hv
    subst hv
    exact .inr ⟨h0, g, 0, cp, rfl, lns_own h, own_cap h, hs⟩
set_option maxRecDepth 100000 in
set_option maxHeartbeats 4000000 in
theorem lines_any (L : List LineV) (b off cap : Nat) (w : World) (hl : LnsAt w b off L) (hn : L.length ≤ 900) :
    Calls Tryz.prog 62 #[.slice (some ⟨b, off, none⟩) L.length cap] w fun e w' => ∃ v, e = .returned v ∧ w'.ownsRow w.heap.size 88 14 v L.length (lnFlat L) ∧ Below w.heap.size w w' := by
  have HL := Lib.hid hl
  clear hl
  obtain ⟨i0, hi, hz0, hz1, hz2⟩ := lnInfo_parts
  go_enter Tryz.func62, Tryz.ntmps62
  go_wp2_with fail
  go_loopw [3, 5, 8] (fun v3 _ i wr => ∃ (k : Nat), k ≤ L.length ∧ i = .int .i64 k ∧ wr.ownsRow w.heap.size 88 14 v3 k (lnFlat (L.take k)) ∧ Hid (Below w.heap.size w wr)) (fun _ _ i _ => L.length - (intOf i).toNat)
  case atStart => exact ⟨0, Nat.zero_le _, rfl, World.ownsRow_nil _ _ _ _, Lib.hid (Below.refl _ _)⟩
  case round =>
    obtain ⟨k, hk, rfl, hown, HB⟩ := hrel
    by_cases hlt : k < L.length
    · have hrow := (HL.out.below HB.out).row hlt rfl
      have HT : Hid (lnFlat (L.take (k + 1)) = lnFlat (L.take k) ++ (L.getD k default).cells.toList) := Lib.hid (by
        rw [← lnFlat_snoc]
        congr 1
        rw [List.take_succ_eq_append_getElem hlt]; simp [List.getD_eq_getElem?_getD, List.getElem?_eq_getElem hlt])
      generalize L.getD k default = l at hrow HT
      obtain ⟨qact, ⟨qname, qcarrier, qkind, qterminal, qpartner, qlink, qa, qb, qd, qm, qs, qz, qn⟩⟩ := l
      simp only [LineV.cells] at HT hrow
      obtain ⟨z0, z1, z2, z3, z4, z5, z6, z7, z8, z9, z10, z11, z12, z13⟩ := hrow
      have hlen := lnFlat_len (L.take k)
      rw [List.length_take, Nat.min_eq_left hk] at hlen
      generalize lnFlat (L.take k) = fl at *
      have hsz := HB.out.size
      have hownA := hown.alloc (.cells #[.string qact, .string qname, .string qcarrier, .string qkind, .string qterminal, .string qpartner, .string qlink, .int .i64 qa, .int .i64 qb, .int .i64 qd, .int .i64 qm, .int .i64 qs, .int .i64 qz, .int .i64 qn] 86)
      have hownB := hownA.alloc (.cells #[.string qact, .string qname, .string qcarrier, .string qkind, .string qterminal, .string qpartner, .string qlink, .int .i64 qa, .int .i64 qb, .int .i64 qd, .int .i64 qm, .int .i64 qs, .int .i64 qz, .int .i64 qn] 88)
      have hbA : Below w.heap.size w (wr.alloc (.cells #[.string qact, .string qname, .string qcarrier, .string qkind, .string qterminal, .string qpartner, .string qlink, .int .i64 qa, .int .i64 qb, .int .i64 qd, .int .i64 qm, .int .i64 qs, .int .i64 qz, .int .i64 qn] 86)) := b_then HB.out (below_alloc _ _)
      have hsA := hbA.size
      have HNB : Hid (((wr.alloc (.cells #[.string qact, .string qname, .string qcarrier, .string qkind, .string qterminal, .string qpartner, .string qlink, .int .i64 qa, .int .i64 qb, .int .i64 qd, .int .i64 qm, .int .i64 qs, .int .i64 qz, .int .i64 qn] 86)).alloc (.cells #[.string qact, .string qname, .string qcarrier, .string qkind, .string qterminal, .string qpartner, .string qlink, .int .i64 qa, .int .i64 qb, .int .i64 qd, .int .i64 qm, .int .i64 qs, .int .i64 qz, .int .i64 qn] 88)).heap[wr.heap.size + 1]? = some (.cells #[.string qact, .string qname, .string qcarrier, .string qkind, .string qterminal, .string qpartner, .string qlink, .int .i64 qa, .int .i64 qb, .int .i64 qd, .int .i64 qm, .int .i64 qs, .int .i64 qz, .int .i64 qn] 88 (0, 0))) := Lib.hid (by
        have h1 := heap_new (wr.alloc (.cells #[.string qact, .string qname, .string qcarrier, .string qkind, .string qterminal, .string qpartner, .string qlink, .int .i64 qa, .int .i64 qb, .int .i64 qd, .int .i64 qm, .int .i64 qs, .int .i64 qz, .int .i64 qn] 86)) (.cells #[.string qact, .string qname, .string qcarrier, .string qkind, .string qterminal, .string qpartner, .string qlink, .int .i64 qa, .int .i64 qb, .int .i64 qd, .int .i64 qm, .int .i64 qs, .int .i64 qz, .int .i64 qn] 88)
        rwa [show (wr.alloc (.cells #[.string qact, .string qname, .string qcarrier, .string qkind, .string qterminal, .string qpartner, .string qlink, .int .i64 qa, .int .i64 qb, .int .i64 qd, .int .i64 qm, .int .i64 qs, .int .i64 qz, .int .i64 qn] 86)).heap.size = wr.heap.size + 1 by simp] at h1)
      go_wp2_with (at_builtin; refine Hid.out ?_)
      refine Lib.hid ?_
      refine wpList_append_own _ rfl _ _ 23 rfl w.heap.size 88 i0 (.agg #[.string ⟨#[]⟩, .string ⟨#[]⟩, .string ⟨#[]⟩, .string ⟨#[]⟩, .string ⟨#[]⟩, .string ⟨#[]⟩, .string ⟨#[]⟩, .int .i64 0, .int .i64 0, .int .i64 0, .int .i64 0, .int .i64 0, .int .i64 0, .int .i64 0]) 14 168 Tryz.underlying23 hi hz0 hz1 hz2 rfl (by decide) _ k _ rfl hownB ⟨wr.heap.size + 1, 0, none⟩ 1 1 [.string qact, .string qname, .string qcarrier, .string qkind, .string qterminal, .string qpartner, .string qlink, .int .i64 qa, .int .i64 qb, .int .i64 qd, .int .i64 qm, .int .i64 qs, .int .i64 qz, .int .i64 qn] rfl rfl
        (World.news_of_block (cs := #[.string qact, .string qname, .string qcarrier, .string qkind, .string qterminal, .string qpartner, .string qlink, .int .i64 qa, .int .i64 qb, .int .i64 qd, .int .i64 qm, .int .i64 qs, .int .i64 qz, .int .i64 qn]) (t := 88) (fr := (0, 0)) HNB.out) (by simp [Value.oneCell']) (by unfold maxLen; omega) (by omega) (by simp; omega) ?_
      intro v' w4 hown' hgrow _
      have hb4 : Below w.heap.size w w4 := (hbA.trans ((Below.refl _ _).alloc hsA _)).grown hgrow (by simp; omega) (pr_blk hownB)
      clear hgrow hown hownA hownB hbA hsA z0 z1 z2 z3 z4 z5 z6 z7 z8 z9 z10 z11 z12 z13
      rw [show fl ++ [.string qact, .string qname, .string qcarrier, .string qkind, .string qterminal, .string qpartner, .string qlink, .int .i64 qa, .int .i64 qb, .int .i64 qd, .int .i64 qm, .int .i64 qs, .int .i64 qz, .int .i64 qn] = lnFlat (L.take (k + 1)) from HT.out.symm] at hown'
      go_wp2_with fail
      refine ⟨⟨k + 1, by omega, by go_num, by simpa using hown', Lib.hid hb4⟩, by simp [intOf]; omega⟩
    · obtain rfl : k = L.length := by omega
      rw [List.take_length] at hown
      go_wp2_with fail
      go_ret
      exact ⟨_, rfl, hown, HB.out⟩
end Go.Proofs.YtphoclgibnhjfaaGreat
namespace Go.Proofs.YtphoclgibnhjfaaGreat
open Go Go.RowKit
theorem tm7 (x : Int) : ((x.tmod 7) + 7).tmod 7 = x % 7 := by
  have h1 := Int.tmod_add_tdiv_mul x 7
  have h2 := Int.lt_tmod_of_pos x (show (0 : Int) < 7 by decide)
  have h3 := Int.tmod_lt_of_pos x (show (0 : Int) < 7 by decide)
  rw [Int.tmod_eq_emod_of_nonneg (by omega)]
  generalize x.tmod 7 = r at *
  generalize x.tdiv 7 = q at *
  omega
theorem tm7_bd (x : Int) : -7 < x.tmod 7 ∧ x.tmod 7 < 7 := ⟨Int.lt_tmod_of_pos x (by decide), Int.tmod_lt_of_pos x (by decide)⟩
theorem tm7e (x : Int) : ((x.tmod 7) + 7) % 7 = x % 7 := by
  have h := tm7 x
  have hb := tm7_bd x
  rwa [Int.tmod_eq_emod_of_nonneg (by omega)] at h
/-- What the exact moved mask is, as the program reckons it. -/
def tv (n s : Nat) : Int := bits BinOp.and IntKind.i64 (bits BinOp.or IntKind.i64 ((n : Int) * 2 ^ s) ((n : Int) / 2 ^ (7 - s))) 127
theorem tv_eq : ∀ n, n < 128 → ∀ s, s < 7 → tv n s = (refN n s 7 : Nat) := by decide +kernel
theorem perErr_eq (a b m : Int) :
    perErr a b m = if ¬ (0 ≤ a ∧ a ≤ 99999) then 3 else if ¬ (0 ≤ b ∧ b ≤ 99999) then 3 else if b < a then 11 else if 400 < b - a then 4 else rng m 1 127 := by
  unfold perErr
  by_cases h1 : 0 ≤ a ∧ a ≤ 99999
  · rw [if_neg (by simpa using h1)]
    by_cases h2 : 0 ≤ b ∧ b ≤ 99999
    · rw [if_neg (by simpa using h2), rng_ok h1.1 h1.2, rng_ok h2.1 h2.2]
      have hw : wrap64 (b - a) = b - a := by unfold wrap64; omega
      rw [hw]
      by_cases h3 : b < a
      · rw [if_pos h3, decide_eq_false (by omega)]
        simp [fst, unl]
      · rw [if_neg h3, decide_eq_true (by omega)]
        by_cases h4 : 400 < b - a
        · rw [if_pos h4, decide_eq_false (by omega)]
          simp [fst, unl]
        · rw [if_neg h4, decide_eq_true (by omega)]
          simp only [fst, unl, if_true]
          by_cases h5 : rng m 1 127 = 0
          · simp [h5]
          · simp [h5]
    · rw [if_pos (by simpa using h2), rng_ok h1.1 h1.2, rng_bad h2]
      simp [fst]
  · rw [if_pos (by simpa using h1), rng_bad h1]
    simp [fst]
set_option maxRecDepth 100000 in
theorem qCheckPeriod_any (a b m : Int) (w : World) :
    Calls Tryz.prog 128 #[.agg #[.int .i64 a, .int .i64 b, .int .i64 m]] w fun r w' => r = .returned (.int .i64 (perErr a b m)) ∧ Below w.heap.size w w' := by
  obtain ⟨W, HW, hb0, hc0, hc1, hc2⟩ : ∃ W, Hid (w.alloc (.cells #[.int .i64 a, .int .i64 b, .int .i64 m] 82) = W) ∧ Below w.heap.size w W ∧ W.cell? ⟨w.heap.size, 0, none⟩ = some (.int .i64 a) ∧ W.cell? ⟨w.heap.size, 1, none⟩ = some (.int .i64 b) ∧ W.cell? ⟨w.heap.size, 2, none⟩ = some (.int .i64 m) := ⟨_, Lib.hid rfl, below_alloc w _, by simp, by simp, by simp⟩
  have HP := Lib.hid (perErr_eq a b m)
  by_cases h1 : 0 ≤ a ∧ a ≤ 99999
  · have RA : Hid (rng a 0 99999 = 0) := Lib.hid (rng_ok h1.1 h1.2)
    by_cases h2 : 0 ≤ b ∧ b ≤ 99999
    · have RB : Hid (rng b 0 99999 = 0) := Lib.hid (rng_ok h2.1 h2.2)
      by_cases h3 : b < a
      · have HQ : Hid (perErr a b m = 11) := Lib.hid (by rw [HP.out, if_neg (by simpa using h1), if_neg (by simpa using h2), if_pos h3])
        go_enter Tryz.func128, Tryz.ntmps128
        go_wp2_with fail
        rw [HW.out]
        refine (qCheckDay_any _ _).mono ?_
        rintro e w2 ⟨rfl, hw⟩
        rw [hw, RA.out]
        clear hw
        go_wp2_with fail
        refine (qCheckDay_any _ _).mono ?_
        rintro e w2 ⟨rfl, hw⟩
        rw [hw, RB.out]
        clear hw
        go_wp2_with fail
        go_ret
        exact ⟨by rw [HQ.out]; rfl, hb0⟩
      · by_cases h4 : 400 < b - a
        · have HQ : Hid (perErr a b m = 4) := Lib.hid (by rw [HP.out, if_neg (by simpa using h1), if_neg (by simpa using h2), if_neg h3, if_pos h4])
          go_enter Tryz.func128, Tryz.ntmps128
          go_wp2_with fail
          rw [HW.out]
          refine (qCheckDay_any _ _).mono ?_
          rintro e w2 ⟨rfl, hw⟩
          rw [hw, RA.out]
          clear hw
          go_wp2_with fail
          refine (qCheckDay_any _ _).mono ?_
          rintro e w2 ⟨rfl, hw⟩
          rw [hw, RB.out]
          clear hw
          go_wp2_with fail
          go_ret
          exact ⟨by rw [HQ.out]; rfl, hb0⟩
        · have HQ : Hid (perErr a b m = rng m 1 127) := Lib.hid (by rw [HP.out, if_neg (by simpa using h1), if_neg (by simpa using h2), if_neg h3, if_neg h4])
          go_enter Tryz.func128, Tryz.ntmps128
          go_wp2_with fail
          rw [HW.out]
          refine (qCheckDay_any _ _).mono ?_
          rintro e w2 ⟨rfl, hw⟩
          rw [hw, RA.out]
          clear hw
          go_wp2_with fail
          refine (qCheckDay_any _ _).mono ?_
          rintro e w2 ⟨rfl, hw⟩
          rw [hw, RB.out]
          clear hw
          go_wp2_with fail
          refine (qRange_any _ _ _ _).mono ?_
          rintro e w2 ⟨rfl, hw⟩
          rw [hw]
          clear hw
          go_wp2_with fail
          go_ret
          exact ⟨by rw [HQ.out]; rfl, hb0⟩
    · have RB : Hid (rng b 0 99999 = 3) := Lib.hid (rng_bad h2)
      have HQ : Hid (perErr a b m = 3) := Lib.hid (by rw [HP.out, if_neg (by simpa using h1), if_pos h2])
      go_enter Tryz.func128, Tryz.ntmps128
      go_wp2_with fail
      rw [HW.out]
      refine (qCheckDay_any _ _).mono ?_
      rintro e w2 ⟨rfl, hw⟩
      rw [hw, RA.out]
      clear hw
      go_wp2_with fail
      refine (qCheckDay_any _ _).mono ?_
      rintro e w2 ⟨rfl, hw⟩
      rw [hw, RB.out]
      clear hw
      go_wp2_with fail
      go_ret
      exact ⟨by rw [HQ.out]; rfl, hb0⟩
  · have RA : Hid (rng a 0 99999 = 3) := Lib.hid (rng_bad h1)
    have HQ : Hid (perErr a b m = 3) := Lib.hid (by rw [HP.out, if_pos h1])
    go_enter Tryz.func128, Tryz.ntmps128
    go_wp2_with fail
    rw [HW.out]
    refine (qCheckDay_any _ _).mono ?_
    rintro e w2 ⟨rfl, hw⟩
    rw [hw, RA.out]
    clear hw
    go_wp2_with fail
    go_ret
    exact ⟨by rw [HQ.out]; rfl, hb0⟩
end Go.Proofs.YtphoclgibnhjfaaGreat
namespace Go.Proofs.YtphoclgibnhjfaaGreat
open Go Go.RowKit
theorem tm7f (x : Int) : (x.tmod 7) % 7 = x % 7 := by
  have := tm7e x
  omega
theorem two_per (w : World) (a b m : Int) : ∃ W, Hid ((w.alloc (.cells #[.int .i64 a, .int .i64 b, .int .i64 m] 82)).alloc (.cells #[.int .i64 0, .int .i64 0, .int .i64 0] 82) = W) ∧ Below w.heap.size w W ∧
      W.cell? ⟨w.heap.size, 0, none⟩ = some (.int .i64 a) ∧ W.cell? ⟨w.heap.size, 1, none⟩ = some (.int .i64 b) ∧ W.cell? ⟨w.heap.size, 2, none⟩ = some (.int .i64 m) ∧ Res 3 (w.heap.size + 1) W W ∧ w.heap.size + 2 ≤ W.heap.size :=
    ⟨_, Lib.hid rfl, below_alloc2 w _ _, by simp, by simp, by simp, ⟨fun i hi => by
        match i, hi with
        | 0, _ => exact ⟨.int .i64 0, by simp⟩
        | 1, _ => exact ⟨.int .i64 0, by simp⟩
        | 2, _ => exact ⟨.int .i64 0, by simp⟩, fun i hi => by
        match i, hi with
        | 0, _ => simp
        | 1, _ => simp
        | 2, _ => simp, Below.refl _ _⟩, by simp⟩
end Go.Proofs.YtphoclgibnhjfaaGreat
namespace Go.Proofs.YtphoclgibnhjfaaGreat
open Go Go.RowKit
def inSplit (a b day : Int) : Bool := decide (a < day) && decide (day ≤ b)
def splitErr (a b m day : Int) : Int := fst [perErr a b m, unl (inSplit a b day) 30]
def zero6 : Value := .agg #[.int .i64 0, .int .i64 0, .int .i64 0, .int .i64 0, .int .i64 0, .int .i64 0]
theorem perErr_zero {a b m : Int} (h : perErr a b m = 0) : 0 ≤ a ∧ a ≤ b ∧ b ≤ 99999 ∧ b - a ≤ 400 ∧ 1 ≤ m ∧ m ≤ 127 := by
  rw [perErr_eq a b m] at h
  by_cases h1 : 0 ≤ a ∧ a ≤ 99999
  · rw [if_neg (by simpa using h1)] at h
    by_cases h2 : 0 ≤ b ∧ b ≤ 99999
    · rw [if_neg (by simpa using h2)] at h
      by_cases h3 : b < a
      · rw [if_pos h3] at h; omega
      · rw [if_neg h3] at h
        by_cases h4 : 400 < b - a
        · rw [if_pos h4] at h; omega
        · rw [if_neg h4] at h
          have := rng_zero h
          omega
    · rw [if_pos h2] at h; omega
  · rw [if_pos h1] at h; omega
end Go.Proofs.YtphoclgibnhjfaaGreat
namespace Go.Proofs.YtphoclgibnhjfaaGreat
open Go Go.RowKit
end Go.Proofs.YtphoclgibnhjfaaGreat
namespace Go.Proofs.YtphoclgibnhjfaaGreat
open Go Go.RowKit
section
variable {P : Program}
/-- A frame that ends the run as soon as it is resumed. -/
def deadEnd : Frame := { fn := 0, tmps := #[], todo := [.code (.goto 0)], defers := [], mode := .run, kind := .normal }
theorem deadEnd_finish (v : Value) : deadEnd.finish v = deadEnd := rfl
theorem deadEnd_step (w : World) : ∃ o w', step P (lone deadEnd [] w) = .ended o w' := by
  refine ⟨_, _, step_lone_ended (o := .stuck "exit, goto: no such block or label" (deadEnd.pos P)) (w' := w) ?_⟩
  simp [stepG, stepG.exec, deadEnd, gotoIn]
theorem leaves_once {fr1 fr2 : Frame} {w1 w2 : World} {v : Value} (hl : fr1.leaving P w1 (.returned v)) : ∀ k, runN P k (lone fr1 [deadEnd] w1) = .next (lone fr2 [deadEnd] w2) → fr1 = fr2 ∧ w1 = w2
  | 0, h => by
    simp only [runN, Stepped.next.injEq, lone, Machine.mk.injEq] at h
    obtain ⟨h1, h2, _⟩ := h
    have h3 : fr1 = fr2 := by simpa using h2
    exact ⟨h3, h1⟩
  | 1, h => by
    have h' : (match step P (lone fr1 [deadEnd] w1) with | .next m => runN P 0 m | e => e) = .next (lone fr2 [deadEnd] w2) := h
    rw [step_leave_returned hl] at h'
    simp only [runN, Stepped.next.injEq, lone, Machine.mk.injEq] at h'
    obtain ⟨_, h2, _⟩ := h'
    simp at h2
  | k + 2, h => by
    obtain ⟨o, w', he⟩ := deadEnd_step (P := P) w1
    have h' : (match step P (lone fr1 [deadEnd] w1) with | .next m => runN P (k + 1) m | e => e) = .next (lone fr2 [deadEnd] w2) := h
    rw [step_leave_returned hl, deadEnd_finish] at h'
    have h'' : (match step P (lone deadEnd [] w1) with | .next m => runN P k m | e => e) = .next (lone fr2 [deadEnd] w2) := h'
    rw [he] at h''
    cases h''
theorem leaving_one {fr : Frame} {w : World} {v v' : Value} (h : fr.leaving P w (.returned v)) (h' : fr.leaving P w (.returned v')) : v = v' := by
  obtain ⟨_, _, _, fn, hf, hr⟩ := h
  obtain ⟨_, _, _, fn', hf', hr'⟩ := h'
  rw [hf] at hf'
  cases hf'
  rw [hr] at hr'
  cases hr'
  rfl
theorem calls_one {f : FuncId} {args : Array Value} {w : World} {v v' : Value} {R R' : World → Prop} (h : Calls P f args w fun e w' => e = .returned v ∧ R w') (h' : Calls P f args w fun e w' => e = .returned v' ∧ R' w') : v = v' := by
  obtain ⟨_, w1, fr1, ⟨rfl, _⟩, ⟨n1, h1⟩, _, hl1⟩ := h [deadEnd]
  obtain ⟨_, w2, fr2, ⟨rfl, _⟩, ⟨n2, h2⟩, _, hl2⟩ := h' [deadEnd]
  rcases Nat.le_total n1 n2 with hle | hle
  · obtain ⟨k, rfl⟩ := Nat.le.dest hle
    rw [runN_add, h1] at h2
    obtain ⟨rfl, rfl⟩ := leaves_once hl1 k h2
    exact leaving_one hl1 hl2
  · obtain ⟨k, rfl⟩ := Nat.le.dest hle
    rw [runN_add, h2] at h1
    obtain ⟨rfl, rfl⟩ := leaves_once hl2 k h1
    exact leaving_one hl1 hl2
theorem quietAt_one {o : Oper} {a : Act} {C C' : World → Prop} {w : World} {v v' : Value} (h : o.quietAt P a C w v) (h' : o.quietAt P a C' w v') : v = v' := by
  unfold Oper.quietAt at h h'
  generalize (execOp a.eval o).run P w = r at *
  cases r with
  | ok n w' =>
    cases n <;> simp only [Oper.quietUpon] at h h'
    case value u => exact h.2.symm.trans h'.2
    case skip => exact h.2.trans h'.2.symm
    case enter f args => exact calls_one h.2 h'.2
  | halt x w' => simp only [Oper.quietUpon] at h
variable {ops : Array Oper} {md : Region.Mode}
theorem yieldsIn_one {o : Oper} {a : Act} {C C' : World → Prop} {w : World} {v v' : Value} (hw : C w) (hw' : C' w) (h : YieldsIn P ops C o v a) (h' : YieldsIn P ops C' o v' a) : v = v' := by
  rcases h with ⟨g, h⟩ | ⟨g, h⟩ <;> rcases h' with ⟨g', h'⟩ | ⟨g', h'⟩
  · exact quietAt_one (h w hw) (h' w hw')
  · rw [g] at g'; cases g'
  · rw [g] at g'; cases g'
  · rw [h, h']
/-- The worlds that keep what w holds. -/
def Kp (w : World) : World → Prop := fun w' => ∃ x : KeptW w, w' = x.v
theorem Kp.iff {w w' : World} : Kp w w' ↔ Below w.heap.size w w' := ⟨fun ⟨x, h⟩ => h ▸ x.below, fun h => ⟨⟨w', h⟩, rfl⟩⟩
theorem Kp.self (w : World) : Kp w w := Kp.iff.2 (Below.refl _ w)
theorem Kp.trans {w w1 w2 : World} (h : Kp w w1) (k : Kp w1 w2) : Kp w w2 := Kp.iff.2 (b_then (Kp.iff.1 h) (Kp.iff.1 k))
/-- The walk's order: a run of neighbours, from k on. -/
def segB (md : Region.Mode) (ops : Array Oper) : Nat → Nat → Array Bool → Bool
  | 0, _, _ => true
  | f + 1, k, listed => (Region.ready md ops listed).contains k && Region.free md ops listed k && segB md ops f (k + 1) (listed.setIfInBounds k true)
def segTo : Nat → Nat → Array Bool → Array Bool
  | 0, _, listed => listed
  | f + 1, k, listed => segTo f (k + 1) (listed.setIfInBounds k true)
theorem HeadQ.seg {C : World → Prop} {n f : Nat} {L : Array Bool → Act → Prop} (hsel : Region.noSelect ops = true) (hs : Region.sinkB md ops n = true) (hc : Region.chainB md ops n = true) (hn : n < ops.size) (hL : ∀ listed a, L listed a → ∀ j ∈ Region.ready md ops listed, n ≤ j) (l : List Oper) :
    ∀ (k : Nat) (listed : Array Bool) (a : Act), (∀ j, j < l.length → l[j]? = ops[k + j]?) → k + l.length ≤ n → HeadInv md ops n listed → segB md ops l.length k listed = true →
      wpQuiet P ops C (fun a' => HeadInv md ops n (segTo l.length k listed) → HeadQ P md ops C n L f (segTo l.length k listed) a') l a → HeadQ P md ops C n L (l.length + f) listed a := by
  induction l with
  | nil => intro k listed a _ _ inv _ h; rw [List.length_nil, Nat.zero_add]; exact h inv
  | cons o l ih =>
    intro k listed a hl hk inv hB h
    have h0 : ops[k]? = some o := by simpa using (hl 0 (by simp)).symm
    simp only [List.length_cons, segB, Bool.and_eq_true, List.contains_iff_mem] at hB
    have hkn : k < n := by simp only [List.length_cons] at hk; omega
    obtain ⟨v, hy, hK⟩ := yieldsIn_of_qOp (K := wpQuiet P ops C _ l) h0 (by unfold qOp; simp only [h0]; exact h)
    rw [List.length_cons, Nat.succ_add]
    exact HeadQ.first h0 (Region.noSelect_spec hsel) hs hc hn hkn hL _ listed a inv (Region.free_spec h0 hB.1.2) hB.1.1 hy
      (ih (k + 1) _ _ (fun j hj => by have := hl (j + 1) (by simp; omega); simpa [Nat.add_assoc, Nat.add_comm 1 j] using this) (by simp only [List.length_cons] at hk; omega) (inv.set hB.1.1 hkn) hB.2 hK)
theorem wpQuiet_append {C : World → Prop} {Q : Act → Prop} (l1 l2 : List Oper) : ∀ a, wpQuiet P ops C Q (l1 ++ l2) a → wpQuiet P ops C (wpQuiet P ops C Q l2) l1 a := by
  induction l1 with
  | nil => intro a h; exact h
  | cons o l ih =>
    intro a h
    have h' : (if Region.wanted o (yielded ops a.tmps) then o.quiet P a C (wpQuiet P ops C Q (l ++ l2)) else wpQuiet P ops C Q (l ++ l2) (a.put o.dst undef)) := h
    show (if Region.wanted o (yielded ops a.tmps) then o.quiet P a C (wpQuiet P ops C (wpQuiet P ops C Q l2) l) else wpQuiet P ops C (wpQuiet P ops C Q l2) l (a.put o.dst undef))
    split
    · rename_i hw; rw [if_pos hw] at h'; exact Oper.quiet_mono ih h'
    · rename_i hw; rw [if_neg hw] at h'; exact ih _ h'
theorem wpQuiet_mono {C : World → Prop} {Q Q' : Act → Prop} (hQ : ∀ a, Q a → Q' a) (l : List Oper) : ∀ a, wpQuiet P ops C Q l a → wpQuiet P ops C Q' l a := by
  induction l with
  | nil => intro a h; exact hQ a h
  | cons o l ih =>
    intro a h
    have h' : (if Region.wanted o (yielded ops a.tmps) then o.quiet P a C (wpQuiet P ops C Q l) else wpQuiet P ops C Q l (a.put o.dst undef)) := h
    show (if Region.wanted o (yielded ops a.tmps) then o.quiet P a C (wpQuiet P ops C Q' l) else wpQuiet P ops C Q' l (a.put o.dst undef))
    split
    · rename_i hw; rw [if_pos hw] at h'; exact Oper.quiet_mono ih h'
    · rename_i hw; rw [if_neg hw] at h'; exact ih _ h'
/-- An operation that makes the block o and yields its address, in whatever world. -/
def Makes (P : Program) (oi : Oper) (o : Obj) : Prop := oi.guard = none ∧ ∀ (a : Act) (w : World), (execOp a.eval oi).run P w = .ok (.value (.pointer (some ⟨w.heap.size, 0, none⟩))) (w.alloc o)
theorem Makes.wpOp {oi : Oper} {o : Obj} {i : Nat} {Q : Exit → Act → World → Prop} {K : Act → World → Prop} {a : Act} {w : World} (h : Makes P oi o) (hi : ops[i]? = some oi) (hk : K (a.put oi.dst (.pointer (some ⟨w.heap.size, 0, none⟩))) (w.alloc o)) : wpOp P ops Q i K a w := by
  unfold Go.wpOp
  simp only [hi]
  have hw : Region.wanted oi (yielded ops a.tmps) = true := by simp [Region.wanted, h.1]
  simp only [hw, if_true, Oper.wp, h.2 a w, Oper.upon]
  exact .inl hk
/-- The operation that makes a block may be taken first. -/
theorem alloc_first {w0 : World} {n i g : Nat} {oi : Oper} {o : Obj} {L : Nat → Array Bool → Act → Prop} {Q : Exit → Act → World → Prop} (hi : ops[i]? = some oi) (hm : Makes P oi o) (hsel : ∀ (j : Nat) (o : Oper) cs b, ops[j]? = some o → o.op ≠ .select cs b)
    (hs : Region.sinkB md ops n = true) (hc : Region.chainB md ops n = true) (hn : n < ops.size) (hin : i < n) (hdone : ∀ A listed a, L A listed a → ∀ j ∈ Region.ready md ops listed, n ≤ j)
    (hL : ∀ A listed a w, Kp w0 w → w0.heap.size ≤ A → w.heap[A]? = some o → L A listed a → wpAny P md ops Q g listed a w) (f : Nat) :
    ∀ (listed : Array Bool) (a : Act) (w : World), Kp w0 w → HeadInv md ops n listed →
      (∀ j oj, ops[j]? = some oj → j ≠ i → listed.getD j true = false → (∀ e ∈ oj.after, Region.binds md e = true → e.on ≠ i) → oi.apart ops oj = true) →
      i ∈ Region.ready md ops listed → (∀ A w1, Kp w0 w1 → HeadQ P md ops (Kp w1) n (L A) f (listed.setIfInBounds i true) (a.put oi.dst (.pointer (some ⟨A, 0, none⟩)))) → wpAny P md ops Q (f + 1 + g) listed a w := by
  have atI : ∀ (f : Nat) (listed : Array Bool) (a : Act) (w : World), Kp w0 w → (∀ A w1, Kp w0 w1 → HeadQ P md ops (Kp w1) n (L A) f (listed.setIfInBounds i true) (a.put oi.dst (.pointer (some ⟨A, 0, none⟩)))) →
      wpOp P ops Q i (wpAny P md ops Q (f + g) (listed.setIfInBounds i true)) a w := fun f listed a w hw H => by
    refine hm.wpOp hi ?_
    have hk : Kp w0 (w.alloc o) := hw.trans (Kp.iff.2 (below_alloc w o))
    refine HeadQ.any (C := Kp (w.alloc o)) (L := L w.heap.size) (fun listed' a' w' hw' hl => hL _ _ _ _ (hk.trans hw') (Kp.iff.1 hw).size ?_ hl) f _ _ _ (Kp.self _) (H _ _ hk)
    rw [(Kp.iff.1 hw').block w.heap.size (by show _ < (w.heap.push o).size; simp)]
    show (w.heap.push o)[w.heap.size]? = _
    simp
  have heq : ∀ m, m + 1 + g = (m + g) + 1 := fun m => by omega
  induction f with
  | zero =>
    intro listed a w hw inv _ hr H
    rw [heq]
    refine ⟨fun h0 => absurd h0 (List.ne_nil_of_mem hr), fun j hj => ?_⟩
    have hjn : j < n := Nat.lt_of_not_le fun h => tail_waits hs hc hn inv _ i rfl hin (mem_ready.1 hr).1 j h hj
    rcases Nat.decEq j i with hji | hji
    · exact absurd (hdone _ _ _ (H 0 w0 (Kp.self _)) j (ready_mono hj hji)) (by omega)
    · subst hji; exact atI 0 listed a w hw H
  | succ f ih =>
    intro listed a w hw inv hfree hr H
    rw [heq]
    refine ⟨fun h0 => absurd h0 (List.ne_nil_of_mem hr), fun j hj => ?_⟩
    have hjn : j < n := Nat.lt_of_not_le fun h => tail_waits hs hc hn inv _ i rfl hin (mem_ready.1 hr).1 j h hj
    rcases Nat.decEq j i with hji | hji
    · obtain ⟨hun, oj, hoj, hall⟩ := mem_ready.1 hj
      have hnot : ∀ e ∈ oj.after, Region.binds md e = true → e.on ≠ i := fun e he hb heq => by
        have h1 := hall e he hb
        rw [heq, getD_both (mem_ready.1 hr).1] at h1
        cases h1
      have hap := hfree j oj hoj hji hun hnot
      obtain ⟨p1, p2, p3⟩ := Oper.apart_spec hap
      have hone : ∀ A w1, Kp w0 w1 → ∃ v, YieldsIn P ops (Kp w1) oj v a ∧ HeadQ P md ops (Kp w1) n (L A) f ((listed.setIfInBounds i true).setIfInBounds j true) ((a.put oi.dst (.pointer (some ⟨A, 0, none⟩))).put oj.dst v) := fun A w1 hw1 => by
        obtain ⟨v, hy, hk⟩ := yieldsIn_of_qOp hoj ((H A w1 hw1).2 j (ready_mono hj hji)).2
        exact ⟨v, hy.of_same (execOp_put oj (fun cs b => hsel j oj cs b hoj) a oi.dst _ p1).symm (wanted_put oj a oi.dst _ p1).symm, hk⟩
      obtain ⟨v, hv, -⟩ := hone 0 w0 (Kp.self _)
      have hall : ∀ A w1, Kp w0 w1 → HeadQ P md ops (Kp w1) n (L A) f ((listed.setIfInBounds j true).setIfInBounds i true) ((a.put oj.dst v).put oi.dst (.pointer (some ⟨A, 0, none⟩))) := fun A w1 hw1 => by
        obtain ⟨u, hu, hk⟩ := hone A w1 hw1
        obtain rfl : v = u := yieldsIn_one hw1 (Kp.self w1) hv hu
        rw [Array.setIfInBounds_comm _ _ hji, ← Act.put_comm a (.pointer (some ⟨A, 0, none⟩)) v p2]
        exact hk
      obtain ⟨u, hu, -⟩ := hone 0 w hw
      obtain rfl : v = u := yieldsIn_one hw (Kp.self w) hv hu
      refine wpOp_of_qOp (C := Kp w) (K := fun a' => a' = a.put oj.dst v) (Kp.self w) (fun a' w' hw' ha => ?_) (hu.qOp hoj rfl)
      subst ha
      have := ih (listed.setIfInBounds j true) (a.put oj.dst v) w' (hw.trans hw') (inv.set hj hjn) (fun k ok hk hki hk2 hno => hfree k ok hk hki (by
        rcases Nat.decEq j k with hjk | hjk
        · rwa [getD_set_ne true hjk] at hk2
        · subst hjk; exact hun) hno) (ready_mono hr (Ne.symm hji)) hall
      exact this
    · subst hji; exact atI _ listed a w hw H
/-- What the order must be like: number i may come first. -/
def allocB (md : Region.Mode) (ops : Array Oper) (n i : Nat) : Bool :=
  let l0 := Array.replicate ops.size false
  let l1 := l0.setIfInBounds i true
  let l2 := segTo i 0 l1
  Region.noSelect ops && decide (n < ops.size) && decide (i < n) && Region.sinkB md ops n && Region.chainB md ops n && (Region.ready md ops l0).contains i && Region.free md ops l0 i &&
    segB md ops i 0 l1 && segB md ops (n - i - 1) (i + 1) l2 && Region.seqB md ops (ops.size - n) n (segTo (n - i - 1) (i + 1) l2)
theorem alloc_tail {id : Nat} {Q : Exit → Act → World → Prop} {a : Act} {w : World} {l : List Oper} {oi : Oper} {o : Obj} (n i : Nat) (hm : P.follows .mixedOrders = true) (hB : allocB .any l.toArray n i = true) (hi : l[i]? = some oi) (hmk : Makes P oi o)
    (h : ∀ (A : Nat) (w1 : World), Below w.heap.size w w1 → wpQuiet P l.toArray (fun w' => ∃ x : KeptW w1, w' = x.v) (fun a' => ∀ w', Below w.heap.size w w' → w.heap.size ≤ A → w'.heap[A]? = some o → wpList P l.toArray Q (l.drop n) a' w') (l.take i ++ (l.take n).drop (i + 1)) (a.put oi.dst (.pointer (some ⟨A, 0, none⟩)))) :
    (Code.region id l.toArray true).wp P Q a w := by
  simp only [allocB, Bool.and_eq_true, decide_eq_true_eq, List.contains_iff_mem] at hB
  obtain ⟨⟨⟨⟨⟨⟨⟨⟨⟨hsel, hn⟩, hin⟩, hs⟩, hc⟩, hr⟩, hf⟩, hs1⟩, hs2⟩, hq⟩ := hB
  have hlen : n < l.length := by simpa using hn
  have hdl : (l.drop n).length = l.toArray.size - n := by simp
  have hi' : l.toArray[i]? = some oi := by simpa using hi
  have l1 : (l.take i).length = i := by simp; omega
  have l2 : ((l.take n).drop (i + 1)).length = n - i - 1 := by simp; omega
  have inv0 : HeadInv .any l.toArray n (Array.replicate l.toArray.size false) :=
    ⟨by simp, fun j oj _ hl => (by rw [getD_replicate_false] at hl; cases hl), fun t _ ht => getD_in (by simpa using ht) (getD_replicate_false _ _)⟩
  have T := alloc_first (md := .any) (w0 := w) (Q := Q) (g := l.toArray.size - n) (f := n - 1) (L := fun A listed' a' => Region.seqB .any l.toArray (l.toArray.size - n) n listed' = true ∧ ∀ w', Kp w w' → w.heap.size ≤ A → w'.heap[A]? = some o → wpList P l.toArray Q (l.drop n) a' w')
    hi' hmk (Region.noSelect_spec hsel) hs hc hn hin (fun _ _ _ hL => seqB_ready hL.1) (fun A listed' a' w' hw' hA hb hL => by
      have := wpAny_of_seq (md := .any) (Q' := Q) (l.drop n) n listed' a' w' (fun j => by simp [List.getElem?_drop]) (by rw [hdl]; exact hL.1) (hL.2 w' hw' hA hb)
      rwa [hdl] at this) _ a w.drew (Kp.iff.2 (below_drew w)) inv0 (Region.free_spec hi' hf) hr (fun A w1 hw1 => by
        have H := wpQuiet_append _ _ _ (h A w1 (Kp.iff.1 hw1))
        have e1 : n - 1 = (l.take i).length + (((l.take n).drop (i + 1)).length + 0) := by rw [l1, l2]; omega
        rw [e1]
        refine HeadQ.seg hsel hs hc hn (fun _ _ hL => seqB_ready hL.1) _ 0 _ _ (fun j hj => by rw [l1] at hj; simp [hj]) (by rw [l1]; omega) (inv0.set hr hin) (by rw [l1]; exact hs1) ?_
        refine wpQuiet_mono (fun a' h' inv1 => ?_) _ _ H
        rw [l1] at inv1 ⊢
        refine HeadQ.seg hsel hs hc hn (fun _ _ hL => seqB_ready hL.1) _ (i + 1) _ _ (fun j hj => by rw [l2] at hj; rw [List.getElem?_drop, List.getElem?_take_of_lt (by omega)]; simp) (by rw [l2]; omega) inv1 (by rw [l2]; exact hs2) ?_
        refine wpQuiet_mono (fun a'' h'' _ => ?_) _ _ h'
        rw [l2]
        exact ⟨hq, fun w' hw' => h'' w' (Kp.iff.1 hw')⟩)
  rw [Nat.sub_add_cancel (by omega), Nat.add_sub_cancel' (Nat.le_of_lt hn)] at T
  exact wp_region_any hm T
end
end Go.Proofs.YtphoclgibnhjfaaGreat
namespace Go.Proofs.YtphoclgibnhjfaaGreat
open Go Go.RowKit
def shiftErr (a b m d : Int) : Int := fst [perErr a b m, rng d (-99999) 99999]
def zeroPer : Value := .agg #[.int .i64 0, .int .i64 0, .int .i64 0]
theorem fresh_frozen (w : World) (l : Array Value) (T : TypeId) (a : Addr) (h : a.block = w.heap.size) : (w.alloc (.cells l T)).frozen? a = false := by
  have e : (w.alloc (.cells l T)).heap[a.block]? = some (.cells l T (0, 0)) := by rw [h]; show (w.heap.push _)[_]? = _; simp
  unfold World.frozen?
  simp only [e]
  simp
theorem sh_below {a b n : Int} {B : Nat} {W w' w2 : World} (h : w'.cell? ⟨B, 0, none⟩ = some (.int .i64 a) ∧ w'.cell? ⟨B, 1, none⟩ = some (.int .i64 b) ∧ w'.cell? ⟨B, 2, none⟩ = some (.int .i64 n) ∧ Res 3 (B + 1) W w') (hb : Below w'.heap.size w' w2) :
    w2.cell? ⟨B, 0, none⟩ = some (.int .i64 a) ∧ w2.cell? ⟨B, 1, none⟩ = some (.int .i64 b) ∧ w2.cell? ⟨B, 2, none⟩ = some (.int .i64 n) ∧ Res 3 (B + 1) W w2 :=
  ⟨b_old hb h.1, b_old hb h.2.1, b_old hb h.2.2.1, h.2.2.2.more (h.2.2.2.pos (by decide)) hb⟩
theorem sh_set {a b n : Int} {B p : Nat} {W w' : World} (h : w'.cell? ⟨B, 0, none⟩ = some (.int .i64 a) ∧ w'.cell? ⟨B, 1, none⟩ = some (.int .i64 b) ∧ w'.cell? ⟨B, 2, none⟩ = some (.int .i64 n) ∧ Res 3 (B + 1) W w') (hp : B + 2 ≤ p) (x y z : Value) :
    (((w'.setCell ⟨p, 0, none⟩ x).setCell ⟨p, 1, none⟩ y).setCell ⟨p, 2, none⟩ z).cell? ⟨B, 0, none⟩ = some (.int .i64 a) ∧ (((w'.setCell ⟨p, 0, none⟩ x).setCell ⟨p, 1, none⟩ y).setCell ⟨p, 2, none⟩ z).cell? ⟨B, 1, none⟩ = some (.int .i64 b) ∧
      (((w'.setCell ⟨p, 0, none⟩ x).setCell ⟨p, 1, none⟩ y).setCell ⟨p, 2, none⟩ z).cell? ⟨B, 2, none⟩ = some (.int .i64 n) ∧ Res 3 (B + 1) W (((w'.setCell ⟨p, 0, none⟩ x).setCell ⟨p, 1, none⟩ y).setCell ⟨p, 2, none⟩ z) := by
  have hb : Below (B + 2) w' (((w'.setCell ⟨p, 0, none⟩ x).setCell ⟨p, 1, none⟩ y).setCell ⟨p, 2, none⟩ z) := (((Below.refl _ _).setCell (p := ⟨p, 0, none⟩) hp x).setCell (p := ⟨p, 1, none⟩) hp y).setCell (p := ⟨p, 2, none⟩) hp z
  exact ⟨b_keep hb (by omega) h.1, b_keep hb (by omega) h.2.1, b_keep hb (by omega) h.2.2.1, h.2.2.2.up hb⟩
end Go.Proofs.YtphoclgibnhjfaaGreat
namespace Go.Proofs.YtphoclgibnhjfaaGreat
open Go Go.RowKit
theorem block3 {w : World} {A : Nat} {a b c : Value} {T : TypeId} (h : w.heap[A]? = some (.cells #[a, b, c] T)) :
    w.cell? ⟨A, 0, none⟩ = some a ∧ w.cell? ⟨A, 1, none⟩ = some b ∧ w.cell? ⟨A, 2, none⟩ = some c ∧ w.frozen? ⟨A, 0, none⟩ = false ∧ w.frozen? ⟨A, 1, none⟩ = false ∧ w.frozen? ⟨A, 2, none⟩ = false := by
  simp [World.cell?, World.frozen?, h]
theorem below_drewN (w : World) (q : Nat) : Below w.heap.size w (w.drewN q) := ⟨rfl, rfl, rfl, Nat.le_refl _, fun _ _ => rfl⟩
theorem KeptW.calls_drew {P : Program} {w : World} {x : KeptW w} {f : FuncId} {args : Array Value} {u : Value} (h : Calls P f args x.v fun e w' => e = .returned u ∧ ∃ q, w' = x.v.drewN q) :
    Calls P f args x.v fun e w' => e = .returned u ∧ ∃ y : KeptW w, w' = y.v :=
  KeptW.calls (h.mono fun _ _ ⟨he, q, hb⟩ => ⟨he, hb ▸ below_drewN _ q⟩)
end Go.Proofs.YtphoclgibnhjfaaGreat
namespace Go.Proofs.YtphoclgibnhjfaaGreat
open Go Go.RowKit
section
variable {P : Program} {ops : Array Oper} {md : Region.Mode} {w0 : World} {hb : Oper → Bool} {S : Oper → Value → World → Prop}
def QuietIn (P : Program) (w0 : World) (x : Sem Next) (u : Value) : Prop := ∀ w, Kp w0 w → Oper.quietUpon P (Kp w) w u (x.run P w)
def heldUpon (P : Program) (w : World) (R : Value → World → Prop) : Result Next → Prop
  | .ok (.value v) w' => Kp w w' ∧ R v w'
  | .ok .skip w' => Kp w w' ∧ R undef w'
  | .ok (.enter f args) w' => Kp w w' ∧ Calls P f args w' (fun e w'' => ∃ v, e = .returned v ∧ Kp w w'' ∧ R v w'')
  | _ => False
def RX (P : Program) (w0 : World) (hb : Oper → Bool) (S : Oper → Value → World → Prop) (o : Oper) (x : Sem Next) (v : Value) (w : World) : Prop := if hb o = true then S o v w else ∀ u, QuietIn P w0 x u → v = u
def HeldX (P : Program) (w0 : World) (hb : Oper → Bool) (S : Oper → Value → World → Prop) (o : Oper) (x : Sem Next) : Prop := ∀ w, Kp w0 w → heldUpon P w (RX P w0 hb S o x) (x.run P w)
theorem RX.stay (hS : ∀ o v w w', S o v w → Kp w w' → S o v w') {o : Oper} {x : Sem Next} {v : Value} {w w' : World} (h : RX P w0 hb S o x v w) (hw : Kp w w') : RX P w0 hb S o x v w' := by
  unfold RX at *
  split
  · rename_i e; rw [if_pos e] at h; exact hS _ _ _ _ h hw
  · rename_i e; rw [if_neg e] at h; exact h
theorem HeldX.some {o : Oper} {x : Sem Next} (h : HeldX P w0 hb S o x) : ∃ v w, Kp w0 w ∧ RX P w0 hb S o x v w := by
  have h0 := h w0 (Kp.self _)
  generalize x.run P w0 = r at h0
  cases r with
  | ok n w' =>
    cases n
    case value v => exact ⟨v, w', h0⟩
    case skip => exact ⟨_, w', h0⟩
    case enter f args =>
      obtain ⟨e, w'', fr, ⟨v, -, h1, h2⟩, -⟩ := h0.2 []
      exact ⟨v, w'', h1, h2⟩
    all_goals exact (h0 : False).elim
  | halt y w' => exact absurd h0 (by cases y <;> exact id)
def hOp (P : Program) (ops : Array Oper) (w0 : World) (hb : Oper → Bool) (S : Oper → Value → World → Prop) (o : Oper) (K : World → Prop) (a : Act) (next : (World → Prop) → Act → Prop) : Prop :=
  if Region.wanted o (yielded ops a.tmps) then HeldX P w0 hb S o (execOp a.eval o) ∧ ∀ v, (∃ w, Kp w0 w ∧ RX P w0 hb S o (execOp a.eval o) v w) → next (fun w => K w ∧ RX P w0 hb S o (execOp a.eval o) v w) (a.put o.dst v)
  else next K (a.put o.dst undef)
theorem hOp.mono {o : Oper} {K : World → Prop} {a : Act} {next next' : (World → Prop) → Act → Prop} (hn : ∀ K a, next K a → next' K a) (h : hOp P ops w0 hb S o K a next) : hOp P ops w0 hb S o K a next' := by
  unfold hOp at *
  split
  · rename_i e; rw [if_pos e] at h; exact ⟨h.1, fun v hv => hn _ _ (h.2 v hv)⟩
  · rename_i e; rw [if_neg e] at h; exact hn _ _ h
/-- Two operations that are apart may change places. -/
theorem hOp.swap {oi oj : Oper} {K : World → Prop} {a : Act} {next : (World → Prop) → Act → Prop} (hap : oi.apart ops oj = true) (hsi : ∀ cs b, oi.op ≠ .select cs b) (hsj : ∀ cs b, oj.op ≠ .select cs b)
    (h : hOp P ops w0 hb S oi K a (fun K' a' => hOp P ops w0 hb S oj K' a' next)) : hOp P ops w0 hb S oj K a (fun K' a' => hOp P ops w0 hb S oi K' a' next) := by
  obtain ⟨p1, p2, p3⟩ := Oper.apart_spec hap
  have ej : ∀ v, execOp (a.put oi.dst v).eval oj = execOp a.eval oj := fun v => execOp_put oj hsj a oi.dst v p1
  have wj : ∀ v, Region.wanted oj (yielded ops (a.put oi.dst v).tmps) = Region.wanted oj (yielded ops a.tmps) := fun v => wanted_put oj a oi.dst v p1
  have ei : ∀ v, execOp (a.put oj.dst v).eval oi = execOp a.eval oi := fun v => execOp_put oi hsi a oj.dst v p3
  have wi : ∀ v, Region.wanted oi (yielded ops (a.put oj.dst v).tmps) = Region.wanted oi (yielded ops a.tmps) := fun v => wanted_put oi a oj.dst v p3
  have hcomm : ∀ v u, (a.put oi.dst v).put oj.dst u = (a.put oj.dst u).put oi.dst v := fun v u => Act.put_comm a v u p2
  simp only [hOp, ej, wj, ei, wi] at h ⊢
  by_cases hi : Region.wanted oi (yielded ops a.tmps) = true
  · simp only [hi, if_true] at h ⊢
    obtain ⟨hI, hN⟩ := h
    obtain ⟨v0, w1, h1, h2⟩ := hI.some
    by_cases hj : Region.wanted oj (yielded ops a.tmps) = true
    · simp only [hj, if_true] at hN ⊢
      refine ⟨(hN v0 ⟨w1, h1, h2⟩).1, fun u hu => ⟨hI, fun v hv => ?_⟩⟩
      have := (hN v hv).2 u hu
      rw [hcomm] at this
      have e : (fun w => (K w ∧ RX P w0 hb S oi (execOp a.eval oi) v w) ∧ RX P w0 hb S oj (execOp a.eval oj) u w) = (fun w => (K w ∧ RX P w0 hb S oj (execOp a.eval oj) u w) ∧ RX P w0 hb S oi (execOp a.eval oi) v w) := funext fun w => propext ⟨fun h => ⟨⟨h.1.1, h.2⟩, h.1.2⟩, fun h => ⟨⟨h.1.1, h.2⟩, h.1.2⟩⟩
      rw [← e]
      exact this
    · simp only [hj] at hN ⊢
      refine ⟨hI, fun v hv => ?_⟩
      have := hN v hv
      rw [if_neg (by simp)] at this
      rw [hcomm] at this
      exact this
  · simp only [hi] at h ⊢
    rw [if_neg (by simp)] at h
    by_cases hj : Region.wanted oj (yielded ops a.tmps) = true
    · simp only [hj, if_true] at h ⊢
      refine ⟨h.1, fun u hu => ?_⟩
      rw [if_neg (by simp)]
      have := h.2 u hu
      rw [hcomm] at this
      exact this
    · simp only [hj] at h ⊢
      rw [if_neg (by simp)] at h ⊢
      rw [if_neg (by simp)]
      rw [hcomm] at h
      exact h
/-- Whatever order is drawn among the first n operations, f of them; then L. -/
def HeadR (P : Program) (md : Region.Mode) (ops : Array Oper) (w0 : World) (hb : Oper → Bool) (S : Oper → Value → World → Prop) (n : Nat) (L : Array Bool → (World → Prop) → Act → Prop) (f : Nat) : Array Bool → (World → Prop) → Act → Prop :=
  f.rec L fun _ next listed K a => Region.ready md ops listed ≠ [] ∧ ∀ i ∈ Region.ready md ops listed, i < n ∧ ∃ o, ops[i]? = some o ∧ hOp P ops w0 hb S o K a (next (listed.setIfInBounds i true))
theorem HeadR.any {n g : Nat} {L : Array Bool → (World → Prop) → Act → Prop} {Q' : Exit → Act → World → Prop} (hS : ∀ o v w w', S o v w → Kp w w' → S o v w')
    (hL : ∀ listed K a w, Kp w0 w → K w → L listed K a → wpAny P md ops Q' g listed a w) (f : Nat) :
    ∀ (listed : Array Bool) (K : World → Prop) (a : Act) (w : World), (∀ w w', K w → Kp w w' → K w') → Kp w0 w → K w → HeadR P md ops w0 hb S n L f listed K a → wpAny P md ops Q' (f + g) listed a w := by
  induction f with
  | zero => intro listed K a w _ hw hk h; rw [Nat.zero_add]; exact hL _ _ _ _ hw hk h
  | succ f ih =>
    intro listed K a w hK hw hk h
    rw [Nat.succ_add]
    refine ⟨fun h0 => absurd h0 h.1, fun i hi => ?_⟩
    obtain ⟨-, o, ho, h2⟩ := h.2 i hi
    unfold wpOp
    simp only [ho]
    unfold hOp at h2
    split
    · rename_i hwt
      rw [if_pos hwt] at h2
      refine .inl ?_
      have h3 := h2.1 w hw
      unfold Oper.wp
      have hgo : ∀ v w', Kp w w' → RX P w0 hb S o (execOp a.eval o) v w' → wpAny P md ops Q' (f + g) (listed.setIfInBounds i true) (a.put o.dst v) w' := fun v w' h4 h5 =>
        ih _ _ _ w' (fun x y hx hy => ⟨hK _ _ hx.1 hy, hx.2.stay hS hy⟩) (hw.trans h4) ⟨hK _ _ hk h4, h5⟩ (h2.2 v ⟨w', hw.trans h4, h5⟩)
      generalize (execOp a.eval o).run P w = r at h3
      cases r with
      | ok nx w' =>
        cases nx
        case value v => exact hgo _ _ h3.1 h3.2
        case skip => exact hgo _ _ h3.1 h3.2
        case enter fn args => exact Calls.mono h3.2 (fun e w'' h => by obtain ⟨v, he, h4, h5⟩ := h; subst he; exact hgo _ _ h4 h5)
        all_goals exact (h3 : False).elim
      | halt y w' => exact absurd h3 (by cases y <;> exact id)
    · rename_i hwt
      rw [if_neg hwt] at h2
      exact ih _ _ _ w hK hw hk h2
theorem hOp.out {o : Oper} {K : World → Prop} {a : Act} {next : (World → Prop) → Act → Prop} (h : hOp P ops w0 hb S o K a next) : ∃ K' a', next K' a' := by
  unfold hOp at h
  split at h
  · obtain ⟨v, w, h1, h2⟩ := h.1.some
    exact ⟨_, _, h.2 v ⟨w, h1, h2⟩⟩
  · exact ⟨_, _, h⟩
theorem HeadR.first {n i : Nat} {oi : Oper} {L : Array Bool → (World → Prop) → Act → Prop} (hi : ops[i]? = some oi) (hsel : ∀ (j : Nat) (o : Oper) cs b, ops[j]? = some o → o.op ≠ .select cs b)
    (hs : Region.sinkB md ops n = true) (hc : Region.chainB md ops n = true) (hn : n < ops.size) (hin : i < n) (hdone : ∀ listed K a, L listed K a → ∀ j ∈ Region.ready md ops listed, n ≤ j) (f : Nat) :
    ∀ (listed : Array Bool) (K : World → Prop) (a : Act), HeadInv md ops n listed →
      (∀ j oj, ops[j]? = some oj → j ≠ i → listed.getD j true = false → (∀ e ∈ oj.after, Region.binds md e = true → e.on ≠ i) → oi.apart ops oj = true) →
      i ∈ Region.ready md ops listed → hOp P ops w0 hb S oi K a (HeadR P md ops w0 hb S n L f (listed.setIfInBounds i true)) → HeadR P md ops w0 hb S n L (f + 1) listed K a := by
  induction f with
  | zero =>
    intro listed K a inv _ hr H
    refine ⟨List.ne_nil_of_mem hr, fun j hj => ?_⟩
    have hjn : j < n := Nat.lt_of_not_le fun h => tail_waits hs hc hn inv _ i rfl hin (mem_ready.1 hr).1 j h hj
    rcases Nat.decEq j i with hji | hji
    · obtain ⟨K', a', hl⟩ := H.out
      exact absurd (hdone _ _ _ hl j (ready_mono hj hji)) (by omega)
    · subst hji; exact ⟨hjn, oi, hi, H⟩
  | succ f ih =>
    intro listed K a inv hfree hr H
    refine ⟨List.ne_nil_of_mem hr, fun j hj => ?_⟩
    have hjn : j < n := Nat.lt_of_not_le fun h => tail_waits hs hc hn inv _ i rfl hin (mem_ready.1 hr).1 j h hj
    refine ⟨hjn, ?_⟩
    rcases Nat.decEq j i with hji | hji
    · obtain ⟨hun, oj, hoj, hall⟩ := mem_ready.1 hj
      have hnot : ∀ e ∈ oj.after, Region.binds md e = true → e.on ≠ i := fun e he hb heq => by
        have h1 := hall e he hb
        rw [heq, getD_both (mem_ready.1 hr).1] at h1
        cases h1
      have hap := hfree j oj hoj hji hun hnot
      refine ⟨oj, hoj, ?_⟩
      have H2 : hOp P ops w0 hb S oi K a (fun K' a' => hOp P ops w0 hb S oj K' a' (HeadR P md ops w0 hb S n L f ((listed.setIfInBounds j true).setIfInBounds i true))) := H.mono (fun K' a' h => by
        obtain ⟨-, o, ho, h3⟩ := h.2 j (ready_mono hj hji)
        rw [hoj] at ho
        cases ho
        rw [Array.setIfInBounds_comm _ _ hji]
        exact h3)
      refine (H2.swap hap (fun cs b => hsel i oi cs b hi) (fun cs b => hsel j oj cs b hoj)).mono (fun K' a' h => ?_)
      refine ih _ K' a' (inv.set hj hjn) (fun k ok hk hki hk2 hno => hfree k ok hk hki ?_ hno) (ready_mono hr (Ne.symm hji)) h
      rcases Nat.decEq j k with hjk | hjk
      · rwa [getD_set_ne true hjk] at hk2
      · subst hjk; exact hun
    · subst hji; exact ⟨oi, hi, H⟩
/-- The lexical walk. -/
def wpHold (P : Program) (ops : Array Oper) (w0 : World) (hb : Oper → Bool) (S : Oper → Value → World → Prop) (Q : (World → Prop) → Act → Prop) : List Oper → (World → Prop) → Act → Prop
  | [], K, a => Q K a
  | o :: r, K, a => hOp P ops w0 hb S o K a (wpHold P ops w0 hb S Q r)
theorem HeadR.lex {n g : Nat} {Lq : (World → Prop) → Act → Prop} (hsel : Region.noSelect ops = true) (hs : Region.sinkB md ops n = true) (hc : Region.chainB md ops n = true) (hn : n < ops.size) (l : List Oper) :
    ∀ (k : Nat) (listed : Array Bool) (K : World → Prop) (a : Act), (∀ j, j < l.length → l[j]? = ops[k + j]?) → k + l.length = n → HeadInv md ops n listed → Region.lexHead md ops g l.length k listed = true → wpHold P ops w0 hb S Lq l K a →
    HeadR P md ops w0 hb S n (fun listed' K' a' => Region.seqB md ops g n listed' = true ∧ Lq K' a') l.length listed K a := by
  induction l with
  | nil =>
    intro k listed K a _ hk _ hB h
    obtain rfl : k = n := by simpa using hk
    exact ⟨by simpa [Region.lexHead] using hB, h⟩
  | cons o l ih =>
    intro k listed K a hl hk inv hB h
    have h0 : ops[k]? = some o := by simpa using (hl 0 (by simp)).symm
    simp only [List.length_cons, Region.lexHead, Bool.and_eq_true, List.contains_iff_mem] at hB
    have hkn : k < n := by simp only [List.length_cons] at hk; omega
    refine HeadR.first h0 (Region.noSelect_spec hsel) hs hc hn hkn (fun _ _ _ hL => seqB_ready hL.1) l.length listed K a inv (Region.free_spec h0 hB.1.2) hB.1.1 ?_
    exact hOp.mono (fun K' a' h' => ih (k + 1) _ K' a' (fun j hj => by have := hl (j + 1) (by simp; omega); simpa [Nat.add_assoc, Nat.add_comm 1 j] using this) (by simp only [List.length_cons] at hk; omega) (inv.set hB.1.1 hkn) hB.2 h') h
theorem held_tail {id : Nat} {Q : Exit → Act → World → Prop} {a : Act} {w : World} {l : List Oper} (hb : Oper → Bool) (S : Oper → Value → World → Prop) (n : Nat) (hm : P.follows .mixedOrders = true) (hB : Region.lexTailB .any l.toArray n = true)
    (hS : ∀ o v w w', S o v w → Below w.heap.size w w' → S o v w')
    (h : wpHold P l.toArray w hb S (fun K a' => ∀ w', Below w.heap.size w w' → K w' → wpList P l.toArray Q (l.drop n) a' w') (l.take n) (fun _ => True) a) : (Code.region id l.toArray true).wp P Q a w := by
  simp only [Region.lexTailB, Bool.and_eq_true, decide_eq_true_eq] at hB
  obtain ⟨⟨⟨⟨hsel, hn⟩, hs⟩, hc⟩, hlex⟩ := hB
  have hlen : n < l.length := by simpa using hn
  have hln : (l.take n).length = n := by simp; omega
  have hdl : (l.drop n).length = l.toArray.size - n := by simp
  have inv0 : HeadInv .any l.toArray n (Array.replicate l.toArray.size false) :=
    ⟨by simp, fun j oj _ hl => (by rw [getD_replicate_false] at hl; cases hl), fun t _ ht => getD_in (by simpa using ht) (getD_replicate_false _ _)⟩
  have H := HeadR.lex (md := .any) (g := l.toArray.size - n) hsel hs hc hn (l.take n) 0 _ (fun _ => True) a (fun j hj => by
    have hj' : j < n := by rw [hln] at hj; exact hj
    simp [hj']) (by simpa using hln) inv0 (by rw [hln]; exact hlex) h
  have T := HeadR.any (Q' := Q) (g := l.toArray.size - n) (fun o v x y hx hy => hS o v x y hx (Kp.iff.1 hy)) (fun listed K' a' w' hw' hk hL => by
    have := wpAny_of_seq (md := .any) (Q' := Q) (l.drop n) n listed a' w' (fun j => by simp [List.getElem?_drop]) (by rw [hdl]; exact hL.1) (hL.2 w' (Kp.iff.1 hw') hk)
    rwa [hdl] at this) _ _ _ a w.drew (fun _ _ _ _ => trivial) (Kp.iff.2 (below_drew w)) trivial H
  rw [hln, Nat.add_sub_cancel' (Nat.le_of_lt hn)] at T
  exact wp_region_any hm T
theorem wpHold_append {Q : (World → Prop) → Act → Prop} (l1 l2 : List Oper) : ∀ K a, wpHold P ops w0 hb S (wpHold P ops w0 hb S Q l2) l1 K a → wpHold P ops w0 hb S Q (l1 ++ l2) K a := by
  induction l1 with
  | nil => intro K a h; exact h
  | cons o l ih => intro K a h; exact hOp.mono ih h
/-- Operations that yield one value each. -/
theorem hold_quiet {Q : (World → Prop) → Act → Prop} {QQ : Act → Prop} (l : List Oper) (hl : l.all (fun o => !hb o) = true) :
    ∀ (K : World → Prop) (a : Act), (∀ K' a', (∀ w, K' w → K w) → QQ a' → Q K' a') → (∀ w1, Kp w0 w1 → wpQuiet P ops (Kp w1) QQ l a) → wpHold P ops w0 hb S Q l K a := by
  induction l with
  | nil => intro K a hQ h; exact hQ _ _ (fun _ h => h) (h w0 (Kp.self _))
  | cons o l ih =>
    intro K a hQ h
    simp only [List.all_cons, Bool.and_eq_true, Bool.not_eq_true'] at hl
    obtain ⟨ho, hl⟩ := hl
    show hOp P ops w0 hb S o K a (wpHold P ops w0 hb S Q l)
    have h' : ∀ w1, Kp w0 w1 → (if Region.wanted o (yielded ops a.tmps) then o.quiet P a (Kp w1) (wpQuiet P ops (Kp w1) QQ l) else wpQuiet P ops (Kp w1) QQ l (a.put o.dst undef)) := h
    unfold hOp
    split
    · rename_i hw
      simp only [hw, if_true] at h'
      obtain ⟨v0, q0, -⟩ := h' w0 (Kp.self _)
      have hq : ∀ w1, Kp w0 w1 → o.quietAt P a (Kp w1) w1 v0 ∧ wpQuiet P ops (Kp w1) QQ l (a.put o.dst v0) := fun w1 hw1 => by
        obtain ⟨v1, q1, k1⟩ := h' w1 hw1
        obtain rfl : v0 = v1 := quietAt_one (q0 w1 hw1) (q1 w1 (Kp.self _))
        exact ⟨q1 w1 (Kp.self _), k1⟩
      have hone : ∀ w, RX P w0 hb S o (execOp a.eval o) v0 w := fun w => by
        unfold RX
        rw [if_neg (by simp [ho])]
        exact fun u hu => quietAt_one (hq w0 (Kp.self _)).1 (hu w0 (Kp.self _))
      refine ⟨fun w hw0 => ?_, fun v hv => ?_⟩
      · have := (hq w hw0).1
        unfold Oper.quietAt at this
        generalize (execOp a.eval o).run P w = r at this
        cases r with
        | ok n w' =>
          cases n
          case value u => obtain ⟨rfl, rfl⟩ := this; exact ⟨Kp.self _, hone _⟩
          case skip => obtain ⟨rfl, rfl⟩ := this; exact ⟨Kp.self _, hone _⟩
          case enter f args => obtain ⟨rfl, this⟩ := this; exact ⟨Kp.self _, Calls.mono this (fun e w'' h => ⟨v0, h.1, h.2, hone _⟩)⟩
          all_goals exact (this : False).elim
        | halt y w' => exact (this : False).elim
      · obtain ⟨w, hw0, hv⟩ := hv
        unfold RX at hv
        rw [if_neg (by simp [ho])] at hv
        obtain rfl : v = v0 := hv v0 (fun w1 hw1 => (hq w1 hw1).1)
        exact ih hl _ _ (fun K' a' hK' ha' => hQ K' a' (fun w h => (hK' w h).1) ha') (fun w1 hw1 => (hq w1 hw1).2)
    · rename_i hw
      simp only [hw] at h'
      refine ih hl _ _ hQ (fun w1 hw1 => ?_)
      have := h' w1 hw1
      rwa [if_neg (by simp)] at this
/-- An operation that makes memory of its own. -/
theorem hold_at {Q : (World → Prop) → Act → Prop} {o : Oper} {l : List Oper} {K : World → Prop} {a : Act} (ho : hb o = true) (hg : o.guard = none) (hx : ∀ w, Kp w0 w → heldUpon P w (S o) ((execOp a.eval o).run P w))
    (h : ∀ v, (∃ w, Kp w0 w ∧ S o v w) → wpHold P ops w0 hb S Q l (fun w => K w ∧ S o v w) (a.put o.dst v)) : wpHold P ops w0 hb S Q (o :: l) K a := by
  show hOp P ops w0 hb S o K a (wpHold P ops w0 hb S Q l)
  have e : ∀ v w, RX P w0 hb S o (execOp a.eval o) v w = S o v w := fun v w => by unfold RX; rw [if_pos ho]
  have e2 : RX P w0 hb S o (execOp a.eval o) = S o := funext fun v => funext fun w => e v w
  unfold hOp
  rw [if_pos (by simp [Region.wanted, hg])]
  unfold HeldX
  rw [e2]
  exact ⟨hx, h⟩
/-- A run of operations that yield one value each, then the rest. -/
theorem hold_run {Q : (World → Prop) → Act → Prop} {l : List Oper} {K : World → Prop} {a : Act} (k : Nat) (hl : (l.take k).all (fun o => !hb o) = true)
    (h : ∀ w1, Below w0.heap.size w0 w1 → wpQuiet P ops (fun w' => ∃ x : KeptW w1, w' = x.v) (fun a' => ∀ K', (∀ w, K' w → K w) → wpHold P ops w0 hb S Q (l.drop k) K' a') (l.take k) a) : wpHold P ops w0 hb S Q l K a := by
  rw [← List.take_append_drop k l]
  exact wpHold_append _ _ _ _ (hold_quiet _ hl _ _ (fun K' a' hK h => h K' hK) (fun w1 hw1 => h w1 (Kp.iff.1 hw1)))
theorem heldUpon_enter {w : World} {R : Value → World → Prop} {x : Sem Next} {f : FuncId} {args : Array Value} (hx : x.run P w = .ok (.enter f args) w) (hc : Calls P f args w (fun e w' => ∃ v, e = .returned v ∧ Kp w w' ∧ R v w')) : heldUpon P w R (x.run P w) := by
  rw [hx]; exact ⟨Kp.self _, hc⟩
theorem heldUpon_made {w : World} {R : Value → World → Prop} {x : Sem Next} {o : Obj} {v : Value} (hx : x.run P w = .ok (.value v) (w.alloc o)) (hc : R v (w.alloc o)) : heldUpon P w R (x.run P w) := by
  rw [hx]; exact ⟨Kp.iff.2 (below_alloc w o), hc⟩
end
end Go.Proofs.YtphoclgibnhjfaaGreat
namespace Go.Proofs.YtphoclgibnhjfaaGreat
open Go Go.RowKit Ev Go.ChangeMaps Go.MapKept
/-- A call that has returned lines. -/
structure LnR (e : Ending) (w' : World) (N : Nat) (L : List LineV) : Prop where
  ex : ∃ A c, e = .returned (.slice A L.length c) ∧ LnArg w' (.slice A L.length c) L ∧ (0 < L.length → ∀ a : Addr, A = some a → N ≤ a.block)
set_option maxRecDepth 100000 in
theorem lines_zero (A : Option Addr) (c : Nat) (w : World) :
    Calls Tryz.prog 62 #[.slice A 0 c] w fun e w' => LnR e w' w.heap.size [] ∧ Below w.heap.size w w' := by
  go_enter Tryz.func62, Tryz.ntmps62
  go_wp2_with fail
  go_loopw [3, 5, 8] (fun v3 _ i wr => v3 = .slice none 0 0 ∧ i = .int .i64 0 ∧ wr = w) (fun _ _ _ _ => 0)
  case atStart => exact ⟨rfl, rfl, rfl⟩
  case round =>
    obtain ⟨rfl, rfl, rfl⟩ := hrel
    go_wp2_with fail
    go_ret
    exact ⟨⟨none, 0, rfl, .inl ⟨rfl, _, _, rfl⟩, by simp⟩, Below.refl _ _⟩
theorem lines_arg (L : List LineV) (v : Value) (w w' : World) (hv : LnArg w v L) (hb : Below w.heap.size w w') (hn : L.length ≤ 900) :
    Calls Tryz.prog 62 #[v] w' fun e w'' => LnR e w'' w'.heap.size L ∧ Below w'.heap.size w' w'' := by
  rcases hv with ⟨rfl, A, c, rfl⟩ | ⟨h0, b, off, cap, rfl, hl, hc, hs⟩
  · exact lines_zero A c w'
  · refine (lines_any L b off cap w' (hl.below hb) hn).mono ?_
    rintro e w'' ⟨v, rfl, hown, hb2⟩
    have hl := ln_arg_own hown hs
    obtain ⟨A, c, rfl⟩ := hl.len
    refine ⟨⟨A, c, rfl, hl, fun _ a ha => ?_⟩, hb2⟩
    have := pr_blk hown a.block (by rw [ha]; rfl)
    exact this
/-- A call that has returned a message. -/
structure MsgR (e : Ending) (w' : World) (h : HeadV) (L : List LineV) : Prop where
  ex : ∃ v, e = .returned (.agg (h.cells v)) ∧ LnArg w' v L
theorem LnArg.off {w w' : World} {A : Option Addr} {n c : Nat} {L : List LineV} {m : Nat} (h : LnArg w (.slice A n c) L) (ho : Off m w w') (hm : 0 < L.length → ∀ a : Addr, A = some a → a.block ≠ m) : LnArg w' (.slice A n c) L := by
  rcases h with h | ⟨h0, b, off, cap, hv, hl, hc, hs⟩
  · exact .inl h
  · obtain ⟨rfl, rfl, rfl⟩ : A = some ⟨b, off, none⟩ ∧ n = L.length ∧ c = cap := by simpa using hv
    have hne : b ≠ m := hm h0 ⟨b, off, none⟩ rfl
    exact .inr ⟨h0, b, off, c, rfl, ⟨fun k hk t u hu => ho _ _ hne (hl.c k hk t u hu)⟩, hc, hs⟩
theorem Off.set (m k : Nat) (w : World) (v : Value) : Off m w (w.setCell ⟨m, k, none⟩ v) := fun a u ha h => set_other h (fun e => ha (by rw [← e]))
theorem Off.trans {m : Nat} {w1 w2 w3 : World} (h : Off m w1 w2) (k : Off m w2 w3) : Off m w1 w3 := fun a u ha hu => k a u ha (h a u ha hu)
/-- What the call of lines hands back. -/
def LnS (N : Nat) (L : List LineV) (v : Value) (w : World) : Prop := ∃ A c, v = .slice A L.length c ∧ LnArg w (.slice A L.length c) L ∧ (0 < L.length → ∀ a : Addr, A = some a → N ≤ a.block)
set_option maxRecDepth 100000 in
set_option maxHeartbeats 16000000 in
theorem program_any (h : HeadV) (L : List LineV) (v : Value) (w w' : World) (hv : LnArg w v L) (hb : Below w.heap.size w w') (hn : L.length ≤ 900) :
    Calls Tryz.prog 18 #[.agg (h.cells v)] w' fun e w'' => MsgR e w'' h L ∧ Below w'.heap.size w' w'' := by
  obtain ⟨A, c, rfl⟩ := hv.len
  have hlines := fun W hW => lines_arg L _ w W hv hW hn
  obtain ⟨W1, HW1, hb1, R⟩ := head_new w' h (.slice A L.length c) 31
  obtain ⟨W, HW2, hbW, RZ⟩ : ∃ W, Hid (W1.alloc (.cells #[.string ⟨#[]⟩, .string ⟨#[]⟩, .string ⟨#[]⟩, .int .i64 0, .slice none 0 0] 25) = W) ∧ Below W1.heap.size W1 W ∧ RowV W1.heap.size W1.heap.size 5 (fun i => [Value.string ⟨#[]⟩, .string ⟨#[]⟩, .string ⟨#[]⟩, .int .i64 0, .slice none 0 0].getD i undef) W1 W := ⟨_, Lib.hid rfl, below_alloc _ _, RowV.new W1 [.string ⟨#[]⟩, .string ⟨#[]⟩, .string ⟨#[]⟩, .int .i64 0, .slice none 0 0] _⟩
  have e1 : W1.heap.size = w'.heap.size + 1 := by rw [← HW1.out]; simp
  have HR := Lib.hid RZ
  have HWW : Hid (((w'.alloc (.cells (h.cells (.slice A L.length c)) 31)).alloc (.cells #[.string ⟨#[]⟩, .string ⟨#[]⟩, .string ⟨#[]⟩, .int .i64 0, .slice none 0 0] 25)) = W) := Lib.hid (by rw [HW1.out, HW2.out])
  have RB := R.below hbW
  have HB0 := Lib.hid (b_then hb1 hbW)
  have HBB := Lib.hid hb
  have HSZ : Hid (w'.heap.size + 1 < W.heap.size) := Lib.hid (by rw [← e1]; exact cell_in (RZ.c 0 (by decide)))
  rw [e1] at HR
  clear RZ R HW1 HW2 hb hv hb1 hbW
  have R0 : Res 5 (w'.heap.size + 1) W W := ⟨fun i hi => ⟨_, HR.out.c i hi⟩, fun i hi => HR.out.f i hi, Below.refl _ _⟩
  obtain ⟨kind, airport, season, day⟩ := h
  obtain ⟨r0, r1, r2, r3, r4⟩ := RB
  simp only [HeadV.cells] at *
  clear e1 HR
  go_enter Tryz.func18, Tryz.ntmps18
  go_wp2_with fail
  rw [HWW.out]
  clear HWW
  refine held_tail (fun o => o.dst == some 13) (fun _ => LnS W.heap.size L) 12 (by kernel_rfl) (by kernel_rfl) (fun _ v x y hx hy => ?_) ?_
  · obtain ⟨A2, c2, rfl, h2, h3⟩ := hx
    exact ⟨A2, c2, rfl, h2.below hy, h3⟩
  simp only [List.take_succ_cons, List.take_zero, List.drop_succ_cons, List.drop_zero]
  refine hold_run 10 (by kernel_rfl) (fun w1 hw1 => ?_)
  have k0 : ∀ x : KeptW w1, x.v.cell? ⟨w'.heap.size, 0, none⟩ = some (.string kind) := fun x => x.cell (b_old hw1 r0)
  have k1 : ∀ x : KeptW w1, x.v.cell? ⟨w'.heap.size, 1, none⟩ = some (.string airport) := fun x => x.cell (b_old hw1 r1)
  have k2 : ∀ x : KeptW w1, x.v.cell? ⟨w'.heap.size, 2, none⟩ = some (.string season) := fun x => x.cell (b_old hw1 r2)
  have k3 : ∀ x : KeptW w1, x.v.cell? ⟨w'.heap.size, 3, none⟩ = some (.int .i64 day) := fun x => x.cell (b_old hw1 r3)
  have k4 : ∀ x : KeptW w1, x.v.cell? ⟨w'.heap.size, 4, none⟩ = some (.slice A L.length c) := fun x => x.cell (b_old hw1 r4)
  have hne : Nonempty (KeptW w1) := ⟨⟨w1, Below.refl _ _⟩⟩
  simp only [List.take_succ_cons, List.take_zero, List.drop_succ_cons, List.drop_zero]
  iterate 10 (go_big_quiet_step (fail))
  refine wpQuiet_nil ?_
  intro K1 _
  refine hold_at rfl rfl (fun w2 hw2 => ?_) ?_
  · refine heldUpon_enter (f := 62) (args := #[.slice A L.length c]) (by simp [go_sem]) ((hlines w2 (b_then HBB.out (b_then HB0.out (Kp.iff.1 hw2)))).mono ?_)
    rintro e w5 ⟨⟨A2, c2, rfl, hL, hlo⟩, hb5⟩
    exact ⟨_, rfl, Kp.iff.2 hb5, A2, c2, rfl, hL, fun h0 a ha => Nat.le_trans (Kp.iff.1 hw2).size (hlo h0 a ha)⟩
  rintro v2 ⟨_, -, A2, c2, rfl, -⟩
  refine hold_run 1 (by kernel_rfl) (fun w3 hw3 => ?_)
  simp only [List.take_succ_cons, List.take_zero, List.drop_succ_cons, List.drop_zero, Act.put, List.setIfInBounds_toArray, List.set_cons_succ, List.set_cons_zero]
  have hne3 : Nonempty (KeptW w3) := ⟨⟨w3, Below.refl _ _⟩⟩
  go_big_quiet_step (fail)
  refine wpQuiet_nil ?_
  intro K2 hK2 w4 hw4 hk4
  obtain ⟨A3, c3, he, hL, hlo⟩ := (hK2 _ hk4).2
  cases he
  have R1 := R0.more (R0.pos (by decide)) hw4
  obtain ⟨v0, q0⟩ := R1.cell 0 (by decide)
  obtain ⟨v1, q1⟩ := R1.cell 1 (by decide)
  obtain ⟨v2, q2⟩ := R1.cell 2 (by decide)
  obtain ⟨v3, q3⟩ := R1.cell 3 (by decide)
  obtain ⟨v4, q4⟩ := R1.cell 4 (by decide)
  have g0 := R1.frozen 0 (by decide)
  have g1 := R1.frozen 1 (by decide)
  have g2 := R1.frozen 2 (by decide)
  have g3 := R1.frozen 3 (by decide)
  have g4 := R1.frozen 4 (by decide)
  have RF := ((((R1.set 0 (.string kind)).set 1 (.string airport)).set 2 (.string season)).set 3 (.int .i64 day)).set 4 (.slice A2 L.length c2)
  have HO : Hid (LnArg (((((w4.setCell ⟨w'.heap.size + 1, 0, none⟩ (.string kind)).setCell ⟨w'.heap.size + 1, 1, none⟩ (.string airport)).setCell ⟨w'.heap.size + 1, 2, none⟩ (.string season)).setCell ⟨w'.heap.size + 1, 3, none⟩ (.int .i64 day)).setCell ⟨w'.heap.size + 1, 4, none⟩ (.slice A2 L.length c2)) (.slice A2 L.length c2) L) := Lib.hid
    (hL.off (((((Off.set _ 0 w4 _).trans (Off.set _ 1 _ _)).trans (Off.set _ 2 _ _)).trans (Off.set _ 3 _ _)).trans (Off.set _ 4 _ _)) (fun h0 a ha => by have h1 := hlo h0 a ha; have h2 := HSZ.out; intro e; rw [e] at h1; omega))
  have HBL := Lib.hid (HB0.out.trans (RF.below.mono (by omega)))
  clear RF R1 hL hlo hK2 hk4 hw4 hne hne3 k0 k1 k2 k3 k4 r0 r1 r2 r3 r4 R0 HSZ hw1 hw3
  go_wp2_with fail
  exact bodyPost_ret (v := .agg #[.string kind, .string airport, .string season, .int .i64 day, .slice A2 L.length c2]) (by simp [results, Tryz.results18, go_sem, q0, q1, q2, q3, q4]) rfl ⟨⟨_, rfl, HO.out⟩, HBL.out⟩
end Go.Proofs.YtphoclgibnhjfaaGreat
namespace Go.Proofs.YtphoclgibnhjfaaGreat
open Go Go.RowKit
/-- A value that is a slice of these requests. -/
def RqArg (w : World) (v : Value) (l : List ReqV) : Prop :=
  (l = [] ∧ ∃ A c, v = .slice A 0 c) ∨ (0 < l.length ∧ ∃ b off cap, v = .slice (some ⟨b, off, none⟩) l.length cap ∧ RqsAt w b off l ∧ l.length ≤ cap ∧ ∀ k, k < l.length → (l.getD k default).name.size ≤ maxLen)
end Go.Proofs.YtphoclgibnhjfaaGreat
namespace Go.Proofs.YtphoclgibnhjfaaGreat
open Go Go.RowKit Go.ChangeMaps Go.MapKept
def rqFlat (l : List ReqV) : List Value := (l.map fun q => q.cells.toList).flatten
theorem rqFlat_len (l : List ReqV) : (rqFlat l).length = l.length * 13 := by
  induction l with
  | nil => rfl
  | cons x r ih =>
    have e : rqFlat (x :: r) = x.cells.toList ++ rqFlat r := by simp [rqFlat]
    rw [e, List.length_append, ih]
    simp [ReqV.cells]; omega
theorem rqFlat_at (l : List ReqV) : ∀ (k t : Nat), k < l.length → t < 13 → (rqFlat l)[k * 13 + t]? = (l.getD k default).cells[t]? := by
  induction l with
  | nil => intro k t h; simp at h
  | cons x r ih =>
    intro k t h ht
    have e : rqFlat (x :: r) = x.cells.toList ++ rqFlat r := by simp [rqFlat]
    have hs : x.cells.toList.length = 13 := by simp [ReqV.cells]
    cases k with
    | zero => rw [e, List.getElem?_append_left (by omega)]; simp
    | succ j =>
      rw [e, List.getElem?_append_right (by omega), hs, show (j + 1) * 13 + t - 13 = j * 13 + t by omega, ih j t (by simpa using h) ht]
      simp
theorem rqInfo_parts : ∃ i0, Tryz.prog.info? 84 = some i0 ∧ i0.zero = some (.agg #[.string ⟨#[]⟩, .string ⟨#[]⟩, .string ⟨#[]⟩, .string ⟨#[]⟩, .string ⟨#[]⟩, .string ⟨#[]⟩, .int .i64 0, .int .i64 0, .int .i64 0, .int .i64 0, .int .i64 0, .int .i64 0, .int .i64 0]) ∧ i0.size = 13 ∧ i0.bytes = 152 := by
  have h : (Tryz.prog.info? 84).map (fun i => (i.zero, i.size, i.bytes)) = some (some (.agg #[.string ⟨#[]⟩, .string ⟨#[]⟩, .string ⟨#[]⟩, .string ⟨#[]⟩, .string ⟨#[]⟩, .string ⟨#[]⟩, .int .i64 0, .int .i64 0, .int .i64 0, .int .i64 0, .int .i64 0, .int .i64 0, .int .i64 0]), 13, 152) := by kernel_rfl
  cases hp : Tryz.prog.info? 84 with
  | none => rw [hp] at h; simp at h
  | some i => rw [hp] at h; simp only [Option.map_some, Option.some.injEq, Prod.mk.injEq] at h; exact ⟨i, rfl, h.1, h.2.1, h.2.2⟩
theorem rqFlat_cells {w : World} {b off : Nat} {l : List ReqV} (h : RqsAt w b off l) : ∀ j u, (rqFlat l)[j]? = some u → w.cell? ((⟨b, off, none⟩ : Addr).add j) = some u := fun j u hu => by
  have hj : j < l.length * 13 := by
    have := (List.getElem?_eq_some_iff.1 hu).1
    rwa [rqFlat_len] at this
  have hk : j / 13 < l.length := by omega
  have e := rqFlat_at l (j / 13) (j % 13) hk (by omega)
  rw [show j / 13 * 13 + j % 13 = j by omega, hu] at e
  have := h.c (j / 13) hk (j % 13) u e.symm
  rw [Go.WideShapes.add_plain]
  rw [show off + j / 13 * 13 + j % 13 = off + j by omega] at this
  exact this
theorem rqFlat_one (l : List ReqV) : ∀ u ∈ rqFlat l, u.oneCell' = true := fun u hu => by
  unfold rqFlat at hu
  obtain ⟨x, hx, hu⟩ := List.mem_flatten.1 hu
  obtain ⟨q, -, rfl⟩ := List.mem_map.1 hx
  simp only [ReqV.cells, List.mem_cons, List.not_mem_nil, or_false] at hu
  rcases hu with rfl | rfl | rfl | rfl | rfl | rfl | rfl | rfl | rfl | rfl | rfl | rfl | rfl <;> rfl
theorem rqs_own {w : World} {base g c : Nat} {l : List ReqV} (h : w.ownsRow base 84 13 (.slice (some ⟨g, 0, none⟩) l.length c) l.length (rqFlat l)) : RqsAt w g 0 l :=
  ⟨fun k hk t v hv => by
    have ht : t < 13 := by
      have := (Array.getElem?_eq_some_iff.1 hv).1
      simpa [ReqV.cells] using this
    have e : w.cell? ⟨g, k * 13 + t, none⟩ = (rqFlat l)[k * 13 + t]? := h.cellAt _ (by omega)
    rw [rqFlat_at l k t hk ht, hv] at e
    rw [Nat.zero_add]
    exact e⟩
/-- A call that has returned a copy. -/
structure CopyR (e : Ending) (w' : World) (l : List ReqV) : Prop where
  ex : ∃ g c, e = .returned (.slice (some ⟨g, 0, none⟩) l.length c) ∧ RqsAt w' g 0 l ∧ g < w'.heap.size
set_option maxRecDepth 100000 in
set_option maxHeartbeats 2000000 in
theorem copied_any (l : List ReqV) (b off cap : Nat) (w : World) (hl : RqsAt w b off l) (hpos : 0 < l.length) (h9 : l.length ≤ 900) :
    Calls Tryz.prog 25 #[.slice (some ⟨b, off, none⟩) l.length cap] w fun e w' => CopyR e w' l ∧ Below w.heap.size w w' := by
  have HN := Lib.hid (rqFlat_cells (hl.below (below_alloc w (.cells #[] 84))))
  have HO1 := Lib.hid (rqFlat_one l)
  have hlen := rqFlat_len l
  obtain ⟨i0, hi, hz0, hz1, hz2⟩ := rqInfo_parts
  have hlit : (w.alloc (.cells #[] 84)).ownsRow w.heap.size 84 13 (.slice (some ⟨w.heap.size, 0, none⟩) 0 0) 0 [] := World.ownsRow_lit w #[] 0 (Nat.le_refl _) (by unfold maxLen; omega) rfl
  clear hl
  go_enter Tryz.func25, Tryz.ntmps25
  go_wp2_with (at_builtin; refine Hid.out ?_)
  refine Lib.hid ?_
  refine wpList_append_own _ rfl _ _ 50 rfl w.heap.size 84 i0 _ 13 152 Tryz.underlying50 hi hz0 hz1 hz2 rfl (by decide) _ 0 [] rfl hlit ⟨b, off, none⟩ l.length cap (rqFlat l) rfl (by rw [hlen]) HN.out HO1.out (by unfold maxLen; omega) (by omega) (by simp) ?_
  intro v' w4 hown hgrow _
  have hb4 : Below w.heap.size w w4 := ((Below.refl _ w).alloc (Nat.le_refl _) _).grown hgrow (by simp) (pr_blk hlit)
  rw [Nat.zero_add, List.nil_append] at hown
  clear hgrow HN HO1
  obtain ⟨g, cp, rfl⟩ := ownsRow_succ (k := l.length - 1) (by rw [Nat.sub_add_cancel hpos]; exact hown)
  rw [Nat.sub_add_cancel hpos] at hown ⊢
  have hR := rqs_own hown
  have hg : g < w4.heap.size := cell_in (hR.c 0 hpos 0 _ rfl)
  clear hown
  go_wp2_with fail
  go_ret
  exact ⟨⟨g, cp, rfl, hR, hg⟩, hb4⟩
theorem copied_zero (A : Option Addr) (c : Nat) (w : World) :
    Calls Tryz.prog 25 #[.slice A 0 c] w fun e w' => CopyR e w' [] ∧ Below w.heap.size w w' := by
  have hp : ∀ w : World, Sem.run Tryz.prog (pure (#[] : Array Value)) w = .ok #[] w := fun _ => rfl
  have hst : ∀ (a : Addr) (w : World), Sem.run Tryz.prog (storeCells a []) w = .ok () w := fun _ _ => rfl
  cases A
  · go_enter Tryz.func25, Tryz.ntmps25
    go_wp2_with fail
    go_ret
    exact ⟨⟨_, _, rfl, ⟨by simp⟩, by simp⟩, below_alloc _ _⟩
  · go_enter Tryz.func25, Tryz.ntmps25
    go_wp2_with fail
    go_ret
    exact ⟨⟨_, _, rfl, ⟨by simp⟩, by simp⟩, below_alloc _ _⟩
end Go.Proofs.YtphoclgibnhjfaaGreat
namespace Go.Proofs.YtphoclgibnhjfaaGreat
open Go Go.RowKit Go.ChangeMaps Go.MapKept
section
variable {α : Type} {f : α → Array Value} {k : Nat}
def flatG (f : α → Array Value) (l : List α) : List Value := (l.map fun x => (f x).toList).flatten
theorem flatG_snoc (l : List α) (x : α) : flatG f (l ++ [x]) = flatG f l ++ (f x).toList := by simp [flatG]
theorem flatG_len (hk : ∀ x, (f x).size = k) (l : List α) : (flatG f l).length = l.length * k := by
  induction l with
  | nil => simp [flatG]
  | cons x r ih =>
    have e : flatG f (x :: r) = (f x).toList ++ flatG f r := by simp [flatG]
    rw [e, List.length_append, ih, Array.length_toList, hk x, List.length_cons, Nat.add_mul, Nat.one_mul, Nat.add_comm]
/-- A call that has returned a slice of these structs, of its own. -/
structure SlR (f : α → Array Value) (k : Nat) (T : TypeId) (e : Ending) (w' : World) (N : Nat) (l : List α) : Prop where
  ex : ∃ v, e = .returned v ∧ w'.ownsRow N T k v l.length (flatG f l)
end
section
variable {α : Type} [Inhabited α] {f : α → Array Value} {k : Nat}
/-- The cells of a slice of structs. -/
structure RowsAt (f : α → Array Value) (k : Nat) (w : World) (b off : Nat) (l : List α) : Prop where
  c : ∀ i, i < l.length → ∀ t v, (f (l.getD i default))[t]? = some v → w.cell? ⟨b, off + i * k + t, none⟩ = some v
theorem RowsAt.below {w w' : World} {b off : Nat} {l : List α} (h : RowsAt f k w b off l) (hb : Below w.heap.size w w') : RowsAt f k w' b off l := ⟨fun i hi t v hv => b_old hb (h.c i hi t v hv)⟩
theorem RowsAt.grown {w w' : World} {b off : Nat} {l : List α} {r : Nat} (h : RowsAt f k w b off l) (hg : w.grownBy w' (some r)) (hne : b ≠ r) : RowsAt f k w' b off l := ⟨fun i hi t v hv => gb_cell hg (h.c i hi t v hv) hne⟩
theorem flatG_at (hk : ∀ x, (f x).size = k) (l : List α) : ∀ (i t : Nat), i < l.length → t < k → (flatG f l)[i * k + t]? = (f (l.getD i default))[t]? := by
  induction l with
  | nil => intro i t h; simp at h
  | cons x r ih =>
    intro i t h ht
    have e : flatG f (x :: r) = (f x).toList ++ flatG f r := by simp [flatG]
    have hs : (f x).toList.length = k := by rw [Array.length_toList, hk x]
    cases i with
    | zero => rw [e, List.getElem?_append_left (by omega)]; simp
    | succ j =>
      have e2 : (j + 1) * k + t = k + (j * k + t) := by rw [Nat.add_mul, Nat.one_mul]; omega
      rw [e, e2, List.getElem?_append_right (by omega), hs, Nat.add_sub_cancel_left, ih j t (by simpa using h) ht]
      simp
theorem flatG_take (l : List α) (i : Nat) (h : i < l.length) : flatG f (l.take (i + 1)) = flatG f (l.take i) ++ (f (l.getD i default)).toList := by
  rw [← flatG_snoc]
  congr 1
  rw [List.take_succ_eq_append_getElem h]; simp [List.getD_eq_getElem?_getD, List.getElem?_eq_getElem h]
theorem rowsG_own (hk : ∀ x, (f x).size = k) {T : TypeId} {w : World} {base g c : Nat} {l : List α} (h : w.ownsRow base T k (.slice (some ⟨g, 0, none⟩) l.length c) l.length (flatG f l)) : RowsAt f k w g 0 l :=
  ⟨fun i hi t v hv => by
    have ht : t < k := by
      have := (Array.getElem?_eq_some_iff.1 hv).1
      rwa [hk] at this
    have hlt : i * k + t < l.length * k := by
      have : (i + 1) * k ≤ l.length * k := Nat.mul_le_mul_right k hi
      rw [Nat.add_mul, Nat.one_mul] at this
      omega
    have e : w.cell? ⟨g, i * k + t, none⟩ = (flatG f l)[i * k + t]? := h.cellAt _ hlt
    rw [flatG_at hk l i t hi ht, hv] at e
    rw [Nat.zero_add]
    exact e⟩
theorem rowsG_cells (hk : ∀ x, (f x).size = k) (hp : 0 < k) {w : World} {b off : Nat} {l : List α} (h : RowsAt f k w b off l) : ∀ j u, (flatG f l)[j]? = some u → w.cell? ((⟨b, off, none⟩ : Addr).add j) = some u := fun j u hu => by
  have hj : j < l.length * k := by
    have := (List.getElem?_eq_some_iff.1 hu).1
    rwa [flatG_len hk] at this
  have hi : j / k < l.length := Nat.div_lt_of_lt_mul (by rwa [Nat.mul_comm])
  have hd := Nat.div_add_mod' j k
  have e := flatG_at hk l (j / k) (j % k) hi (Nat.mod_lt _ hp)
  rw [hd, hu] at e
  have := h.c (j / k) hi (j % k) u e.symm
  rw [Go.WideShapes.add_plain]
  rw [Nat.add_assoc, hd] at this
  exact this
/-- A value that is a slice of these structs. -/
def SlArg (f : α → Array Value) (k : Nat) (w : World) (v : Value) (l : List α) : Prop :=
  (l = [] ∧ ∃ A c, v = .slice A 0 c) ∨ (0 < l.length ∧ ∃ b off cap, v = .slice (some ⟨b, off, none⟩) l.length cap ∧ RowsAt f k w b off l ∧ l.length ≤ cap ∧ b < w.heap.size)
theorem SlArg.len {w : World} {v : Value} {l : List α} (h : SlArg f k w v l) : ∃ A c, v = .slice A l.length c := by
  rcases h with ⟨rfl, A, c, rfl⟩ | ⟨_, b, off, cap, rfl, _⟩
  · exact ⟨A, c, rfl⟩
  · exact ⟨_, _, rfl⟩
theorem SlArg.below {w w' : World} {v : Value} {l : List α} (h : SlArg f k w v l) (hb : Below w.heap.size w w') : SlArg f k w' v l := by
  rcases h with h | ⟨h0, b, off, cap, hv, hl, hc, hg⟩
  · exact .inl h
  · exact .inr ⟨h0, b, off, cap, hv, hl.below hb, hc, Nat.lt_of_lt_of_le hg hb.size⟩
theorem slArg_own (hk : ∀ x, (f x).size = k) (hp : 0 < k) {T : TypeId} {w : World} {base : Nat} {v : Value} {l : List α} (h : w.ownsRow base T k v l.length (flatG f l)) : SlArg f k w v l := by
  rcases Nat.eq_zero_or_pos l.length with h0 | h0
  · have e : l = [] := List.length_eq_zero_iff.1 h0
    rw [h0] at h
    obtain ⟨A, c, rfl⟩ := pr_zero h
    exact .inl ⟨e, A, c, rfl⟩
  · have h' := h
    rw [show l.length = (l.length - 1) + 1 by omega] at h'
    obtain ⟨g, cp, hv⟩ := ownsRow_succ h'
    rw [Nat.sub_add_cancel h0] at hv
    subst hv
    have hR := rowsG_own hk h
    have hne : ∃ u, (f (l.getD 0 default))[0]? = some u := ⟨_, Array.getElem?_eq_getElem (by rw [hk]; exact hp)⟩
    obtain ⟨u, hu⟩ := hne
    exact .inr ⟨h0, g, 0, cp, rfl, hR, own_cap h, cell_in (hR.c 0 h0 0 u hu)⟩
end
/-- Struct equality, field by field. -/
theorem eqF_nil {P : Program} (d : Nat) (xs ys : Array Value) (w : World) : (Op.eqFields d xs ys []).run P w = .ok true w := by simp [Op.eqFields]
theorem eqF_cons {P : Program} {d : Nat} {xs ys : Array Value} {f : Field} {fs : List Field} {w : World} {a b : Value} {r s : Bool} (hn : f.name ≠ "_") (ha : (part f.type xs f.offset).run P w = .ok a w) (hb : (part f.type ys f.offset).run P w = .ok b w)
    (hr : (Op.equalIn d f.type a b).run P w = .ok r w) (hs : (Op.eqFields d xs ys fs).run P w = .ok s w) : (Op.eqFields d xs ys (f :: fs)).run P w = .ok (r && s) w := by
  simp only [Op.eqFields, if_pos hn, Sem.run_bind, ha, hb, hr, Result.andThen_ok, Sem.run_ite]
  cases r
  · simp
  · simpa using hs
end Go.Proofs.YtphoclgibnhjfaaGreat
namespace Go.Proofs.YtphoclgibnhjfaaGreat
open Go Go.RowKit Go.ChangeMaps Go.MapKept
theorem ba_ext {a b : ByteArray} (h : a.data = b.data) : a = b := ByteArray.ext h
theorem ex_ex (s : ByteArray) (a k l : Nat) (hl : a + l ≤ s.size) : (s.extract a s.size).extract k l = s.extract (a + k) (a + l) := by
  apply ba_ext
  simp only [ByteArray.data_extract, Array.extract_extract]
  congr 1
  omega
theorem ex_size (s : ByteArray) (a : Nat) (_ : a ≤ s.size) : (s.extract a s.size).size = s.size - a := by
  simp [ByteArray.size_extract]
theorem ex_get (s : ByteArray) (a i : Nat) : (s.extract a s.size).data.toList[i]? = s.data.toList[a + i]? := by
  have hs : s.size = s.data.size := rfl
  simp only [ByteArray.data_extract, Array.getElem?_toList]
  rw [Array.getElem?_extract]
  split
  · rfl
  · rename_i h
    rw [Array.getElem?_eq_none]
    simp at h
    omega
/-- From here on a text is what is left after some words. -/
structure AtW (s : ByteArray) (j a : Nat) : Prop where
  le : a ≤ s.size
  rest : restAt s j = s.extract a s.size
theorem AtW.zero (s : ByteArray) : AtW s 0 0 := ⟨Nat.zero_le _, by
  apply ba_ext
  show s.data = (s.extract 0 s.size).data
  simp only [ByteArray.data_extract]
  exact (Array.extract_size (xs := s.data)).symm⟩
theorem blank_uniq {s : ByteArray} {k : Nat} (hk : k < s.size) (h1 : s.data.toList[k]? = some 32) (h2 : ∀ i, i < k → s.data.toList[i]? ≠ some 32) : blankAt s = k := by
  rcases blank_cases s with ⟨h, hn⟩ | ⟨m, h, hm, hm1, hm2⟩
  · exact absurd h1 (hn k hk)
  · rcases Nat.lt_trichotomy m k with h3 | h3 | h3
    · exact absurd hm1 (h2 m h3)
    · rw [h, h3]
    · exact absurd h1 (hm2 k h3)
theorem AtW.cut {s : ByteArray} {j a i : Nat} (h : AtW s j a) (ha : a ≤ i) (hi : i < s.size) (hb : s.data.toList[i]? = some 32) (hn : ∀ k, a ≤ k → k < i → s.data.toList[k]? ≠ some 32) : cwAt s j = s.extract a i ∧ AtW s (j + 1) (i + 1) := by
  have e : blankAt (s.extract a s.size) = ((i - a : Nat) : Int) := blank_uniq (by rw [ex_size s a h.le]; omega) (by rw [ex_get, show a + (i - a) = i by omega]; exact hb) (fun k hk => by rw [ex_get]; exact hn _ (by omega) (by omega))
  have ec : cutB (s.extract a s.size) = (s.extract a i, s.extract (i + 1) s.size) := by
    unfold cutB
    rw [e, if_neg (by omega), Int.toNat_natCast, ex_size s a h.le, ex_ex s a 0 (i - a) (by omega), ex_ex s a (i - a + 1) (s.size - a) (by have := h.le; omega)]
    rw [show a + (i - a) = i by omega, show a + (i - a + 1) = i + 1 by omega, show a + (s.size - a) = s.size by have := h.le; omega]; rfl
  refine ⟨?_, ⟨by omega, ?_⟩⟩
  · show (cutB (restAt s j)).1 = _; rw [h.rest, ec]
  · show (cutB (restAt s j)).2 = _; rw [h.rest, ec]
theorem AtW.last {s : ByteArray} {j a : Nat} (h : AtW s j a) (hn : ∀ k, a ≤ k → k < s.size → s.data.toList[k]? ≠ some 32) : cwAt s j = s.extract a s.size := by
  show (cutB (restAt s j)).1 = _
  rw [h.rest]
  unfold cutB
  rcases blank_cases (s.extract a s.size) with ⟨h1, _⟩ | ⟨m, h1, hm, hm1, _⟩
  · rw [if_pos (by omega)]
  · rw [ex_get] at hm1
    rw [ex_size s a h.le] at hm
    exact absurd hm1 (hn _ (by omega) (by omega))
theorem count_step (s : ByteArray) (i : Nat) (hi : i < s.size) : (s.data.toList.take (i + 1)).count 32 = (s.data.toList.take i).count 32 + (if s.data.toList[i]? = some 32 then 1 else 0) := by
  have hl : i < s.data.toList.length := by simpa using hi
  rw [List.take_succ_eq_append_getElem hl, List.count_append, List.getElem?_eq_getElem hl]
  by_cases h : s.data.toList[i] = 32
  · rw [h]; simp
  · have h' : ¬ s.data[i] = 32 := by simpa using h
    simp [h']
/-- The words of a text. -/
def splits (s : ByteArray) : List ByteArray := (List.range (nWords s)).map (cwAt s)
def strC (t : ByteArray) : Array Value := #[.string t]
instance : Inhabited ByteArray := ⟨⟨#[]⟩⟩
theorem splits_take (s : ByteArray) (j : Nat) (h : j < nWords s) : flatG strC ((splits s).take (j + 1)) = flatG strC ((splits s).take j) ++ [.string (cwAt s j)] := by
  have hl : j < (splits s).length := by simpa [splits] using h
  rw [flatG_take _ j hl]
  congr 1
  simp [splits, strC, List.getD_eq_getElem?_getD, h]
theorem strInfo : ∃ i0, Tryz.prog.info? 9 = some i0 ∧ i0.zero = some (.string ⟨#[]⟩) ∧ i0.size = 1 ∧ i0.bytes = 16 := by
  have h : (Tryz.prog.info? 9).map (fun i => (i.zero, i.size, i.bytes)) = some (some (.string ⟨#[]⟩), 1, 16) := by kernel_rfl
  cases hp : Tryz.prog.info? 9 with
  | none => rw [hp] at h; simp at h
  | some i => rw [hp] at h; simp only [Option.map_some, Option.some.injEq, Prod.mk.injEq] at h; exact ⟨i, rfl, h.1, h.2.1, h.2.2⟩
/-- Where the reference stands in a text: words so far, from where on the next one begins. -/
structure Cur (s : ByteArray) (i j a : Nat) : Prop where
  at_ : AtW s j a
  le : a ≤ i
  no : ∀ k, a ≤ k → k < i → s.data.toList[k]? ≠ some 32
  cnt : (s.data.toList.take i).count 32 = j
theorem Cur.lt {s : ByteArray} {i j a : Nat} (h : Cur s i j a) : j < nWords s := by
  unfold nWords Lib.countByte
  rw [← h.cnt]
  have := List.Sublist.count_le (a := (32 : UInt8)) (List.take_sublist i s.data.toList)
  omega
theorem Cur.skip {s : ByteArray} {i j a : Nat} (h : Cur s i j a) (hi : i < s.size) (hn : s.data.toList[i]? ≠ some 32) : Cur s (i + 1) j a :=
  ⟨h.at_, by have := h.le; omega, fun k h1 h2 => by
    by_cases e : k = i
    · subst e; exact hn
    · exact h.no k h1 (by omega), by rw [count_step s i hi, if_neg hn]; exact h.cnt⟩
theorem Cur.word {s : ByteArray} {i j a : Nat} (h : Cur s i j a) (hi : i < s.size) (hb : s.data.toList[i]? = some 32) : cwAt s j = s.extract a i ∧ Cur s (i + 1) (j + 1) (i + 1) := by
  obtain ⟨h1, h2⟩ := h.at_.cut h.le hi hb h.no
  exact ⟨h1, h2, Nat.le_refl _, fun k h3 h4 => by omega, by rw [count_step s i hi, if_pos hb, h.cnt]⟩
theorem Cur.last {s : ByteArray} {j a : Nat} (h : Cur s s.size j a) : cwAt s j = s.extract a s.size ∧ j + 1 = nWords s :=
  ⟨h.at_.last h.no, by
    have := h.cnt
    rw [List.take_of_length_le (by simp)] at this
    unfold nWords Lib.countByte
    omega⟩
set_option maxRecDepth 100000 in
set_option maxHeartbeats 4000000 in
theorem split_any (s : ByteArray) (hs : s.size ≤ 100000) (w : World) :
    Calls Tryz.prog 57 #[.string s] w fun e w' => SlR strC 1 9 e w' w.heap.size (splits s) ∧ Below w.heap.size w w' := by
  obtain ⟨i0, hi, hz0, hz1, hz2⟩ := strInfo
  have HC0 : Hid (Cur s 0 0 0) := Lib.hid ⟨AtW.zero s, Nat.le_refl _, fun k _ h => by omega, by simp⟩
  have HSK := Lib.hid (fun i j a (h : Cur s i j a) => h.skip)
  have HWD := Lib.hid (fun i j a (h : Cur s i j a) => h.word)
  have HLS := Lib.hid (fun j a (h : Cur s s.size j a) => h.last)
  have HTK := Lib.hid (splits_take s)
  have HNW : Hid (nWords s ≤ 100001) := Lib.hid (by
    have : Lib.countByte s.data.toList 32 ≤ s.size := Nat.le_trans (List.count_le_length) (by simp)
    unfold nWords; omega)
  have HLT := Lib.hid (fun i j a (h : Cur s i j a) => h.lt)
  have HSL : Hid ((splits s).length = nWords s) := Lib.hid (by simp [splits])
  generalize splits s = sp at *
  go_enter Tryz.func57, Tryz.ntmps57
  go_wp2_with fail
  go_loopw [3, 4, 5] (fun v3 v4 v5 wr => ∃ (i j a : Nat), v5 = .int .i64 i ∧ v4 = .int .i64 a ∧ i ≤ s.size + 1 ∧ a ≤ s.size + 1 ∧ wr.ownsRow w.heap.size 9 1 v3 j (flatG strC (sp.take j)) ∧ Hid ((i ≤ s.size ∧ Cur s i j a) ∨ (i = s.size + 1 ∧ j = nWords s)) ∧ Hid (Below w.heap.size w wr)) (fun _ _ v5 _ => s.size + 1 - (intOf v5).toNat)
  case atStart => exact ⟨0, 0, 0, rfl, rfl, Nat.zero_le _, Nat.zero_le _, World.ownsRow_nil _ _ _ _, Lib.hid (.inl ⟨Nat.zero_le _, HC0.out⟩), Lib.hid (Below.refl _ _)⟩
  case round =>
    obtain ⟨i, j, a, rfl, rfl, hi1, ha1, hown, HH, HB⟩ := hrel
    have hsz := HB.out.size
    rcases HH.out with ⟨hle, hc⟩ | ⟨he, hj⟩
    · have HC := Lib.hid hc
      have hjl := HLT.out i j a hc
      have hnw := HNW.out
      have hac := hc.le
      have hlen := flatG_len (f := strC) (k := 1) (fun _ => rfl) (sp.take j)
      rw [List.length_take, HSL.out, Nat.min_eq_left (by omega)] at hlen
      clear hc HH
      by_cases hlt : i < s.size
      · have hbn : ((i : Int) == (s.size : Int)) = false := by simp; omega
        have b0 : (i : Int) < s.size := by omega
        have hget : s.data.toList[i]? = some (s[i]'hlt) := by
          rw [Array.getElem?_toList, Array.getElem?_eq_getElem (show i < s.data.size from hlt)]; rfl
        by_cases h32 : s[i]'hlt = 32
        · obtain ⟨hw, hc2⟩ := HWD.out i j a HC.out hlt (by rw [hget, h32])
          have h8 : ((((s[i]'hlt).toNat : Nat) : Int) == 32) = true := by rw [h32]; rfl
          have HF : Hid (flatG strC (sp.take (j + 1)) = flatG strC (sp.take j) ++ [.string (s.extract a i)]) := Lib.hid (by rw [HTK.out j hjl, hw])
          have HA := Lib.hid (hown.alloc (.cells #[.string (s.extract a i)] 9))
          have HNB : Hid ((wr.alloc (.cells #[.string (s.extract a i)] 9)).heap[wr.heap.size]? = some (.cells #[.string (s.extract a i)] 9 (0, 0))) := Lib.hid (heap_new _ _)
          go_wp2_with (at_builtin; refine Hid.out ?_)
          refine Lib.hid ?_
          refine wpList_append_own _ rfl _ _ 115 rfl w.heap.size 9 i0 (.string ⟨#[]⟩) 1 16 Tryz.underlying115 hi hz0 hz1 hz2 rfl (by decide) _ j _ rfl HA.out ⟨wr.heap.size, 0, none⟩ 1 1 [.string (s.extract a i)] rfl rfl
            (World.news_of_block (cs := #[.string (s.extract a i)]) (t := 9) (fr := (0, 0)) HNB.out) (by simp [Value.oneCell']) (by unfold maxLen; omega) (by omega) (by simp; omega) ?_
          intro v' w4 hown' hgrow _
          have hb4 : Below w.heap.size w w4 := (HB.out.alloc hsz _).grown hgrow (by simp; omega) (pr_blk HA.out)
          rw [show flatG strC (sp.take j) ++ [.string (s.extract a i)] = flatG strC (sp.take (j + 1)) from HF.out.symm] at hown'
          clear hgrow HA HNB hown
          go_wp2_with fail
          refine ⟨⟨i + 1, j + 1, i + 1, by go_num, by go_num, by omega, by omega, by simpa using hown', Lib.hid (.inl ⟨by omega, hc2⟩), Lib.hid hb4⟩, by simp [intOf]; omega⟩
        · have hsk := HSK.out i j a HC.out hlt (by rw [hget]; simpa using h32)
          have h8 : ((((s[i]'hlt).toNat : Nat) : Int) == 32) = false := by
            have : (s[i]'hlt).toNat ≠ 32 := fun e => h32 (UInt8.toNat_inj.1 e)
            simp; omega
          go_wp2_with fail
          refine ⟨⟨i + 1, j, a, by go_num, rfl, by omega, by omega, hown, Lib.hid (.inl ⟨by omega, hsk⟩), HB⟩, by simp [intOf]; omega⟩
      · obtain rfl : i = s.size := by omega
        have hbn : ((s.size : Int) == (s.size : Int)) = true := by simp
        obtain ⟨hw, hjn⟩ := HLS.out j a HC.out
        have HF : Hid (flatG strC (sp.take (j + 1)) = flatG strC (sp.take j) ++ [.string (s.extract a s.size)]) := Lib.hid (by rw [HTK.out j hjl, hw])
        have HA := Lib.hid (hown.alloc (.cells #[.string (s.extract a s.size)] 9))
        have HNB : Hid ((wr.alloc (.cells #[.string (s.extract a s.size)] 9)).heap[wr.heap.size]? = some (.cells #[.string (s.extract a s.size)] 9 (0, 0))) := Lib.hid (heap_new _ _)
        go_wp2_with (at_builtin; refine Hid.out ?_)
        refine Lib.hid ?_
        refine wpList_append_own _ rfl _ _ 115 rfl w.heap.size 9 i0 (.string ⟨#[]⟩) 1 16 Tryz.underlying115 hi hz0 hz1 hz2 rfl (by decide) _ j _ rfl HA.out ⟨wr.heap.size, 0, none⟩ 1 1 [.string (s.extract a s.size)] rfl rfl
          (World.news_of_block (cs := #[.string (s.extract a s.size)]) (t := 9) (fr := (0, 0)) HNB.out) (by simp [Value.oneCell']) (by unfold maxLen; omega) (by omega) (by simp; omega) ?_
        intro v' w4 hown' hgrow _
        have hb4 : Below w.heap.size w w4 := (HB.out.alloc hsz _).grown hgrow (by simp; omega) (pr_blk HA.out)
        rw [show flatG strC (sp.take j) ++ [.string (s.extract a s.size)] = flatG strC (sp.take (j + 1)) from HF.out.symm] at hown'
        clear hgrow HA HNB hown
        go_wp2_with fail
        refine ⟨⟨s.size + 1, j + 1, s.size + 1, by go_num, by go_num, by omega, by omega, by simpa using hown', Lib.hid (.inr ⟨rfl, hjn⟩), Lib.hid hb4⟩, by simp [intOf]⟩
    · subst he
      rw [hj, ← HSL.out, List.take_length] at hown
      clear HH
      have hgt : ¬ (((s.size + 1 : Nat) : Int) ≤ (s.size : Int)) := by omega
      go_wp2_with fail
      go_ret
      exact ⟨⟨_, rfl, hown⟩, HB.out⟩
end Go.Proofs.YtphoclgibnhjfaaGreat
namespace Go.Proofs.YtphoclgibnhjfaaGreat
open Go Go.RowKit Go.ChangeMaps Go.MapKept
/-- Where the first line feed of a text is, or -1. -/
def feedAt (s : ByteArray) : Int := Lib.indexByte s.data.toList 10
/-- The first line of a text, with its line feed, and what stands behind it. -/
def takeL (s : ByteArray) : ByteArray × ByteArray :=
  if feedAt s < 0 then (s, ⟨#[]⟩) else (s.extract 0 ((feedAt s).toNat + 1), s.extract ((feedAt s).toNat + 1) s.size)
theorem feed_cases (s : ByteArray) : (feedAt s = -1 ∧ ∀ i, i < s.size → s.data.toList[i]? ≠ some 10) ∨ ∃ k : Nat, feedAt s = k ∧ k < s.size ∧ s.data.toList[k]? = some 10 ∧ ∀ i, i < k → s.data.toList[i]? ≠ some 10 := by
  unfold feedAt
  have hg := Lib.indexByte_ge s.data.toList 10
  rcases Int.lt_or_le (Lib.indexByte s.data.toList 10) 0 with h | h
  · have e : Lib.indexByte s.data.toList 10 = -1 := by omega
    exact .inl ⟨e, fun i _ => Lib.indexByte_none e i⟩
  · obtain ⟨k, e⟩ := Int.eq_ofNat_of_zero_le h
    obtain ⟨h1, h2⟩ := Lib.indexByte_some e
    refine .inr ⟨k, e, ?_, h1, h2⟩
    have := (List.getElem?_eq_some_iff.1 h1).1
    simpa using this
theorem feed_uniq {s : ByteArray} {k : Nat} (hk : k < s.size) (h1 : s.data.toList[k]? = some 10) (h2 : ∀ i, i < k → s.data.toList[i]? ≠ some 10) : feedAt s = k := by
  rcases feed_cases s with ⟨h, hn⟩ | ⟨m, h, hm, hm1, hm2⟩
  · exact absurd h1 (hn k hk)
  · rcases Nat.lt_trichotomy m k with h3 | h3 | h3
    · exact absurd hm1 (h2 m h3)
    · rw [h, h3]
    · exact absurd h1 (hm2 k h3)
theorem takeL_rest (s : ByteArray) (h : 0 < s.size) : (takeL s).2.size < s.size := by
  unfold takeL
  rcases feed_cases s with ⟨e, _⟩ | ⟨k, e, hk, _⟩
  · rw [if_pos (by omega)]; exact h
  · rw [if_neg (by omega), e]
    simp [ByteArray.size_extract]; omega
theorem takeL_first (s : ByteArray) : (takeL s).1.size ≤ s.size := by
  unfold takeL
  split
  · exact Nat.le_refl _
  · simp [ByteArray.size_extract]; omega
/-- The lines of a text, with fuel. -/
def pcsF : Nat → ByteArray → List ByteArray
  | 0, _ => []
  | f + 1, s => if s.size = 0 then [] else (takeL s).1 :: pcsF f (takeL s).2
theorem pcsF_more : ∀ (f g : Nat) (s : ByteArray), s.size ≤ f → s.size ≤ g → pcsF f s = pcsF g s
  | 0, 0, _, _, _ => rfl
  | 0, g + 1, s, h, _ => by unfold pcsF; rw [if_pos (by omega)]
  | f + 1, 0, s, _, h => by unfold pcsF; rw [if_pos (by omega)]
  | f + 1, g + 1, s, h1, h2 => by
    unfold pcsF
    by_cases h : s.size = 0
    · rw [if_pos h, if_pos h]
    · rw [if_neg h, if_neg h]
      have := takeL_rest s (by omega)
      rw [pcsF_more f g (takeL s).2 (by omega) (by omega)]
/-- The lines of a text. -/
def pcs (s : ByteArray) : List ByteArray := pcsF s.size s
theorem pcs_none {s : ByteArray} (h : s.size = 0) : pcs s = [] := by
  unfold pcs; rw [h]; rfl
theorem pcs_some {s : ByteArray} (h : 0 < s.size) : pcs s = (takeL s).1 :: pcs (takeL s).2 := by
  unfold pcs
  obtain ⟨f, hf⟩ : ∃ f, s.size = f + 1 := ⟨s.size - 1, by omega⟩
  have hr := takeL_rest s h
  rw [hf]
  show (if s.size = 0 then [] else (takeL s).1 :: pcsF f (takeL s).2) = _
  rw [if_neg (by omega), pcsF_more f (takeL s).2.size (takeL s).2 (by omega) (Nat.le_refl _)]
theorem pcs_len : ∀ (n : Nat) (s : ByteArray), s.size ≤ n → (pcs s).length ≤ s.size
  | 0, s, h => by rw [pcs_none (by omega)]; exact Nat.zero_le _
  | n + 1, s, h => by
    by_cases h0 : s.size = 0
    · rw [pcs_none h0]; exact Nat.zero_le _
    · rw [pcs_some (by omega)]
      have h1 := takeL_rest s (by omega)
      have := pcs_len n (takeL s).2 (by omega)
      simp; omega
theorem pcs_size : ∀ (n : Nat) (s : ByteArray), s.size ≤ n → ∀ t ∈ pcs s, t.size ≤ s.size
  | 0, s, h => by rw [pcs_none (by omega)]; simp
  | n + 1, s, h => by
    by_cases h0 : s.size = 0
    · rw [pcs_none h0]; simp
    · rw [pcs_some (by omega)]
      have h1 := takeL_rest s (by omega)
      intro t ht
      rcases List.mem_cons.1 ht with rfl | ht
      · exact takeL_first s
      · have := pcs_size n (takeL s).2 (by omega) t ht
        omega
/-- From byte a on, the text is cut at byte i, a line feed. -/
theorem takeL_at {s : ByteArray} {a i : Nat} (ha : a ≤ i) (hi : i < s.size) (hb : s.data.toList[i]? = some 10) (hn : ∀ k, a ≤ k → k < i → s.data.toList[k]? ≠ some 10) : takeL (s.extract a s.size) = (s.extract a (i + 1), s.extract (i + 1) s.size) := by
  have e : feedAt (s.extract a s.size) = ((i - a : Nat) : Int) := feed_uniq (by rw [ex_size s a (by omega)]; omega) (by rw [ex_get, show a + (i - a) = i by omega]; exact hb) (fun k hk => by rw [ex_get]; exact hn _ (by omega) (by omega))
  unfold takeL
  rw [e, if_neg (by omega), Int.toNat_natCast, ex_size s a (by omega), ex_ex s a 0 (i - a + 1) (by omega), ex_ex s a (i - a + 1) (s.size - a) (by omega)]
  rw [show a + (i - a + 1) = i + 1 by omega, show a + (s.size - a) = s.size by omega]; rfl
theorem takeL_end {s : ByteArray} {a : Nat} (ha : a ≤ s.size) (hn : ∀ k, a ≤ k → k < s.size → s.data.toList[k]? ≠ some 10) : takeL (s.extract a s.size) = (s.extract a s.size, ⟨#[]⟩) := by
  unfold takeL
  rcases feed_cases (s.extract a s.size) with ⟨h1, _⟩ | ⟨m, h1, hm, hm1, _⟩
  · rw [if_pos (by omega)]
  · rw [ex_get] at hm1
    rw [ex_size s a ha] at hm
    exact absurd hm1 (hn _ (by omega) (by omega))
/-- Where the reference stands in a text: lines so far, from where on the next one begins. -/
structure CurL (s : ByteArray) (i a : Nat) (out : List ByteArray) : Prop where
  le : a ≤ i
  no : ∀ k, a ≤ k → k < i → s.data.toList[k]? ≠ some 10
  eq : pcs s = out ++ pcs (s.extract a s.size)
theorem CurL.zero (s : ByteArray) : CurL s 0 0 [] := ⟨Nat.le_refl _, fun k _ h => by omega, by
  have : s.extract 0 s.size = s := by
    apply ba_ext
    simp only [ByteArray.data_extract]
    exact Array.extract_size (xs := s.data)
  rw [this]; rfl⟩
theorem CurL.skip {s : ByteArray} {i a : Nat} {out : List ByteArray} (h : CurL s i a out) (hn : s.data.toList[i]? ≠ some 10) : CurL s (i + 1) a out :=
  ⟨by have := h.le; omega, fun k h1 h2 => by
    by_cases e : k = i
    · subst e; exact hn
    · exact h.no k h1 (by omega), h.eq⟩
theorem CurL.line {s : ByteArray} {i a : Nat} {out : List ByteArray} (h : CurL s i a out) (hi : i < s.size) (hb : s.data.toList[i]? = some 10) : CurL s (i + 1) (i + 1) (out ++ [s.extract a (i + 1)]) :=
  ⟨Nat.le_refl _, fun k h1 h2 => by omega, by
    rw [h.eq, pcs_some (s := s.extract a s.size) (by rw [ex_size s a (by have := h.le; omega)]; have := h.le; omega), takeL_at h.le hi hb h.no]
    simp⟩
theorem CurL.last {s : ByteArray} {a : Nat} {out : List ByteArray} (h : CurL s s.size a out) (ha : a < s.size) : pcs s = out ++ [s.extract a s.size] := by
  rw [h.eq, pcs_some (s := s.extract a s.size) (by rw [ex_size s a (by omega)]; omega), takeL_end (by omega) h.no, pcs_none (s := ⟨#[]⟩) rfl]
theorem CurL.done {s : ByteArray} {a : Nat} {out : List ByteArray} (h : CurL s s.size a out) (ha : ¬ a < s.size) : pcs s = out := by
  have e : a = s.size := by have := h.le; omega
  rw [h.eq, pcs_none (s := s.extract a s.size) (by rw [ex_size s a h.le]; omega), List.append_nil]
end Go.Proofs.YtphoclgibnhjfaaGreat
