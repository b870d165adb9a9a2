/- Contract of the reference's CheckMessage, for every message. · Contracts of the reference: lines and messages that are short. · Contracts of the statements: a message of the reference as one of the program. · Contract of the statements' program: a message of the reference as one of the program. · The walk of MessagePrints. · What a value is that is a slice of requests. · Arguments that are a request, or a slice of requests, opened. · Arguments that are a line. · Arguments that are a message. · Arguments read again behind the call: whatever their types, they read as they did where the call leaves the old memory as it was. · What the listed package-level variables give the walks. -/
import Derived.Test.YtlcmcknbbmokjaaGreatPm23
import Derived.Test.YtlcmcknbbmokjaaGreatPm13
import Derived.Test.YtlcmcknbbmokjaaGreatPm15
import Derived.Test.YtlcmcknbbmokjaaGreatPm2
import Derived.RangeFuncBox
import Derived.Shelf.RegionOpen
import Derived.Test.YtlcmcknbbmokjaaGreatPm22
import Derived.Test.YtlcmcknbbmokjaaGreatPm19
import Derived.ProofKit
import Derived.ChangeSame
import Derived.OpenShut
import Derived.Deep.Strs
import Derived.Deep.Slices
import Derived.WideShapes
import Derived.Lib.SmallJoins
import Derived.Test.YtlcmcknbbmokjaaGreatPm1
import Derived.WideKeyArgs
import Derived.ChangeShapes
import Derived.Below
import Derived.Test.YtlcmcknbbmokjaaGreatRows
import Derived.Test.YtlcmcknbbmokjaaGreatPm4
import Derived.Lib.LaidTab
import Derived.Stop.LaidErr
import Derived.LaidMore
namespace Go.Proofs.YtlcmcknbbmokjaaGreat
open Go Go.RowKit Ev
set_option maxRecDepth 100000 in
set_option maxHeartbeats 1000000 in
theorem refLines_zero (kind : ByteArray) (A : Option Addr) (c : Nat) (w : World) :
    Calls Tryz.prog 78 #[.string kind, .slice A 0 c] w fun e w' => e = .returned (.tuple #[.int .i64 0, .int .i64 0]) ∧ Below w.heap.size w w' := by
  go_enter Tryz.func78, Tryz.ntmps78
  go_wp2_with fail
  go_loopw [6, 7, 8] (fun i _ _ wr => i = .int .i64 0 ∧ wr = w) (fun _ _ _ _ => 0)
  case atStart => exact ⟨rfl, rfl⟩
  case round =>
    obtain ⟨rfl, rfl⟩ := hrel
    go_wp2_with fail
    go_ret2
    exact ⟨rfl, Below.refl _ _⟩
theorem wlGo_nil (kind : ByteArray) : wlGo kind [] zeroLine 0 = (0, 0) := by
  unfold wlGo
  rw [if_neg (by show ¬ ((⟨#[]⟩ : ByteArray).toList == [67]) = true; rw [empty_toList]; decide)]
theorem refLines_arg (kind : ByteArray) (L : List LineV) (v : Value) (w w' : World) (hv : LnArg w v L) (hb : Below w.heap.size w w') (hn : L.length ≤ 900) (hk : kindM kind = true) :
    Calls Tryz.prog 78 #[.string kind, v] w' fun e w'' => e = .returned (.tuple #[.int .i64 (wlGo kind L zeroLine 0).1, .int .i64 (wlGo kind L zeroLine 0).2]) ∧ Below w'.heap.size w' w'' := by
  rcases hv with ⟨rfl, A, c, rfl⟩ | ⟨h0, b, off, cap, rfl, hl, hc, hs⟩
  · rw [wlGo_nil]; exact refLines_zero kind A c w'
  · exact refLines_any kind L b off cap w' (hl.below hb) hn hk
set_option maxRecDepth 100000 in
set_option maxHeartbeats 4000000 in
theorem refMessage_any (h : HeadV) (L : List LineV) (v : Value) (w w' : World) (hv : LnArg w v L) (hb : Below w.heap.size w w') :
    Calls Tryz.prog 21 #[.agg (h.cells v)] w' fun e w'' => e = .returned (.int .i64 (msgErr h L)) ∧ Below w'.heap.size w' w'' := by
  have HE : Hid (msgErr h L = if fst [fst [unl (kindM h.kind) 13, nameE h.airport, unl (seasonB h.season) 1, rng h.day 0 99999], unl (decide ((L.length : Int) ≤ 64)) 5] ≠ 0 then fst [fst [unl (kindM h.kind) 13, nameE h.airport, unl (seasonB h.season) 1, rng h.day 0 99999], unl (decide ((L.length : Int) ≤ 64)) 5] else (wlGo h.kind L zeroLine 0).2) := Lib.hid rfl
  have HH : Hid (hdErr h.airport h.season h.day = fst [nameE h.airport, unl (seasonB h.season) 1, rng h.day 0 99999]) := Lib.hid rfl
  obtain ⟨A, c, rfl⟩ := hv.len
  have hh := qCheckHead_any h.airport h.season h.day
  have hwl : kindM h.kind = true → L.length ≤ 64 → _ := fun hk h64 => fun (W : World) (hW : Below w.heap.size w W) => refLines_arg h.kind L _ w W hv hW (by omega) hk
  have HKM : Hid (kindM h.kind = (h.kind.toList == [82, 69, 81] || h.kind.toList == [65, 78, 83])) := Lib.hid rfl
  generalize msgErr h L = me at HE ⊢
  generalize hdErr h.airport h.season h.day = he at HH hh
  generalize nameE h.airport = e1 at HE HH
  generalize seasonB h.season = sb at HE HH
  generalize rng h.day 0 99999 = rd at HE HH
  generalize wlGo h.kind L zeroLine 0 = P at HE hwl
  generalize kindM h.kind = km at HE HKM hwl
  obtain ⟨W, HW, hb0, R⟩ := head_new w' h (.slice A L.length c) 38
  have HBB := Lib.hid hb
  have HWLN := Lib.hid hwl
  have HHE : Hid (fst [fst [0, e1, unl sb 1, rd], 0] = he) := Lib.hid (by rw [HH.out]; generalize unl sb 1 = u; simp only [fst]; repeat' split <;> simp_all)
  obtain ⟨kind, airport, season, day⟩ := h
  obtain ⟨r0, r1, r2, r3, r4⟩ := R
  simp only [HeadV.cells] at *
  have HX := Lib.hid (HW.out.trans (show W = (KeptW.mk (w := W) W (Below.refl _ _)).v from rfl))
  have k0 : ∀ x : KeptW W, x.v.cell? ⟨w'.heap.size, 0, none⟩ = _ := fun x => x.cell r0
  have k1 : ∀ x : KeptW W, x.v.cell? ⟨w'.heap.size, 1, none⟩ = _ := fun x => x.cell r1
  have k2 : ∀ x : KeptW W, x.v.cell? ⟨w'.heap.size, 2, none⟩ = _ := fun x => x.cell r2
  have k3 : ∀ x : KeptW W, x.v.cell? ⟨w'.heap.size, 3, none⟩ = _ := fun x => x.cell r3
  have k4 : ∀ x : KeptW W, x.v.cell? ⟨w'.heap.size, 4, none⟩ = _ := fun x => x.cell r4
  generalize KeptW.mk (w := W) W (Below.refl _ _) = x0 at HX
  clear r0 r1 r2 r3 r4 hv hb hwl HW
  have main : ∀ (hkq : (kind.toList == [82, 69, 81]) = true ∨ ((kind.toList == [82, 69, 81]) = false ∧ (kind.toList == [65, 78, 83]) = true)), km = true →
      Calls Tryz.prog 21 #[.agg #[.string kind, .string airport, .string season, .int .i64 day, .slice A L.length c]] w' fun e w'' => e = .returned (.int .i64 me) ∧ Below w'.heap.size w' w'' := by
    intro hkq hkm
    subst hkm
    have HE2 : Hid (me = if fst [he, unl (decide ((L.length : Int) ≤ 64)) 5] ≠ 0 then fst [he, unl (decide ((L.length : Int) ≤ 64)) 5] else P.2) := Lib.hid (by
      rw [HE.out]
      have e : fst [unl true 13, e1, unl sb 1, rd] = he := by
        rw [← HHE.out]; show fst [0, e1, unl sb 1, rd] = _
        generalize fst [0, e1, unl sb 1, rd] = z
        by_cases hz : z = 0 <;> simp [fst, hz]
      rw [e])
    clear HE HKM HH HHE
    by_cases hz : he = 0
    · subst hz
      by_cases h64 : (L.length : Int) ≤ 64
      · have hc := HWLN.out rfl (by omega)
        have HZ := Lib.hid (show me = P.2 by rw [HE2.out, decide_eq_true h64]; rfl)
        have h64' : ¬ (64 : Int) < (L.length : Int) := by omega
        clear HE2 HWLN h64
        rcases hkq with hq | ⟨hq, hq2⟩
        all_goals
          go_enter Tryz.func21, Tryz.ntmps21
          go_wp2_with fail
          rw [HX.out]
          clear HX
          go_wp2_with fail
          refine (KeptW.calls (hh _)).mono ?_
          rintro e2 _ ⟨rfl, x2, rfl⟩
          go_wp2_with fail
          refine (KeptW.calls (hc _ (HBB.out.trans ((b_then hb0 x2.below).mono HBB.out.size)))).mono ?_
          rintro e3 _ ⟨rfl, x3, rfl⟩
          go_wp2_with fail
          go_ret
          exact ⟨by rw [HZ.out]; rfl, b_then hb0 x3.below⟩
      · have HZ := Lib.hid (show me = 5 by rw [HE2.out, decide_eq_false h64]; rfl)
        have h64' : (64 : Int) < (L.length : Int) := by omega
        clear HE2 HWLN h64
        rcases hkq with hq | ⟨hq, hq2⟩
        all_goals
          go_enter Tryz.func21, Tryz.ntmps21
          go_wp2_with fail
          rw [HX.out]
          clear HX
          go_wp2_with fail
          refine (KeptW.calls (hh _)).mono ?_
          rintro e2 _ ⟨rfl, x2, rfl⟩
          go_wp2_with fail
          go_ret
          exact ⟨by rw [HZ.out]; rfl, b_then hb0 x2.below⟩
    · have HZ := Lib.hid (show me = he by rw [HE2.out]; simp [fst, hz])
      have hb' : (he == 0) = false := by simpa using hz
      clear HE2 HWLN hz
      rcases hkq with hq | ⟨hq, hq2⟩
      all_goals
        go_enter Tryz.func21, Tryz.ntmps21
        go_wp2_with fail
        rw [HX.out]
        clear HX
        go_wp2_with fail
        refine (KeptW.calls (hh _)).mono ?_
        rintro e2 _ ⟨rfl, x2, rfl⟩
        go_wp2_with fail
        go_ret
        exact ⟨by rw [HZ.out]; rfl, b_then hb0 x2.below⟩
  cases hq : (kind.toList == [82, 69, 81])
  · cases hq2 : (kind.toList == [65, 78, 83])
    · have hkm := HKM.out
      rw [hq, hq2] at hkm
      have HZ := Lib.hid (show me = 13 by rw [HE.out, hkm]; simp [fst, unl])
      clear main HE HKM HH HHE HWLN hkm hh
      go_enter Tryz.func21, Tryz.ntmps21
      go_wp2_with fail
      rw [HX.out]
      clear HX
      go_wp2_with fail
      go_ret
      exact ⟨by rw [HZ.out]; rfl, b_then hb0 x0.below⟩
    · exact main (.inr ⟨hq, hq2⟩) (by rw [HKM.out, hq, hq2]; rfl)
  · exact main (.inl hq) (by rw [HKM.out, hq]; rfl)
end Go.Proofs.YtlcmcknbbmokjaaGreat
namespace Go.Proofs.YtlcmcknbbmokjaaGreat
open Go Go.RowKit Ev
set_option maxRecDepth 100000 in
theorem ShortLines_zero (A : Option Addr) (c k : Nat) (w : World) : Calls Tryz.prog 70 #[.slice A 0 c, .int .i64 k] w fun e w' => BoolR e True ∧ Below w.heap.size w w' := by
  have hk : ¬ ((k : Int) < 0) := by omega
  go_enter Tryz.func70, Tryz.ntmps70
  go_wp2_with fail
  go_loopw [5] (fun i wr => i = .int .i64 0 ∧ wr = w) (fun _ _ => 0)
  case atStart => exact ⟨rfl, rfl⟩
  case round =>
    obtain ⟨rfl, rfl⟩ := hrel
    go_wp2_with fail
    go_ret
    exact ⟨.mk' _ rfl fun _ => trivial, Below.refl _ _⟩
set_option maxRecDepth 100000 in
set_option maxHeartbeats 4000000 in
theorem ShortLines_any (l : List LineV) (b off cap n : Nat) (w : World) (hn : n ≤ 60) (hl : LnsAt w b off l) : Calls Tryz.prog 70 #[.slice (some ⟨b, off, none⟩) l.length cap, .int .i64 n] w
    fun e w' => BoolR e (l.length ≤ 65) ∧ Below w.heap.size w w' := by
  have HL := Lib.hid hl
  clear hl
  by_cases h3 : (n : Int) < (l.length : Int) ∧ (l.length : Int) ≠ 65
  · have h2 : ((l.length : Int) == 65) = false := by simpa using h3.2
    have h1 := h3.1
    go_enter Tryz.func70, Tryz.ntmps70
    go_wp2_with fail
    all_goals go_ret
    all_goals exact ⟨.mk' false rfl (fun h => by cases h), Below.refl _ _⟩
  have h65 : l.length ≤ 65 := by
    rcases Nat.lt_or_ge 65 l.length with h | h
    · exact absurd ⟨by omega, by omega⟩ h3
    · exact h
  have hloop : (¬ (n : Int) < (l.length : Int)) ∨ ((n : Int) < (l.length : Int) ∧ (l.length : Int) = 65) := by
    by_cases h1 : (n : Int) < (l.length : Int)
    · exact .inr ⟨h1, by
        by_cases h : (l.length : Int) = 65
        · exact h
        · exact absurd ⟨h1, h⟩ h3⟩
    · exact .inl h1
  clear h3
  rcases hloop with h1 | ⟨h1, h2⟩
  all_goals
    go_enter Tryz.func70, Tryz.ntmps70
    go_wp2_with fail
    go_loopw [5] (fun i wr => ∃ k : Nat, k ≤ l.length ∧ i = .int .i64 k ∧ Hid (Below w.heap.size w wr)) (fun i _ => l.length - (intOf i).toNat)
    case atStart => exact ⟨0, Nat.zero_le _, rfl, Lib.hid (Below.refl _ _)⟩
    case round =>
      obtain ⟨k, hk, rfl, HB⟩ := hrel
      by_cases hlt : k < l.length
      · obtain ⟨x0, x1, x2, x3, x4, x5, x6, x7, x8, x9, x10, x11, x12, x13⟩ := (HL.out.below HB.out).row hlt rfl
        have hcall := Brief_any (l.getD k default).q
        generalize l.getD k default = q at *
        obtain ⟨qq, ⟨qa, qb, qc, qd, qe, qf, qg, qh, qi, qj, qk, ql, qm⟩⟩ := q
        dsimp only [ReqV.cells] at hcall x0 x1 x2 x3 x4 x5 x6 x7 x8 x9 x10 x11 x12 x13
        by_cases h40 : (40 : Int) < (qq.size : Int)
        · go_wp2_with fail
          go_ret
          exact ⟨.mk' _ rfl fun _ => h65, HB.out⟩
        · go_wp2_with fail
          refine (hcall _).mono ?_
          rintro e1 w1 ⟨⟨bb, rfl, -⟩, hb1⟩
          have HB1 : Hid (Below w.heap.size w w1) := Lib.hid (b_then HB.out hb1)
          clear x0 x1 x2 x3 x4 x5 x6 x7 x8 x9 x10 x11 x12 x13 hcall hb1
          cases bb
          · go_wp2_with fail
            go_ret
            exact ⟨.mk' _ rfl fun _ => h65, HB1.out⟩
          · go_wp2_with fail
            refine ⟨⟨k + 1, by omega, by go_num, HB1⟩, by simp [intOf]; omega⟩
      · go_wp2_with fail
        go_ret
        exact ⟨.mk' _ rfl fun _ => h65, HB.out⟩
theorem ShortLines_arg (L : List LineV) (v : Value) (n : Nat) (w w' : World) (hn : n ≤ 60) (hv : LnArg w v L) (hb : Below w.heap.size w w') : Calls Tryz.prog 70 #[v, .int .i64 n] w'
    fun e w'' => BoolR e (L.length ≤ 65) ∧ Below w'.heap.size w' w'' := by
  rcases hv with ⟨rfl, A, c, rfl⟩ | ⟨h0, b, off, cap, rfl, hl, hc, hs⟩
  · exact (ShortLines_zero A c n w').mono fun e w'' ⟨⟨bb, h1, _⟩, h2⟩ => ⟨⟨bb, h1, fun _ => by simp⟩, h2⟩
  · exact ShortLines_any L b off cap n w' hn (hl.below hb)
set_option maxRecDepth 100000 in
set_option maxHeartbeats 2000000 in
theorem ShortMessage_any (h : HeadV) (L : List LineV) (v : Value) (n : Nat) (w w' : World) (hn : n ≤ 60) (hv : LnArg w v L) (hb : Below w.heap.size w w') : Calls Tryz.prog 18 #[.agg (h.cells v), .int .i64 n] w'
    fun e w'' => BoolR e (L.length ≤ 65) ∧ Below w'.heap.size w' w'' := by
  obtain ⟨A, c, rfl⟩ := hv.len
  have hs := fun W hW => ShortLines_arg L _ n w W hn hv hW
  have HBB := Lib.hid hb
  have HBA := Lib.hid (below_alloc w' (.cells (h.cells (.slice A L.length c)) 38))
  obtain ⟨kind, airport, season, day⟩ := h
  simp only [HeadV.cells] at *
  clear hv hb
  by_cases h1 : (kind.size : Int) ≤ 40
  · by_cases h2 : (airport.size : Int) ≤ 40
    · by_cases h3 : (season.size : Int) ≤ 40
      · go_enter Tryz.func18, Tryz.ntmps18
        go_wp2_with fail
        refine (hs _ (HBB.out.trans (HBA.out.mono HBB.out.size))).mono ?_
        rintro e1 w1 ⟨⟨bb, rfl, hbb⟩, hb1⟩
        have HB1 := Lib.hid (b_then HBA.out hb1)
        go_wp2_with fail
        go_ret
        exact ⟨.mk' bb rfl hbb, HB1.out⟩
      · have h3' : decide ((season.size : Int) ≤ 40) = false := decide_eq_false h3
        go_enter Tryz.func18, Tryz.ntmps18
        go_wp2_with fail
        go_ret
        exact ⟨.mk' false rfl (fun h => by cases h), HBA.out⟩
    · have h2' : decide ((airport.size : Int) ≤ 40) = false := decide_eq_false h2
      go_enter Tryz.func18, Tryz.ntmps18
      go_wp2_with fail
      go_ret
      exact ⟨.mk' false rfl (fun h => by cases h), HBA.out⟩
  · have h1' : decide ((kind.size : Int) ≤ 40) = false := decide_eq_false h1
    go_enter Tryz.func18, Tryz.ntmps18
    go_wp2_with fail
    go_ret
    exact ⟨.mk' false rfl (fun h => by cases h), HBA.out⟩
end Go.Proofs.YtlcmcknbbmokjaaGreat
namespace Go.Proofs.YtlcmcknbbmokjaaGreat
open Go Go.RowKit Ev Go.ChangeMaps Go.MapKept
def lnFlat (l : List LineV) : List Value := (l.map fun x => x.cells.toList).flatten
theorem lnFlat_snoc (l : List LineV) (x : LineV) : lnFlat (l ++ [x]) = lnFlat l ++ x.cells.toList := by simp [lnFlat]
theorem lnFlat_len (l : List LineV) : (lnFlat l).length = l.length * 14 := by
  induction l with
  | nil => rfl
  | cons x r ih =>
    have e : lnFlat (x :: r) = x.cells.toList ++ lnFlat r := by simp [lnFlat]
    rw [e, List.length_append, ih]
    simp [LineV.cells]; omega
theorem lnFlat_at (l : List LineV) : ∀ (k t : Nat), k < l.length → t < 14 → (lnFlat l)[k * 14 + t]? = (l.getD k default).cells[t]? := by
  induction l with
  | nil => intro k t h; simp at h
  | cons x r ih =>
    intro k t h ht
    have e : lnFlat (x :: r) = x.cells.toList ++ lnFlat r := by simp [lnFlat]
    have hs : x.cells.toList.length = 14 := by simp [LineV.cells]
    cases k with
    | zero => rw [e, List.getElem?_append_left (by omega)]; simp
    | succ j =>
      rw [e, List.getElem?_append_right (by omega), hs, show (j + 1) * 14 + t - 14 = j * 14 + t by omega, ih j t (by simpa using h) ht]
      simp
theorem lnInfo_parts : ∃ i0, Tryz.prog.info? 28 = some i0 ∧ i0.zero = some (.agg #[.string ⟨#[]⟩, .string ⟨#[]⟩, .string ⟨#[]⟩, .string ⟨#[]⟩, .string ⟨#[]⟩, .string ⟨#[]⟩, .string ⟨#[]⟩, .int .i64 0, .int .i64 0, .int .i64 0, .int .i64 0, .int .i64 0, .int .i64 0, .int .i64 0]) ∧ i0.size = 14 ∧ i0.bytes = 168 := by
  have h : (Tryz.prog.info? 28).map (fun i => (i.zero, i.size, i.bytes)) = some (some (.agg #[.string ⟨#[]⟩, .string ⟨#[]⟩, .string ⟨#[]⟩, .string ⟨#[]⟩, .string ⟨#[]⟩, .string ⟨#[]⟩, .string ⟨#[]⟩, .int .i64 0, .int .i64 0, .int .i64 0, .int .i64 0, .int .i64 0, .int .i64 0, .int .i64 0]), 14, 168) := by kernel_rfl
  cases hp : Tryz.prog.info? 28 with
  | none => rw [hp] at h; simp at h
  | some i => rw [hp] at h; simp only [Option.map_some, Option.some.injEq, Prod.mk.injEq] at h; exact ⟨i, rfl, h.1, h.2.1, h.2.2⟩
theorem lns_own {w : World} {base g c : Nat} {l : List LineV} (h : w.ownsRow base 28 14 (.slice (some ⟨g, 0, none⟩) l.length c) l.length (lnFlat l)) : LnsAt w g 0 l :=
  ⟨fun k hk t v hv => by
    have ht : t < 14 := by
      have := (Array.getElem?_eq_some_iff.1 hv).1
      simpa [LineV.cells] using this
    have e : w.cell? ⟨g, k * 14 + t, none⟩ = (lnFlat l)[k * 14 + t]? := h.cellAt _ (by omega)
    rw [lnFlat_at l k t hk ht, hv] at e
    rw [Nat.zero_add]
    exact e⟩
theorem own_cap {w : World} {base : Nat} {e : TypeId} {size : Nat} {g n cp : Nat} {xs : List Value} (h : w.ownsRow base e size (.slice (some ⟨g, 0, none⟩) n cp) n xs) : n ≤ cp := by
  rcases h.2 with ⟨hv, _⟩ | ⟨g', cp', cur, hv, _, _, hc, _⟩
  · cases hv
  · cases hv; exact hc
theorem ln_arg_own {w : World} {base : Nat} {v : Value} {l : List LineV} (h : w.ownsRow base 28 14 v l.length (lnFlat l)) (hs : ∀ k, k < l.length → (l.getD k default).act.size ≤ maxLen ∧ (l.getD k default).q.name.size ≤ maxLen) : LnArg w v l := by
  rcases Nat.eq_zero_or_pos l.length with h0 | h0
  · have e : l = [] := List.length_eq_zero_iff.1 h0
    rw [h0] at h
    obtain ⟨A, c, rfl⟩ := pr_zero h
    exact .inl ⟨e, A, c, rfl⟩
  · have h' := h
    rw [show l.length = (l.length - 1) + 1 by omega] at h'
    obtain ⟨g, cp, hv⟩ := ownsRow_succ h'
    rw [Nat.sub_add_cancel h0] at hv
    subst hv
    exact .inr ⟨h0, g, 0, cp, rfl, lns_own h, own_cap h, hs⟩
set_option maxRecDepth 100000 in
set_option maxHeartbeats 4000000 in
theorem lines_any (L : List LineV) (b off cap : Nat) (w : World) (hl : LnsAt w b off L) (hn : L.length ≤ 900) :
    Calls Tryz.prog 77 #[.slice (some ⟨b, off, none⟩) L.length cap] w fun e w' => ∃ v, e = .returned v ∧ w'.ownsRow w.heap.size 28 14 v L.length (lnFlat L) ∧ Below w.heap.size w w' := by
  have HL := Lib.hid hl
  clear hl
  obtain ⟨i0, hi, hz0, hz1, hz2⟩ := lnInfo_parts
  go_enter Tryz.func77, Tryz.ntmps77
  go_wp2_with fail
  go_loopw [3, 5, 8] (fun v3 _ i wr => ∃ (k : Nat), k ≤ L.length ∧ i = .int .i64 k ∧ wr.ownsRow w.heap.size 28 14 v3 k (lnFlat (L.take k)) ∧ Hid (Below w.heap.size w wr)) (fun _ _ i _ => L.length - (intOf i).toNat)
  case atStart => exact ⟨0, Nat.zero_le _, rfl, World.ownsRow_nil _ _ _ _, Lib.hid (Below.refl _ _)⟩
  case round =>
    obtain ⟨k, hk, rfl, hown, HB⟩ := hrel
    by_cases hlt : k < L.length
    · have hrow := (HL.out.below HB.out).row hlt rfl
      have HT : Hid (lnFlat (L.take (k + 1)) = lnFlat (L.take k) ++ (L.getD k default).cells.toList) := Lib.hid (by
        rw [← lnFlat_snoc]
        congr 1
        rw [List.take_succ_eq_append_getElem hlt]; simp [List.getD_eq_getElem?_getD, List.getElem?_eq_getElem hlt])
      generalize L.getD k default = l at hrow HT
      obtain ⟨qact, ⟨qname, qcarrier, qkind, qterminal, qpartner, qlink, qa, qb, qd, qm, qs, qz, qn⟩⟩ := l
      simp only [LineV.cells] at HT hrow
      obtain ⟨z0, z1, z2, z3, z4, z5, z6, z7, z8, z9, z10, z11, z12, z13⟩ := hrow
      have hlen := lnFlat_len (L.take k)
      rw [List.length_take, Nat.min_eq_left hk] at hlen
      generalize lnFlat (L.take k) = fl at *
      have hsz := HB.out.size
      have hownA := hown.alloc (.cells #[.string qact, .string qname, .string qcarrier, .string qkind, .string qterminal, .string qpartner, .string qlink, .int .i64 qa, .int .i64 qb, .int .i64 qd, .int .i64 qm, .int .i64 qs, .int .i64 qz, .int .i64 qn] 32)
      have hownB := hownA.alloc (.cells #[.string qact, .string qname, .string qcarrier, .string qkind, .string qterminal, .string qpartner, .string qlink, .int .i64 qa, .int .i64 qb, .int .i64 qd, .int .i64 qm, .int .i64 qs, .int .i64 qz, .int .i64 qn] 28)
      have hbA : Below w.heap.size w (wr.alloc (.cells #[.string qact, .string qname, .string qcarrier, .string qkind, .string qterminal, .string qpartner, .string qlink, .int .i64 qa, .int .i64 qb, .int .i64 qd, .int .i64 qm, .int .i64 qs, .int .i64 qz, .int .i64 qn] 32)) := b_then HB.out (below_alloc _ _)
      have hsA := hbA.size
      have HNB : Hid (((wr.alloc (.cells #[.string qact, .string qname, .string qcarrier, .string qkind, .string qterminal, .string qpartner, .string qlink, .int .i64 qa, .int .i64 qb, .int .i64 qd, .int .i64 qm, .int .i64 qs, .int .i64 qz, .int .i64 qn] 32)).alloc (.cells #[.string qact, .string qname, .string qcarrier, .string qkind, .string qterminal, .string qpartner, .string qlink, .int .i64 qa, .int .i64 qb, .int .i64 qd, .int .i64 qm, .int .i64 qs, .int .i64 qz, .int .i64 qn] 28)).heap[wr.heap.size + 1]? = some (.cells #[.string qact, .string qname, .string qcarrier, .string qkind, .string qterminal, .string qpartner, .string qlink, .int .i64 qa, .int .i64 qb, .int .i64 qd, .int .i64 qm, .int .i64 qs, .int .i64 qz, .int .i64 qn] 28 (0, 0))) := Lib.hid (by
        have h1 := heap_new (wr.alloc (.cells #[.string qact, .string qname, .string qcarrier, .string qkind, .string qterminal, .string qpartner, .string qlink, .int .i64 qa, .int .i64 qb, .int .i64 qd, .int .i64 qm, .int .i64 qs, .int .i64 qz, .int .i64 qn] 32)) (.cells #[.string qact, .string qname, .string qcarrier, .string qkind, .string qterminal, .string qpartner, .string qlink, .int .i64 qa, .int .i64 qb, .int .i64 qd, .int .i64 qm, .int .i64 qs, .int .i64 qz, .int .i64 qn] 28)
        rwa [show (wr.alloc (.cells #[.string qact, .string qname, .string qcarrier, .string qkind, .string qterminal, .string qpartner, .string qlink, .int .i64 qa, .int .i64 qb, .int .i64 qd, .int .i64 qm, .int .i64 qs, .int .i64 qz, .int .i64 qn] 32)).heap.size = wr.heap.size + 1 by simp] at h1)
      go_wp2_with (at_builtin; refine Hid.out ?_)
      refine Lib.hid ?_
      refine wpList_append_own _ rfl _ _ 42 rfl w.heap.size 28 i0 (.agg #[.string ⟨#[]⟩, .string ⟨#[]⟩, .string ⟨#[]⟩, .string ⟨#[]⟩, .string ⟨#[]⟩, .string ⟨#[]⟩, .string ⟨#[]⟩, .int .i64 0, .int .i64 0, .int .i64 0, .int .i64 0, .int .i64 0, .int .i64 0, .int .i64 0]) 14 168 Tryz.underlying42 hi hz0 hz1 hz2 rfl (by decide) _ k _ rfl hownB ⟨wr.heap.size + 1, 0, none⟩ 1 1 [.string qact, .string qname, .string qcarrier, .string qkind, .string qterminal, .string qpartner, .string qlink, .int .i64 qa, .int .i64 qb, .int .i64 qd, .int .i64 qm, .int .i64 qs, .int .i64 qz, .int .i64 qn] rfl rfl
        (World.news_of_block (cs := #[.string qact, .string qname, .string qcarrier, .string qkind, .string qterminal, .string qpartner, .string qlink, .int .i64 qa, .int .i64 qb, .int .i64 qd, .int .i64 qm, .int .i64 qs, .int .i64 qz, .int .i64 qn]) (t := 28) (fr := (0, 0)) HNB.out) (by simp [Value.oneCell']) (by unfold maxLen; omega) (by omega) (by simp; omega) ?_
      intro v' w4 hown' hgrow _
      have hb4 : Below w.heap.size w w4 := (hbA.trans ((Below.refl _ _).alloc hsA _)).grown hgrow (by simp; omega) (pr_blk hownB)
      clear hgrow hown hownA hownB hbA hsA z0 z1 z2 z3 z4 z5 z6 z7 z8 z9 z10 z11 z12 z13
      rw [show fl ++ [.string qact, .string qname, .string qcarrier, .string qkind, .string qterminal, .string qpartner, .string qlink, .int .i64 qa, .int .i64 qb, .int .i64 qd, .int .i64 qm, .int .i64 qs, .int .i64 qz, .int .i64 qn] = lnFlat (L.take (k + 1)) from HT.out.symm] at hown'
      go_wp2_with fail
      refine ⟨⟨k + 1, by omega, by go_num, by simpa using hown', Lib.hid hb4⟩, by simp [intOf]; omega⟩
    · obtain rfl : k = L.length := by omega
      rw [List.take_length] at hown
      go_wp2_with fail
      go_ret
      exact ⟨_, rfl, hown, HB.out⟩
end Go.Proofs.YtlcmcknbbmokjaaGreat
namespace Go.Proofs.YtlcmcknbbmokjaaGreat
open Go Go.RowKit Ev Go.ChangeMaps Go.MapKept
/-- A call that has returned lines. -/
structure LnR (e : Ending) (w' : World) (N : Nat) (L : List LineV) : Prop where
  ex : ∃ A c, e = .returned (.slice A L.length c) ∧ LnArg w' (.slice A L.length c) L ∧ (0 < L.length → ∀ a : Addr, A = some a → N ≤ a.block)
set_option maxRecDepth 100000 in
theorem lines_zero (A : Option Addr) (c : Nat) (w : World) :
    Calls Tryz.prog 77 #[.slice A 0 c] w fun e w' => LnR e w' w.heap.size [] ∧ Below w.heap.size w w' := by
  go_enter Tryz.func77, Tryz.ntmps77
  go_wp2_with fail
  go_loopw [3, 5, 8] (fun v3 _ i wr => v3 = .slice none 0 0 ∧ i = .int .i64 0 ∧ wr = w) (fun _ _ _ _ => 0)
  case atStart => exact ⟨rfl, rfl, rfl⟩
  case round =>
    obtain ⟨rfl, rfl, rfl⟩ := hrel
    go_wp2_with fail
    go_ret
    exact ⟨⟨none, 0, rfl, .inl ⟨rfl, _, _, rfl⟩, by simp⟩, Below.refl _ _⟩
theorem lines_arg (L : List LineV) (v : Value) (w w' : World) (hv : LnArg w v L) (hb : Below w.heap.size w w') (hn : L.length ≤ 900) :
    Calls Tryz.prog 77 #[v] w' fun e w'' => LnR e w'' w'.heap.size L ∧ Below w'.heap.size w' w'' := by
  rcases hv with ⟨rfl, A, c, rfl⟩ | ⟨h0, b, off, cap, rfl, hl, hc, hs⟩
  · exact lines_zero A c w'
  · refine (lines_any L b off cap w' (hl.below hb) hn).mono ?_
    rintro e w'' ⟨v, rfl, hown, hb2⟩
    have hl := ln_arg_own hown hs
    obtain ⟨A, c, rfl⟩ := hl.len
    refine ⟨⟨A, c, rfl, hl, fun _ a ha => ?_⟩, hb2⟩
    have := pr_blk hown a.block (by rw [ha]; rfl)
    exact this
/-- A call that has returned a message. -/
structure MsgR (e : Ending) (w' : World) (h : HeadV) (L : List LineV) : Prop where
  ex : ∃ v, e = .returned (.agg (h.cells v)) ∧ LnArg w' v L
theorem LnArg.off {w w' : World} {A : Option Addr} {n c : Nat} {L : List LineV} {m : Nat} (h : LnArg w (.slice A n c) L) (ho : Off m w w') (hm : 0 < L.length → ∀ a : Addr, A = some a → a.block ≠ m) : LnArg w' (.slice A n c) L := by
  rcases h with h | ⟨h0, b, off, cap, hv, hl, hc, hs⟩
  · exact .inl h
  · obtain ⟨rfl, rfl, rfl⟩ : A = some ⟨b, off, none⟩ ∧ n = L.length ∧ c = cap := by simpa using hv
    have hne : b ≠ m := hm h0 ⟨b, off, none⟩ rfl
    exact .inr ⟨h0, b, off, c, rfl, ⟨fun k hk t u hu => ho _ _ hne (hl.c k hk t u hu)⟩, hc, hs⟩
theorem Off.set (m k : Nat) (w : World) (v : Value) : Off m w (w.setCell ⟨m, k, none⟩ v) := fun a u ha h => set_other h (fun e => ha (by rw [← e]))
theorem Off.trans {m : Nat} {w1 w2 w3 : World} (h : Off m w1 w2) (k : Off m w2 w3) : Off m w1 w3 := fun a u ha hu => k a u ha (h a u ha hu)
/-- What the call of lines hands back. -/
def LnS (N : Nat) (L : List LineV) (v : Value) (w : World) : Prop := ∃ A c, v = .slice A L.length c ∧ LnArg w (.slice A L.length c) L ∧ (0 < L.length → ∀ a : Addr, A = some a → N ≤ a.block)
set_option maxRecDepth 100000 in
set_option maxHeartbeats 16000000 in
theorem program_any (h : HeadV) (L : List LineV) (v : Value) (w w' : World) (hv : LnArg w v L) (hb : Below w.heap.size w w') (hn : L.length ≤ 900) :
    Calls Tryz.prog 20 #[.agg (h.cells v)] w' fun e w'' => MsgR e w'' h L ∧ Below w'.heap.size w' w'' := by
  obtain ⟨A, c, rfl⟩ := hv.len
  have hlines := fun W hW => lines_arg L _ w W hv hW hn
  obtain ⟨W1, HW1, hb1, R⟩ := head_new w' h (.slice A L.length c) 38
  obtain ⟨W, HW2, hbW, RZ⟩ : ∃ W, Hid (W1.alloc (.cells #[.string ⟨#[]⟩, .string ⟨#[]⟩, .string ⟨#[]⟩, .int .i64 0, .slice none 0 0] 44) = W) ∧ Below W1.heap.size W1 W ∧ RowV W1.heap.size W1.heap.size 5 (fun i => [Value.string ⟨#[]⟩, .string ⟨#[]⟩, .string ⟨#[]⟩, .int .i64 0, .slice none 0 0].getD i undef) W1 W := ⟨_, Lib.hid rfl, below_alloc _ _, RowV.new W1 [.string ⟨#[]⟩, .string ⟨#[]⟩, .string ⟨#[]⟩, .int .i64 0, .slice none 0 0] _⟩
  have e1 : W1.heap.size = w'.heap.size + 1 := by rw [← HW1.out]; simp
  have HR := Lib.hid RZ
  have HWW : Hid (((w'.alloc (.cells (h.cells (.slice A L.length c)) 38)).alloc (.cells #[.string ⟨#[]⟩, .string ⟨#[]⟩, .string ⟨#[]⟩, .int .i64 0, .slice none 0 0] 44)) = W) := Lib.hid (by rw [HW1.out, HW2.out])
  have RB := R.below hbW
  have HB0 := Lib.hid (b_then hb1 hbW)
  have HBB := Lib.hid hb
  have HSZ : Hid (w'.heap.size + 1 < W.heap.size) := Lib.hid (by rw [← e1]; exact cell_in (RZ.c 0 (by decide)))
  rw [e1] at HR
  clear RZ R HW1 HW2 hb hv hb1 hbW
  have R0 : Res 5 (w'.heap.size + 1) W W := ⟨fun i hi => ⟨_, HR.out.c i hi⟩, fun i hi => HR.out.f i hi, Below.refl _ _⟩
  obtain ⟨kind, airport, season, day⟩ := h
  obtain ⟨r0, r1, r2, r3, r4⟩ := RB
  simp only [HeadV.cells] at *
  clear e1 HR
  go_enter Tryz.func20, Tryz.ntmps20
  go_wp2_with fail
  rw [HWW.out]
  clear HWW
  refine held_tail (fun o => o.dst == some 13) (fun _ => LnS W.heap.size L) 12 (by kernel_rfl) (by kernel_rfl) (fun _ v x y hx hy => ?_) ?_
  · obtain ⟨A2, c2, rfl, h2, h3⟩ := hx
    exact ⟨A2, c2, rfl, h2.below hy, h3⟩
  simp only [List.take_succ_cons, List.take_zero, List.drop_succ_cons, List.drop_zero]
  refine hold_run 10 (by kernel_rfl) (fun w1 hw1 => ?_)
  have k0 : ∀ x : KeptW w1, x.v.cell? ⟨w'.heap.size, 0, none⟩ = some (.string kind) := fun x => x.cell (b_old hw1 r0)
  have k1 : ∀ x : KeptW w1, x.v.cell? ⟨w'.heap.size, 1, none⟩ = some (.string airport) := fun x => x.cell (b_old hw1 r1)
  have k2 : ∀ x : KeptW w1, x.v.cell? ⟨w'.heap.size, 2, none⟩ = some (.string season) := fun x => x.cell (b_old hw1 r2)
  have k3 : ∀ x : KeptW w1, x.v.cell? ⟨w'.heap.size, 3, none⟩ = some (.int .i64 day) := fun x => x.cell (b_old hw1 r3)
  have k4 : ∀ x : KeptW w1, x.v.cell? ⟨w'.heap.size, 4, none⟩ = some (.slice A L.length c) := fun x => x.cell (b_old hw1 r4)
  have hne : Nonempty (KeptW w1) := ⟨⟨w1, Below.refl _ _⟩⟩
  simp only [List.take_succ_cons, List.take_zero, List.drop_succ_cons, List.drop_zero]
  iterate 10 (go_big_quiet_step (fail))
  refine wpQuiet_nil ?_
  intro K1 _
  refine hold_at rfl rfl (fun w2 hw2 => ?_) ?_
  · refine heldUpon_enter (f := 77) (args := #[.slice A L.length c]) (by simp [go_sem]) ((hlines w2 (b_then HBB.out (b_then HB0.out (Kp.iff.1 hw2)))).mono ?_)
    rintro e w5 ⟨⟨A2, c2, rfl, hL, hlo⟩, hb5⟩
    exact ⟨_, rfl, Kp.iff.2 hb5, A2, c2, rfl, hL, fun h0 a ha => Nat.le_trans (Kp.iff.1 hw2).size (hlo h0 a ha)⟩
  rintro v2 ⟨_, -, A2, c2, rfl, -⟩
  refine hold_run 1 (by kernel_rfl) (fun w3 hw3 => ?_)
  simp only [List.take_succ_cons, List.take_zero, List.drop_succ_cons, List.drop_zero, Act.put, List.setIfInBounds_toArray, List.set_cons_succ, List.set_cons_zero]
  have hne3 : Nonempty (KeptW w3) := ⟨⟨w3, Below.refl _ _⟩⟩
  go_big_quiet_step (fail)
  refine wpQuiet_nil ?_
  intro K2 hK2 w4 hw4 hk4
  obtain ⟨A3, c3, he, hL, hlo⟩ := (hK2 _ hk4).2
  cases he
  have R1 := R0.more (R0.pos (by decide)) hw4
  obtain ⟨v0, q0⟩ := R1.cell 0 (by decide)
  obtain ⟨v1, q1⟩ := R1.cell 1 (by decide)
  obtain ⟨v2, q2⟩ := R1.cell 2 (by decide)
  obtain ⟨v3, q3⟩ := R1.cell 3 (by decide)
  obtain ⟨v4, q4⟩ := R1.cell 4 (by decide)
  have g0 := R1.frozen 0 (by decide)
  have g1 := R1.frozen 1 (by decide)
  have g2 := R1.frozen 2 (by decide)
  have g3 := R1.frozen 3 (by decide)
  have g4 := R1.frozen 4 (by decide)
  have RF := ((((R1.set 0 (.string kind)).set 1 (.string airport)).set 2 (.string season)).set 3 (.int .i64 day)).set 4 (.slice A2 L.length c2)
  have HO : Hid (LnArg (((((w4.setCell ⟨w'.heap.size + 1, 0, none⟩ (.string kind)).setCell ⟨w'.heap.size + 1, 1, none⟩ (.string airport)).setCell ⟨w'.heap.size + 1, 2, none⟩ (.string season)).setCell ⟨w'.heap.size + 1, 3, none⟩ (.int .i64 day)).setCell ⟨w'.heap.size + 1, 4, none⟩ (.slice A2 L.length c2)) (.slice A2 L.length c2) L) := Lib.hid
    (hL.off (((((Off.set _ 0 w4 _).trans (Off.set _ 1 _ _)).trans (Off.set _ 2 _ _)).trans (Off.set _ 3 _ _)).trans (Off.set _ 4 _ _)) (fun h0 a ha => by have h1 := hlo h0 a ha; have h2 := HSZ.out; intro e; rw [e] at h1; omega))
  have HBL := Lib.hid (HB0.out.trans (RF.below.mono (by omega)))
  clear RF R1 hL hlo hK2 hk4 hw4 hne hne3 k0 k1 k2 k3 k4 r0 r1 r2 r3 r4 R0 HSZ hw1 hw3
  go_wp2_with fail
  exact bodyPost_ret (v := .agg #[.string kind, .string airport, .string season, .int .i64 day, .slice A2 L.length c2]) (by simp [results, Tryz.results20, go_sem, q0, q1, q2, q3, q4]) rfl ⟨⟨_, rfl, HO.out⟩, HBL.out⟩
end Go.Proofs.YtlcmcknbbmokjaaGreat
namespace Go.Proofs.YtlcmcknbbmokjaaGreat
open Go Go.RowKit
set_option maxRecDepth 100000 in
set_option maxHeartbeats 4000000 in
theorem Prints_true (h : HeadV) (L : List LineV) (v : Value) (w0 w : World) (hv : LnArg w0 v L) (hb : Below w0.heap.size w0 w) :
    Calls Tryz.prog 4 #[.agg (h.cells v)] w fun e w' => e = .returned (.bool true) ∧ Below w.heap.size w w' := by
  obtain ⟨W, HW, hb0, R⟩ := head_new w h v 38
  have haw := awake2_true
  have HB0 : Hid (∀ x : KeptW W, Below w0.heap.size w0 x.v) := Lib.hid (fun x => b_then (b_then hb hb0) x.below)
  have hsh := fun x : KeptW W => ShortMessage_any h L v 8 w0 x.v (by decide) hv (HB0.out x)
  have hpr := fun (x : KeptW W) hn => program_any h L v w0 x.v hv (HB0.out x) hn
  have hpm := fun (v' : Value) (w1 : World) hl => PrintMessage_any h L v' w1 w1 hl (Below.refl _ _)
  have hck := fun (v' : Value) (w1 : World) hl => CheckMessage_any h L v' w1 w1 hl (Below.refl _ _)
  have hqc := fun x : KeptW W => refMessage_any h L v w0 x.v hv (HB0.out x)
  obtain ⟨A, c, hve⟩ := hv.len
  have HSH := Lib.hid hsh
  have HPR := Lib.hid hpr
  have HPM := Lib.hid hpm
  have HCK := Lib.hid hck
  have HQC := Lib.hid hqc
  clear hsh hpr hpm hck hqc
  obtain ⟨x0, HX⟩ : ∃ x0 : KeptW W, Hid (w.alloc (.cells (h.cells v) 38) = x0.v) := ⟨KeptW.mk (w := W) W (Below.refl _ _), HW⟩
  obtain ⟨r0, r1, r2, r3, r4⟩ := R
  have k0 : ∀ x : KeptW W, x.v.cell? ⟨w.heap.size, 0, none⟩ = _ := fun x => x.cell r0
  have k1 : ∀ x : KeptW W, x.v.cell? ⟨w.heap.size, 1, none⟩ = _ := fun x => x.cell r1
  have k2 : ∀ x : KeptW W, x.v.cell? ⟨w.heap.size, 2, none⟩ = _ := fun x => x.cell r2
  have k3 : ∀ x : KeptW W, x.v.cell? ⟨w.heap.size, 3, none⟩ = _ := fun x => x.cell r3
  have k4 : ∀ x : KeptW W, x.v.cell? ⟨w.heap.size, 4, none⟩ = _ := fun x => x.cell r4
  clear r0 r1 r2 r3 r4 HW
  by_cases he : msgErr h L = 0
  · have HQP := Lib.hid (fun x : KeptW W => qPrintMessage_any h L v w0 x.v hv (HB0.out x) (msg_ok he))
    rw [he] at HPM HCK HQC
    simp only [if_pos] at HPM
    generalize msgT h L = mt at *
    have hss : (mt.toList == mt.toList) = true := by simp
    subst hve
    obtain ⟨kind, airport, season, day⟩ := h
    simp only [HeadV.cells] at *
    clear hv he hb HB0
    go_enter Tryz.func4, Tryz.ntmps4
    go_wp2_with fail
    rw [HX.out]
    clear HX
    go_wp2_with fail
    refine (HSH.out x0).mono ?_
    rintro e1 w1 ⟨⟨bb, rfl, hn⟩, hb1⟩
    obtain ⟨x1, rfl⟩ : ∃ x1 : KeptW W, w1 = x1.v := ⟨⟨w1, b_then x0.below hb1⟩, rfl⟩
    clear HSH hb1
    cases bb
    · clear hn
      go_wp2_with fail
      refine (KeptW.calls (haw _)).mono ?_
      rintro e2 _ ⟨rfl, x2, rfl⟩
      go_wp2_with fail
      go_ret
      exact ⟨rfl, b_then hb0 x2.below⟩
    · have hn9 : L.length ≤ 900 := Nat.le_trans (hn rfl) (by decide)
      clear hn
      go_wp2_with fail
      refine (HPR.out x1 hn9).mono ?_
      rintro e2 w2 ⟨⟨v2, rfl, hL2⟩, hb2⟩
      obtain ⟨x2, rfl⟩ : ∃ x2 : KeptW W, w2 = x2.v := ⟨⟨w2, b_then x1.below hb2⟩, rfl⟩
      have hp2 := HPM.out v2 x2.v hL2
      obtain ⟨A2, c2, rfl⟩ := hL2.len
      clear hb2 hL2
      go_wp2_with fail
      refine hp2.mono ?_
      rintro e3 w3 ⟨rfl, hb3⟩
      obtain ⟨x3, rfl⟩ : ∃ x3 : KeptW W, w3 = x3.v := ⟨⟨w3, b_then x2.below hb3⟩, rfl⟩
      clear hb3 hp2
      go_wp2_with fail
      refine (HQC.out x3).mono ?_
      rintro e4 w4 ⟨rfl, hb4⟩
      obtain ⟨x4, rfl⟩ : ∃ x4 : KeptW W, w4 = x4.v := ⟨⟨w4, b_then x3.below hb4⟩, rfl⟩
      clear hb4
      go_wp2_with fail
      refine (HQP.out x4).mono ?_
      rintro e5 w5 ⟨rfl, hb5⟩
      obtain ⟨x5, rfl⟩ : ∃ x5 : KeptW W, w5 = x5.v := ⟨⟨w5, b_then x4.below hb5⟩, rfl⟩
      clear hb5
      go_wp2_with fail
      refine (HPR.out x5 hn9).mono ?_
      rintro e6 w6 ⟨⟨v6, rfl, hL6⟩, hb6⟩
      obtain ⟨x6, rfl⟩ : ∃ x6 : KeptW W, w6 = x6.v := ⟨⟨w6, b_then x5.below hb6⟩, rfl⟩
      have hp6 := HCK.out v6 x6.v hL6
      obtain ⟨A6, c6, rfl⟩ := hL6.len
      clear hb6 hL6
      go_wp2_with fail
      refine hp6.mono ?_
      rintro e7 w7 ⟨rfl, hb7⟩
      obtain ⟨x7, rfl⟩ : ∃ x7 : KeptW W, w7 = x7.v := ⟨⟨w7, b_then x6.below hb7⟩, rfl⟩
      clear hb7 hp6
      go_wp2_with fail
      refine (KeptW.calls (haw _)).mono ?_
      rintro e8 _ ⟨rfl, x8, rfl⟩
      go_wp2_with fail
      go_ret
      exact ⟨rfl, b_then hb0 x8.below⟩
  · simp only [if_neg he] at HPM
    generalize msgErr h L = er at *
    have hee : ¬ er = 0 := he
    subst hve
    obtain ⟨kind, airport, season, day⟩ := h
    simp only [HeadV.cells] at *
    clear hv he hb HB0
    go_enter Tryz.func4, Tryz.ntmps4
    go_wp2_with fail
    rw [HX.out]
    clear HX
    go_wp2_with fail
    refine (HSH.out x0).mono ?_
    rintro e1 w1 ⟨⟨bb, rfl, hn⟩, hb1⟩
    obtain ⟨x1, rfl⟩ : ∃ x1 : KeptW W, w1 = x1.v := ⟨⟨w1, b_then x0.below hb1⟩, rfl⟩
    clear HSH hb1
    cases bb
    · clear hn
      go_wp2_with fail
      refine (KeptW.calls (haw _)).mono ?_
      rintro e2 _ ⟨rfl, x2, rfl⟩
      go_wp2_with fail
      go_ret
      exact ⟨rfl, b_then hb0 x2.below⟩
    · have hn9 : L.length ≤ 900 := Nat.le_trans (hn rfl) (by decide)
      clear hn
      go_wp2_with fail
      refine (HPR.out x1 hn9).mono ?_
      rintro e2 w2 ⟨⟨v2, rfl, hL2⟩, hb2⟩
      obtain ⟨x2, rfl⟩ : ∃ x2 : KeptW W, w2 = x2.v := ⟨⟨w2, b_then x1.below hb2⟩, rfl⟩
      have hp2 := HPM.out v2 x2.v hL2
      obtain ⟨A2, c2, rfl⟩ := hL2.len
      clear hb2 hL2
      go_wp2_with fail
      refine hp2.mono ?_
      rintro e3 w3 ⟨rfl, hb3⟩
      obtain ⟨x3, rfl⟩ : ∃ x3 : KeptW W, w3 = x3.v := ⟨⟨w3, b_then x2.below hb3⟩, rfl⟩
      clear hb3 hp2
      go_wp2_with fail
      refine (HQC.out x3).mono ?_
      rintro e4 w4 ⟨rfl, hb4⟩
      obtain ⟨x5, rfl⟩ : ∃ x4 : KeptW W, w4 = x4.v := ⟨⟨w4, b_then x3.below hb4⟩, rfl⟩
      clear hb4
      go_wp2_with fail
      refine (HPR.out x5 hn9).mono ?_
      rintro e6 w6 ⟨⟨v6, rfl, hL6⟩, hb6⟩
      obtain ⟨x6, rfl⟩ : ∃ x6 : KeptW W, w6 = x6.v := ⟨⟨w6, b_then x5.below hb6⟩, rfl⟩
      have hp6 := HCK.out v6 x6.v hL6
      obtain ⟨A6, c6, rfl⟩ := hL6.len
      clear hb6 hL6
      go_wp2_with fail
      refine hp6.mono ?_
      rintro e7 w7 ⟨rfl, hb7⟩
      obtain ⟨x7, rfl⟩ : ∃ x7 : KeptW W, w7 = x7.v := ⟨⟨w7, b_then x6.below hb7⟩, rfl⟩
      clear hb7 hp6
      go_wp2_with fail
      refine (KeptW.calls (haw _)).mono ?_
      rintro e8 _ ⟨rfl, x8, rfl⟩
      go_wp2_with fail
      go_ret
      exact ⟨rfl, b_then hb0 x8.below⟩
end Go.Proofs.YtlcmcknbbmokjaaGreat
namespace Go.Proofs.YtlcmcknbbmokjaaGreat
open Go Go.RowKit
/-- A value that is a slice of these requests. -/
def RqArg (w : World) (v : Value) (l : List ReqV) : Prop :=
  (l = [] ∧ ∃ A c, v = .slice A 0 c) ∨ (0 < l.length ∧ ∃ b off cap, v = .slice (some ⟨b, off, none⟩) l.length cap ∧ RqsAt w b off l ∧ l.length ≤ cap ∧ ∀ k, k < l.length → (l.getD k default).name.size ≤ maxLen)
end Go.Proofs.YtlcmcknbbmokjaaGreat
namespace Go.Proofs.YtlcmcknbbmokjaaGreat
open Go Go.RowKit Go.ChangeShapes Go.WideShapes Go.ChangeAt Go.Deep
theorem cellsI : Tryz.prog.cellsOf 3 = 1 := by kernel_rfl
theorem cellsS : Tryz.prog.cellsOf 9 = 1 := by kernel_rfl
theorem cellsPe : Tryz.prog.cellsOf 24 = 3 := by kernel_rfl
theorem cellsRq : Tryz.prog.cellsOf 26 = 13 := by kernel_rfl
theorem thirteen_of {α : Type} (l : List α) (h : l.length = 13) : ∃ c0 c1 c2 c3 c4 c5 c6 c7 c8 c9 c10 c11 c12, l = [c0, c1, c2, c3, c4, c5, c6, c7, c8, c9, c10, c11, c12] := by
  match l, h with
  | [c0, c1, c2, c3, c4, c5, c6, c7, c8, c9, c10, c11, c12], _ => exact ⟨c0, c1, c2, c3, c4, c5, c6, c7, c8, c9, c10, c11, c12, rfl⟩
theorem eleven_of {α : Type} (l : List α) (h : l.length = 11) : ∃ y0 y1 y2 y3 y4 y5 y6 y7 y8 y9 y10, l = [y0, y1, y2, y3, y4, y5, y6, y7, y8, y9, y10] := by
  match l, h with
  | [y0, y1, y2, y3, y4, y5, y6, y7, y8, y9, y10], _ => exact ⟨y0, y1, y2, y3, y4, y5, y6, y7, y8, y9, y10, rfl⟩
section
variable {H : Type} {enc : TypeId × Value → H} {w : World} {base : Nat} {sp : Nat → Bool} {held : Bool}
set_option maxRecDepth 100000 in
theorem rq_of_trod {fuel : Nat} {cs : List Value} {x : DataW H × List MemPlace} (h : DataW.trod enc Tryz.prog w base sp held fuel 26 cs = some x) : ∃ q : ReqV, cs = q.cells.toList ∧ q.name.size ≤ maxLen := by
  obtain ⟨xs, n, _, _, hl, hxl, hf⟩ := DataW.trod_struct Tryz.underlying26 h
  rw [cellsRq] at hl
  obtain ⟨c0, c1, c2, c3, c4, c5, c6, c7, c8, c9, c10, c11, c12, rfl⟩ := thirteen_of cs hl
  obtain ⟨y0, y1, y2, y3, y4, y5, y6, y7, y8, y9, y10, rfl⟩ := eleven_of xs hxl
  obtain ⟨s0, e0, -, hs0⟩ := DataW.trod_string Tryz.underlying9 (show DataW.trod _ Tryz.prog w base sp held n 9 _ = some y0 from hf 0 _ rfl)
  obtain ⟨s1, e1, -, hs1⟩ := DataW.trod_string Tryz.underlying9 (show DataW.trod _ Tryz.prog w base sp held n 9 _ = some y1 from hf 1 _ rfl)
  obtain ⟨s2, e2, -, hs2⟩ := DataW.trod_string Tryz.underlying9 (show DataW.trod _ Tryz.prog w base sp held n 9 _ = some y2 from hf 2 _ rfl)
  obtain ⟨s3, e3, -, hs3⟩ := DataW.trod_string Tryz.underlying9 (show DataW.trod _ Tryz.prog w base sp held n 9 _ = some y3 from hf 3 _ rfl)
  obtain ⟨s4, e4, -, hs4⟩ := DataW.trod_string Tryz.underlying9 (show DataW.trod _ Tryz.prog w base sp held n 9 _ = some y4 from hf 4 _ rfl)
  obtain ⟨s5, e5, -, hs5⟩ := DataW.trod_string Tryz.underlying9 (show DataW.trod _ Tryz.prog w base sp held n 9 _ = some y5 from hf 5 _ rfl)
  obtain ⟨n9, e9, -, -⟩ := DataW.trod_int Tryz.underlying3 (show DataW.trod _ Tryz.prog w base sp held n 3 _ = some y7 from hf 7 _ rfl)
  obtain ⟨n10, e10, -, -⟩ := DataW.trod_int Tryz.underlying3 (show DataW.trod _ Tryz.prog w base sp held n 3 _ = some y8 from hf 8 _ rfl)
  obtain ⟨n11, e11, -, -⟩ := DataW.trod_int Tryz.underlying3 (show DataW.trod _ Tryz.prog w base sp held n 3 _ = some y9 from hf 9 _ rfl)
  obtain ⟨n12, e12, -, -⟩ := DataW.trod_int Tryz.underlying3 (show DataW.trod _ Tryz.prog w base sp held n 3 _ = some y10 from hf 10 _ rfl)
  have g6 : DataW.trod enc Tryz.prog w base sp held n 24 [c6, c7, c8] = some y6 := by
    rw [show [c6, c7, c8] = ([c0, c1, c2, c3, c4, c5, c6, c7, c8, c9, c10, c11, c12].drop 6).take (Tryz.prog.cellsOf 24) from by rw [cellsPe]; rfl]; exact hf 6 _ rfl
  obtain ⟨z0, z1, z2, n2, _, _, k0, k1, k2⟩ := trod_struct3 Tryz.underlying24 g6
  obtain ⟨n6, e6, -, -⟩ := DataW.trod_int Tryz.underlying3 (show DataW.trod _ Tryz.prog w base sp held n2 3 _ = some z0 from k0)
  obtain ⟨n7, e7, -, -⟩ := DataW.trod_int Tryz.underlying3 (show DataW.trod _ Tryz.prog w base sp held n2 3 _ = some z1 from k1)
  obtain ⟨n8, e8, -, -⟩ := DataW.trod_int Tryz.underlying3 (show DataW.trod _ Tryz.prog w base sp held n2 3 _ = some z2 from k2)
  have e0' : ([c0, c1, c2, c3, c4, c5, c6, c7, c8, c9, c10, c11, c12].drop 0).take (Tryz.prog.cellsOf 9) = [.string s0] := e0
  have e1' : ([c0, c1, c2, c3, c4, c5, c6, c7, c8, c9, c10, c11, c12].drop 1).take (Tryz.prog.cellsOf 9) = [.string s1] := e1
  have e2' : ([c0, c1, c2, c3, c4, c5, c6, c7, c8, c9, c10, c11, c12].drop 2).take (Tryz.prog.cellsOf 9) = [.string s2] := e2
  have e3' : ([c0, c1, c2, c3, c4, c5, c6, c7, c8, c9, c10, c11, c12].drop 3).take (Tryz.prog.cellsOf 9) = [.string s3] := e3
  have e4' : ([c0, c1, c2, c3, c4, c5, c6, c7, c8, c9, c10, c11, c12].drop 4).take (Tryz.prog.cellsOf 9) = [.string s4] := e4
  have e5' : ([c0, c1, c2, c3, c4, c5, c6, c7, c8, c9, c10, c11, c12].drop 5).take (Tryz.prog.cellsOf 9) = [.string s5] := e5
  have e9' : ([c0, c1, c2, c3, c4, c5, c6, c7, c8, c9, c10, c11, c12].drop 9).take (Tryz.prog.cellsOf 3) = [.int .i64 n9] := e9
  have e10' : ([c0, c1, c2, c3, c4, c5, c6, c7, c8, c9, c10, c11, c12].drop 10).take (Tryz.prog.cellsOf 3) = [.int .i64 n10] := e10
  have e11' : ([c0, c1, c2, c3, c4, c5, c6, c7, c8, c9, c10, c11, c12].drop 11).take (Tryz.prog.cellsOf 3) = [.int .i64 n11] := e11
  have e12' : ([c0, c1, c2, c3, c4, c5, c6, c7, c8, c9, c10, c11, c12].drop 12).take (Tryz.prog.cellsOf 3) = [.int .i64 n12] := e12
  have e6' : ([c6, c7, c8].drop 0).take (Tryz.prog.cellsOf 3) = [.int .i64 n6] := e6
  have e7' : ([c6, c7, c8].drop 1).take (Tryz.prog.cellsOf 3) = [.int .i64 n7] := e7
  have e8' : ([c6, c7, c8].drop 2).take (Tryz.prog.cellsOf 3) = [.int .i64 n8] := e8
  rw [cellsI] at e6' e7' e8' e9' e10' e11' e12'
  rw [cellsS] at e0' e1' e2' e3' e4' e5'
  simp only [List.drop_zero, List.take_succ_cons, List.take_zero, List.cons.injEq, and_true, List.drop_succ_cons] at e0' e1' e2' e3' e4' e5' e6' e7' e8' e9' e10' e11' e12'
  subst e0' e1' e2' e3' e4' e5' e6' e7' e8' e9' e10' e11' e12'
  exact ⟨⟨s0, s1, s2, s3, s4, s5, n6, n7, n8, n9, n10, n11, n12⟩, rfl, hs0⟩
set_option maxRecDepth 100000 in
theorem open_req {r : Reach} {b0 : Nat} {v : Value} {d : DataW H} {ps : List MemPlace} (hval : Value.okWide Tryz.prog w r b0 26 v) (hd : DataW.Trod enc Tryz.prog w base sp held 26 v d ps) :
    ∃ q : ReqV, v = .agg q.cells ∧ q.name.size ≤ maxLen := by
  obtain ⟨cs, rfl, _⟩ := okWide_struct Tryz.underlying26 hval
  obtain ⟨fuel, hf⟩ := hd
  obtain ⟨q, hq, hs⟩ := rq_of_trod hf
  refine ⟨q, ?_, hs⟩
  have : cs.toList = q.cells.toList := hq
  rw [Array.toList_inj.1 this]
set_option maxRecDepth 100000 in
theorem open_reqs {v : Value} {d : DataW H} {ps : List MemPlace} {r : Reach} {b0 : Nat} (hval : Value.okWide Tryz.prog w r b0 67 v) (hd : DataW.Trod enc Tryz.prog w base (fun _ => true) held 67 v d ps) :
    ∃ l : List ReqV, RqArg w v l := by
  obtain ⟨A, mm, c, rfl⟩ := Go.WideShapes.okWide_slice Tryz.underlying67 hval
  obtain ⟨fuel, hf⟩ := hd
  rcases open_slice Tryz.underlying67 hf with ⟨e, -⟩ | ⟨a, len, cap, m, n, D, Pl, e, hb, hl, hm, hmm, -, hx⟩
  · exact ⟨[], .inl ⟨rfl, none, 0, by simpa [Value.cells] using e⟩⟩
  · have hv : Value.slice A mm c = .slice (some a) len cap := by simpa [Value.cells] using e
    rw [hv]
    clear e hv hval
    rcases Nat.eq_zero_or_pos len with h0 | h0
    · subst h0; exact ⟨[], .inl ⟨rfl, some a, cap, rfl⟩⟩
    rw [cellsRq] at hx
    have each : ∀ i, i < len → ∃ q : ReqV, (∀ t u, q.cells[t]? = some u → w.cell? ((a.add (i * 13)).add t) = some u) ∧ q.name.size ≤ maxLen := fun i hi => by
      obtain ⟨cs', h1, h2⟩ := hx i (by simp at hmm; omega)
      obtain ⟨q, rfl, hs⟩ := rq_of_trod h2
      obtain ⟨_, hlen, hcell⟩ := World.cells?_some h1
      refine ⟨q, fun t u hu => ?_, hs⟩
      have ht : t < 13 := by
        have := (Array.getElem?_eq_some_iff.1 hu).1
        simpa [ReqV.cells] using this
      rw [hcell t ht]
      simpa using hu
    obtain ⟨Q, hQ⟩ := choose_lt each
    have hsp : a.spot = none := by
      have := (hQ 0 h0).1 0 _ rfl
      rw [Nat.zero_mul] at this
      have h2 := World.cell?_spot this
      simpa [Addr.add] using h2
    obtain ⟨b, off, s⟩ := a
    simp only at hsp
    subst hsp
    have hg : ∀ i, i < len → ((List.range len).map Q).getD i default = Q i := fun i hi => by simp [List.getD, hi]
    refine ⟨(List.range len).map Q, .inr ⟨by simpa using h0, b, off, cap, by simp, ⟨fun k hk t u hu => ?_⟩, by simpa using hl, fun k hk => ?_⟩⟩
    · have hk' : k < len := by simpa using hk
      rw [hg k hk'] at hu
      have := (hQ k hk').1 t u hu
      rw [add_plain, add_plain] at this
      exact this
    · have hk' : k < len := by simpa using hk
      rw [hg k hk']; exact (hQ k hk').2
end
end Go.Proofs.YtlcmcknbbmokjaaGreat
namespace Go.Proofs.YtlcmcknbbmokjaaGreat
open Go Go.RowKit Go.WideShapes Go.ChangeAt
theorem fourteen_of {α : Type} (l : List α) (h : l.length = 14) : ∃ c0 r, l = c0 :: r ∧ r.length = 13 := by
  match l, h with
  | c0 :: r, h => exact ⟨c0, r, rfl, by simpa using h⟩
theorem pair_of {α : Type} (l : List α) (h : l.length = 2) : ∃ y0 y1, l = [y0, y1] := by
  match l, h with
  | [y0, y1], _ => exact ⟨y0, y1, rfl⟩
theorem cellsLn : Tryz.prog.cellsOf 32 = 14 := by kernel_rfl
section
variable {H : Type} {enc : TypeId × Value → H} {w : World} {base : Nat} {sp : Nat → Bool} {held : Bool}
set_option maxRecDepth 100000 in
theorem ln_of_trod {fuel : Nat} {cs : List Value} {x : DataW H × List MemPlace} (h : DataW.trod enc Tryz.prog w base sp held fuel 32 cs = some x) : ∃ l : LineV, cs = l.cells.toList ∧ l.q.name.size ≤ maxLen := by
  obtain ⟨xs, n, _, _, hl, hxl, hf⟩ := DataW.trod_struct Tryz.underlying32 h
  rw [cellsLn] at hl
  obtain ⟨c0, r, rfl, hr⟩ := fourteen_of cs hl
  obtain ⟨y0, y1, rfl⟩ := pair_of xs hxl
  obtain ⟨s0, e0, -, hs0⟩ := DataW.trod_string Tryz.underlying9 (show DataW.trod _ Tryz.prog w base sp held n 9 _ = some y0 from hf 0 _ rfl)
  have g1 : DataW.trod enc Tryz.prog w base sp held n 26 r = some y1 := by
    have e : ((c0 :: r).drop 1).take (Tryz.prog.cellsOf 26) = r := by
      rw [cellsRq, List.drop_succ_cons, List.drop_zero, List.take_of_length_le (by omega)]
    rw [← e]; exact hf 1 _ rfl
  obtain ⟨q, hq, hs⟩ := rq_of_trod g1
  have e0' : ((c0 :: r).drop 0).take (Tryz.prog.cellsOf 9) = [.string s0] := e0
  rw [cellsS] at e0'
  simp only [List.drop_zero, List.take_succ_cons, List.take_zero, List.cons.injEq, and_true] at e0'
  refine ⟨⟨s0, q⟩, ?_, hs⟩
  rw [e0', hq]
  rfl
set_option maxRecDepth 100000 in
theorem open_line {r : Reach} {b0 : Nat} {v : Value} {d : DataW H} {ps : List MemPlace} (hval : Value.okWide Tryz.prog w r b0 32 v) (hd : DataW.Trod enc Tryz.prog w base sp held 32 v d ps) :
    ∃ l : LineV, v = .agg l.cells ∧ l.q.name.size ≤ maxLen := by
  obtain ⟨cs, rfl, _⟩ := okWide_struct Tryz.underlying32 hval
  obtain ⟨fuel, hf⟩ := hd
  obtain ⟨l, hq, hs⟩ := ln_of_trod hf
  refine ⟨l, ?_, hs⟩
  have : cs.toList = l.cells.toList := hq
  rw [Array.toList_inj.1 this]
end
end Go.Proofs.YtlcmcknbbmokjaaGreat
namespace Go.Proofs.YtlcmcknbbmokjaaGreat
open Go Go.RowKit Go.ChangeShapes Go.WideShapes Go.ChangeAt Go.Deep
theorem five_of {α : Type} (l : List α) (h : l.length = 5) : ∃ c0 c1 c2 c3 c4, l = [c0, c1, c2, c3, c4] := by
  match l, h with
  | [c0, c1, c2, c3, c4], _ => exact ⟨c0, c1, c2, c3, c4, rfl⟩
theorem cellsMs : Tryz.prog.cellsOf 38 = 5 := by kernel_rfl
theorem cellsLs : Tryz.prog.cellsOf 36 = 1 := by kernel_rfl
section
variable {H : Type} {enc : TypeId × Value → H} {w : World} {base : Nat} {sp : Nat → Bool} {held : Bool}
set_option maxRecDepth 100000 in
theorem ln_of_trod' {fuel : Nat} {cs : List Value} {x : DataW H × List MemPlace} (h : DataW.trod enc Tryz.prog w base sp held fuel 32 cs = some x) : ∃ l : LineV, cs = l.cells.toList ∧ l.act.size ≤ maxLen ∧ l.q.name.size ≤ maxLen := by
  obtain ⟨xs, n, _, _, hl, hxl, hf⟩ := DataW.trod_struct Tryz.underlying32 h
  rw [cellsLn] at hl
  obtain ⟨c0, r, rfl, hr⟩ := fourteen_of cs hl
  obtain ⟨y0, y1, rfl⟩ := pair_of xs hxl
  obtain ⟨s0, e0, -, hs0⟩ := DataW.trod_string Tryz.underlying9 (show DataW.trod _ Tryz.prog w base sp held n 9 _ = some y0 from hf 0 _ rfl)
  have g1 : DataW.trod enc Tryz.prog w base sp held n 26 r = some y1 := by
    have e : ((c0 :: r).drop 1).take (Tryz.prog.cellsOf 26) = r := by
      rw [cellsRq, List.drop_succ_cons, List.drop_zero, List.take_of_length_le (by omega)]
    rw [← e]; exact hf 1 _ rfl
  obtain ⟨q, hq, hs⟩ := rq_of_trod g1
  have e0' : ((c0 :: r).drop 0).take (Tryz.prog.cellsOf 9) = [.string s0] := e0
  rw [cellsS] at e0'
  simp only [List.drop_zero, List.take_succ_cons, List.take_zero, List.cons.injEq, and_true] at e0'
  refine ⟨⟨s0, q⟩, ?_, hs0, hs⟩
  rw [e0', hq]
  rfl
set_option maxRecDepth 100000 in
theorem lns_of_trod {fuel : Nat} {cs : List Value} {x : DataW H × List MemPlace} (hf : DataW.trod enc Tryz.prog w base (fun _ => true) held fuel 36 cs = some x) : ∃ v, cs = [v] ∧ ∃ L : List LineV, LnArg w v L := by
  rcases open_slice Tryz.underlying36 hf with ⟨e, -⟩ | ⟨a, len, cap, m, n, D, Pl, e, hb, hl, hm, hmm, -, hx⟩
  · exact ⟨_, e, [], .inl ⟨rfl, none, 0, rfl⟩⟩
  · refine ⟨_, e, ?_⟩
    clear e
    rcases Nat.eq_zero_or_pos len with h0 | h0
    · subst h0; exact ⟨[], .inl ⟨rfl, some a, cap, rfl⟩⟩
    rw [cellsLn] at hx
    have each : ∀ i, i < len → ∃ q : LineV, (∀ t u, q.cells[t]? = some u → w.cell? ((a.add (i * 14)).add t) = some u) ∧ q.act.size ≤ maxLen ∧ q.q.name.size ≤ maxLen := fun i hi => by
      obtain ⟨cs', h1, h2⟩ := hx i (by simp at hmm; omega)
      obtain ⟨q, rfl, hs⟩ := ln_of_trod' h2
      obtain ⟨_, hlen, hcell⟩ := World.cells?_some h1
      refine ⟨q, fun t u hu => ?_, hs⟩
      have ht : t < 14 := by
        have := (Array.getElem?_eq_some_iff.1 hu).1
        simpa [LineV.cells] using this
      rw [hcell t ht]
      simpa using hu
    obtain ⟨Q, hQ⟩ := choose_lt each
    have hsp : a.spot = none := by
      have := (hQ 0 h0).1 0 _ rfl
      rw [Nat.zero_mul] at this
      have h2 := World.cell?_spot this
      simpa [Addr.add] using h2
    obtain ⟨b, off, s⟩ := a
    simp only at hsp
    subst hsp
    have hg : ∀ i, i < len → ((List.range len).map Q).getD i default = Q i := fun i hi => by simp [List.getD, hi]
    refine ⟨(List.range len).map Q, .inr ⟨by simpa using h0, b, off, cap, by simp, ⟨fun k hk t u hu => ?_⟩, by simpa using hl, fun k hk => ?_⟩⟩
    · have hk' : k < len := by simpa using hk
      rw [hg k hk'] at hu
      have := (hQ k hk').1 t u hu
      rw [add_plain, add_plain] at this
      exact this
    · have hk' : k < len := by simpa using hk
      rw [hg k hk']; exact (hQ k hk').2
set_option maxRecDepth 100000 in
theorem open_msg {r : Reach} {b0 : Nat} {v : Value} {d : DataW H} {ps : List MemPlace} (hval : Value.okWide Tryz.prog w r b0 38 v) (hd : DataW.Trod enc Tryz.prog w base (fun _ => true) held 38 v d ps) :
    ∃ (h : HeadV) (L : List LineV) (x : Value), v = .agg (h.cells x) ∧ LnArg w x L := by
  obtain ⟨cs, rfl, _⟩ := okWide_struct Tryz.underlying38 hval
  obtain ⟨fuel, hf0⟩ := hd
  obtain ⟨xs, n, _, _, hl, hxl, hf⟩ := DataW.trod_struct Tryz.underlying38 hf0
  rw [cellsMs] at hl
  obtain ⟨c0, c1, c2, c3, c4, hcs⟩ := five_of _ hl
  obtain ⟨y0, y1, y2, y3, y4, rfl⟩ := five_of xs hxl
  rw [hcs] at hf
  obtain ⟨s0, e0, -, -⟩ := DataW.trod_string Tryz.underlying9 (show DataW.trod _ Tryz.prog w base _ held n 9 _ = some y0 from hf 0 _ rfl)
  obtain ⟨s1, e1, -, -⟩ := DataW.trod_string Tryz.underlying9 (show DataW.trod _ Tryz.prog w base _ held n 9 _ = some y1 from hf 1 _ rfl)
  obtain ⟨s2, e2, -, -⟩ := DataW.trod_string Tryz.underlying9 (show DataW.trod _ Tryz.prog w base _ held n 9 _ = some y2 from hf 2 _ rfl)
  obtain ⟨n3, e3, -, -⟩ := DataW.trod_int Tryz.underlying3 (show DataW.trod _ Tryz.prog w base _ held n 3 _ = some y3 from hf 3 _ rfl)
  obtain ⟨x4, e4, L, hL⟩ := lns_of_trod (show DataW.trod enc Tryz.prog w base (fun _ => true) held n 36 _ = some y4 from hf 4 _ rfl)
  have e0' : ([c0, c1, c2, c3, c4].drop 0).take (Tryz.prog.cellsOf 9) = [.string s0] := e0
  have e1' : ([c0, c1, c2, c3, c4].drop 1).take (Tryz.prog.cellsOf 9) = [.string s1] := e1
  have e2' : ([c0, c1, c2, c3, c4].drop 2).take (Tryz.prog.cellsOf 9) = [.string s2] := e2
  have e3' : ([c0, c1, c2, c3, c4].drop 3).take (Tryz.prog.cellsOf 3) = [.int .i64 n3] := e3
  have e4' : ([c0, c1, c2, c3, c4].drop 4).take (Tryz.prog.cellsOf 36) = [x4] := e4
  rw [cellsS] at e0' e1' e2'
  rw [cellsI] at e3'
  rw [cellsLs] at e4'
  simp only [List.drop_zero, List.take_succ_cons, List.take_zero, List.cons.injEq, and_true, List.drop_succ_cons] at e0' e1' e2' e3' e4'
  subst e0' e1' e2' e3' e4'
  refine ⟨⟨s0, s1, s2, n3⟩, L, c4, ?_, hL⟩
  have : cs.toList = (HeadV.cells ⟨s0, s1, s2, n3⟩ c4).toList := hcs
  rw [Array.toList_inj.1 this]
end
end Go.Proofs.YtlcmcknbbmokjaaGreat
namespace Go.Proofs.YtlcmcknbbmokjaaGreat
open Go Go.RowKit Go.ChangeShapes Go.WideShapes
theorem laidOut : laidOutB Tryz.prog = true := by kernel_rfl
theorem sameAt_below {w w' : World} (hb : Below w.heap.size w w') {p : MemPlace} (hp : p.block < w.heap.size) : w.sameAt w' p := by
  cases p with
  | cell b off => exact hb.cell (p := ⟨b, off, none⟩) hp
  | map b => exact hb.block b hp
section
variable {H : Type} {enc : TypeId × Value → H} {W W' : World}
theorem trodAll_stays {base : Nat} {sp : Nat → Bool} : ∀ {ts : List TypeId} {vs : List Value} {ds : List (DataW H)} {ps : List MemPlace}, (∀ t ∈ ts, Tryz.prog.readableRec t = true ∧ t < Tryz.prog.types.size) →
    DataW.TrodAll enc Tryz.prog W base (fun _ => true) true ts vs ds ps → (∀ p ∈ ps, W.sameAt W' p) → (∀ p ∈ ps, sp p.block = true) → DataW.TrodAll enc Tryz.prog W' base sp true ts vs ds ps := by
  intro ts
  induction ts with
  | nil =>
    intro vs ds ps _ h _ _
    obtain ⟨rfl, rfl, rfl⟩ := trodAll_nil h
    exact trodAll_mk0
  | cons t ts ih =>
    intro vs ds ps ht h hsame hs
    obtain ⟨v, vs', d, ds', p, q, rfl, rfl, rfl, h1, h2⟩ := trodAll_cons h
    have a := Go.WideElems.Trod_stays laidOut (ht t (by simp)).1 (ht t (by simp)).2 h1 (fun x hx => hsame x (by simp [hx])) (fun x hx => hs x (by simp [hx]))
    exact trodAll_cons_mk a (ih (fun t' ht' => ht t' (by simp [ht'])) h2 (fun x hx => hsame x (by simp [hx])) (fun x hx => hs x (by simp [hx])))
end
end Go.Proofs.YtlcmcknbbmokjaaGreat
namespace Go.Proofs.YtlcmcknbbmokjaaGreat
open Go.ChangeShapes Go.WideShapes Go.ChangeAt Go.RowKit
theorem cellsInt : Tryz.prog.cellsOf 3 = 1 := by kernel_rfl
theorem cellsStr : Tryz.prog.cellsOf 9 = 1 := by kernel_rfl
theorem two_of {α : Type} (l : List α) (h : l.length = 2) : ∃ a b, l = [a, b] := by
  match l, h with
  | [a, b], _ => exact ⟨a, b, rfl⟩
theorem heap_of_var {W : World} {name : String} {g : Nat} {cs : Array Value} (hg : Tryz.prog.globalNamed name = some g) (h : W.var? Tryz.prog name = some cs) : ∃ t fr, W.heap[g]? = some (.cells cs t fr) := by
  unfold World.var? at h
  rw [hg] at h
  simp only [Option.bind_some] at h
  split at h
  · rename_i cs' t fr hh
    cases h
    exact ⟨t, fr, hh⟩
  · cases h
theorem u16_bd {a : Int} (h : (Lit.int .u16 a).wf = true) : 0 ≤ a ∧ a ≤ 65535 := by
  unfold Lit.wf at h
  simp at h
  rw [show IntKind.u16.min = 0 by decide, show IntKind.u16.max = 65535 by decide] at h
  exact h
theorem u8_bd {a : Int} (h : (Lit.int .u8 a).wf = true) : 0 ≤ a ∧ a ≤ 255 := by
  unfold Lit.wf at h
  simp at h
  rw [show IntKind.u8.min = 0 by decide, show IntKind.u8.max = 255 by decide] at h
  exact h
section
variable {H : Type} {enc : TypeId × Value → H} {P : Program}
/-- The row's last step where of the world behind the call only Below is known. -/
theorem post_of_below {f : Func} {s : ChangeSpec} {apart fresh handsOn again : Bool} {W W' : World} {args : Array Value} {v : Value} {ds gs : List (DataW H)} {before pa pv : List MemPlace}
    (hW : DataW.Whole enc P f.params.toList s.vars apart W args.toList ds gs before)
    (hres : ∀ (b : Nat) (sp : Nat → Bool) (hd : Bool), DataW.TrodAll enc P W' b sp hd f.resultTypes.toList (v.resultList f.resultTypes.size) (s.fn H (ds ++ gs)).results [])
    (hargs : ∀ sp : Nat → Bool, (∀ p ∈ before, sp p.block = true) → DataW.TrodAll enc P W' 0 sp true f.params.toList args.toList (s.fn H (ds ++ gs)).args pa)
    (hvars : ∀ sp : Nat → Bool, (∀ p ∈ before, sp p.block = true) → DataW.TrodVars enc P W' sp s.vars (s.fn H (ds ++ gs)).vars pv)
    (hps : before = pa ++ pv) (hb : Below W.heap.size W W')
    (hok : ∀ (j : Nat) (t : TypeId) (r : Value), f.resultTypes[j]? = some t → (v.resultList f.resultTypes.size)[j]? = some r → Value.okWide P W' .any 0 t r) :
    s.post enc P f apart fresh handsOn again W args v W' := by
  have hlt : ∀ p ∈ before, p.block < W.heap.size := fun p hp => hW.lt p hp
  have hold : ∀ p ∈ before, (fun b => decide (b < W.heap.size)) p.block = true := fun p hp => by simpa using hlt p hp
  refine ⟨ds, gs, before, [], pa, pv, hW, hres _ _ _, hargs _ hold, hvars _ hold, World.keptBut_mono (fun p hp => ⟨hp, .inr (by rw [hps, List.mem_append] at hp; exact hp)⟩) (hb.frame (· ∈ before)), fun _ => ?_⟩
  obtain ⟨_, _, _, _, _, hz, hn⟩ := hW
  refine ⟨hok, _, _, ([] ++ pa) ++ pv, ⟨[] ++ pa, pv, trodAll_append (hargs _ (fun _ _ => rfl)) (hres _ _ _), hvars _ (fun _ _ => rfl), rfl, fun b off hp => ?_, fun ha => ?_⟩, fun p hp _ => by rw [hps]; simpa using hp⟩
  · have hin : MemPlace.cell b off ∈ before := by rw [hps]; simpa using hp
    rw [hb.frozen (hlt _ hin)]
    exact hz b off hin
  · have := hn ha
    rw [hps] at this
    simpa using this
end
end Go.Proofs.YtlcmcknbbmokjaaGreat
