/- Contract of message.wrongLine: the first line of a message with an error. -/
import Derived.Test.YtphoclgibnhjfaaGreatPm12
import Derived.Test.YtphoclgibnhjfaaGreatPm10
namespace Go.Proofs.YtphoclgibnhjfaaGreat
open Go Go.RowKit Ev Go.ChangeMaps Go.MapKept
instance : Inhabited LineV := ⟨⟨ByteArray.empty, default⟩⟩
/-- The cells of a slice of lines. -/
structure LnsAt (w : World) (b off : Nat) (l : List LineV) : Prop where
  c : ∀ k, k < l.length → ∀ t v, (l.getD k default).cells[t]? = some v → w.cell? ⟨b, off + k * 14 + t, none⟩ = some v
theorem LnsAt.below {w w' : World} {b off : Nat} {l : List LineV} (h : LnsAt w b off l) (hb : Below w.heap.size w w') : LnsAt w' b off l := ⟨fun k hk t v hv => b_old hb (h.c k hk t v hv)⟩
theorem LnsAt.row {w : World} {b off : Nat} {L : List LineV} (h : LnsAt w b off L) {k : Nat} (hk : k < L.length) {l : LineV} (hl : L.getD k default = l) :
    w.cell? ⟨b, off + k * 14, none⟩ = some (.string l.act) ∧ w.cell? ⟨b, off + k * 14 + 1, none⟩ = some (.string l.q.name) ∧ w.cell? ⟨b, off + k * 14 + 2, none⟩ = some (.string l.q.carrier) ∧ w.cell? ⟨b, off + k * 14 + 3, none⟩ = some (.string l.q.kind) ∧ w.cell? ⟨b, off + k * 14 + 4, none⟩ = some (.string l.q.terminal) ∧ w.cell? ⟨b, off + k * 14 + 5, none⟩ = some (.string l.q.partner) ∧ w.cell? ⟨b, off + k * 14 + 6, none⟩ = some (.string l.q.link) ∧ w.cell? ⟨b, off + k * 14 + 7, none⟩ = some (.int .i64 l.q.from_) ∧ w.cell? ⟨b, off + k * 14 + 8, none⟩ = some (.int .i64 l.q.to) ∧ w.cell? ⟨b, off + k * 14 + 9, none⟩ = some (.int .i64 l.q.days) ∧ w.cell? ⟨b, off + k * 14 + 10, none⟩ = some (.int .i64 l.q.minute) ∧ w.cell? ⟨b, off + k * 14 + 11, none⟩ = some (.int .i64 l.q.seats) ∧ w.cell? ⟨b, off + k * 14 + 12, none⟩ = some (.int .i64 l.q.size) ∧ w.cell? ⟨b, off + k * 14 + 13, none⟩ = some (.int .i64 l.q.noise) := by
  subst hl
  exact ⟨h.c k hk 0 _ rfl, h.c k hk 1 _ rfl, h.c k hk 2 _ rfl, h.c k hk 3 _ rfl, h.c k hk 4 _ rfl, h.c k hk 5 _ rfl, h.c k hk 6 _ rfl, h.c k hk 7 _ rfl, h.c k hk 8 _ rfl, h.c k hk 9 _ rfl, h.c k hk 10 _ rfl, h.c k hk 11 _ rfl, h.c k hk 12 _ rfl, h.c k hk 13 _ rfl⟩
/-- The kind of messages that an action belongs to. -/
def actKB (s : ByteArray) : ByteArray := ⟨(actK s.data.toList).toArray⟩
/-- The error of a line behind another one, in a message of a kind. -/
def lnErr (kind : ByteArray) (x l : LineV) : Int := fst [lineErr l, unl ((actKB l.act).toList == kind.toList) 18, unl (mayB x l) 11]
/-- What wrongLine does from the line i on, behind the line x. -/
def wlGo (kind : ByteArray) : List LineV → LineV → Nat → Int × Int
  | [], x, i => if (x.act.toList == [67]) = true then ((i : Int) - 1, 11) else (0, 0)
  | l :: r, x, i => if lnErr kind x l ≠ 0 then ((i : Int), lnErr kind x l) else wlGo kind r l (i + 1)
theorem wlGo_drop (kind : ByteArray) (L : List LineV) (k : Nat) (h : k < L.length) (l : LineV) (hl : L.getD k default = l) (x : LineV) :
    wlGo kind (L.drop k) x k = if lnErr kind x l ≠ 0 then ((k : Int), lnErr kind x l) else wlGo kind (L.drop (k + 1)) l (k + 1) := by
  subst hl
  rw [List.drop_eq_getElem_cons h]
  simp only [List.getD_eq_getElem?_getD, List.getElem?_eq_getElem h, Option.getD_some]
  rfl
def zeroReq : ReqV := ⟨⟨#[]⟩, ⟨#[]⟩, ⟨#[]⟩, ⟨#[]⟩, ⟨#[]⟩, ⟨#[]⟩, 0, 0, 0, 0, 0, 0, 0⟩
def zeroLine : LineV := ⟨⟨#[]⟩, zeroReq⟩
/-- A block of the call that holds a line, and may be written. -/
structure LineBox (w : World) (b : Nat) (l : LineV) : Prop where
  c : ∀ t, t < 14 → w.cell? ⟨b, t, none⟩ = some (l.cells.toList.getD t undef)
  f : ∀ t, t < 14 → w.frozen? ⟨b, t, none⟩ = false
theorem LineBox.below {w w' : World} {b : Nat} {l : LineV} (h : LineBox w b l) (hb : Below w.heap.size w w') : LineBox w' b l :=
  ⟨fun t ht => b_old hb (h.c t ht), fun t ht => b_frozen hb (h.c t ht) (h.f t ht)⟩
theorem LineBox.line {w : World} {b : Nat} {l : LineV} (h : LineBox w b l) : LineW w b l := ⟨h.c 0 (by decide), h.c 1 (by decide), h.c 2 (by decide), h.c 3 (by decide), h.c 4 (by decide), h.c 5 (by decide), h.c 6 (by decide), h.c 7 (by decide), h.c 8 (by decide), h.c 9 (by decide), h.c 10 (by decide), h.c 11 (by decide), h.c 12 (by decide), h.c 13 (by decide)⟩
theorem LineBox.there {w : World} {b : Nat} {l : LineV} (h : LineBox w b l) : w.there b 0 14 := fun j hj => ⟨by rw [Nat.zero_add, h.c j hj]; rfl, by rw [Nat.zero_add]; exact h.f j hj⟩
theorem LineBox.new (w : World) (l : LineV) (T : TypeId) : LineBox (w.alloc (.cells l.cells T)) w.heap.size l :=
  have h := RowV.new w l.cells.toList T
  ⟨fun t ht => h.c t ht, fun t ht => h.f t ht⟩
theorem frozen_cells (w : World) (m o : Nat) (vs : List Value) (a : Addr) : (w.setCells m o vs).frozen? a = w.frozen? a := World.frozen?_setCells m vs o w a
theorem LineBox.put {w : World} {b : Nat} {x l : LineV} (h : LineBox w b x) : LineBox (w.setCells b 0 l.cells.toList) b l :=
  ⟨fun t ht => by
    have hr := World.rangeAt_setCells_same w b 0 l.cells.toList h.there t (l.cells.toList.getD t undef) (by
      rw [List.getD_eq_getElem?_getD]
      have hl : t < l.cells.toList.length := ht
      rw [List.getElem?_eq_getElem hl]; rfl)
    rwa [Nat.zero_add] at hr, fun t ht => by rw [frozen_cells]; exact h.f t ht⟩
theorem KindsM.setCells {w : World} {b m o : Nat} {vs : List Value} (h : KindsM w b) (hne : b ≠ m) : KindsM (w.setCells m o vs) b := by
  induction vs generalizing o w with
  | nil => exact h
  | cons v r ih =>
    obtain ⟨D, hown, hat⟩ := h.ex
    exact ih ⟨⟨D, hown.setCell (a := ⟨m, o, none⟩) hne v, hat⟩⟩
theorem HeadW.off {w w' : World} {b m : Nat} {h : HeadV} {v : Value} (x : HeadW w b h v) (hb : Off m w w') (hne : b ≠ m) : HeadW w' b h v :=
  ⟨hb _ _ hne x.c0, hb _ _ hne x.c1, hb _ _ hne x.c2, hb _ _ hne x.c3, hb _ _ hne x.c4⟩
theorem kinds_new' (w : World) : Calls Tryz.prog 111 #[] w fun e w' => e = .returned (.map (some w.heap.size)) ∧ KindsM w' w.heap.size ∧ Below w.heap.size w w' ∧ w.heap.size < w'.heap.size := (kinds_new w).mono fun e w' ⟨h1, h2, h3⟩ => ⟨h1, h2, h3, by
  obtain ⟨D, hown, _⟩ := h2.ex
  obtain ⟨es, cl, hb, _⟩ := hown
  rcases Nat.lt_or_ge w.heap.size w'.heap.size with h | h
  · exact h
  · rw [Array.getElem?_eq_none h] at hb; cases hb⟩
set_option maxRecDepth 100000 in
set_option maxHeartbeats 4000000 in
theorem wrongLine_any (h : HeadV) (L : List LineV) (b off cap : Nat) (w : World) (hl : LnsAt w b off L) (hs : ∀ k, k < L.length → (L.getD k default).act.size ≤ maxLen) (hn : L.length ≤ 900) :
    Calls Tryz.prog 53 #[.agg (h.cells (.slice (some ⟨b, off, none⟩) L.length cap))] w fun e w' => e = .returned (.tuple #[.int .i64 (wlGo h.kind L zeroLine 0).1, .int .i64 (wlGo h.kind L zeroLine 0).2]) ∧ Below w.heap.size w w' := by
  have HL := Lib.hid hl
  have HS := Lib.hid hs
  clear hl hs
  obtain ⟨P, hP⟩ : ∃ P, P = wlGo h.kind L zeroLine 0 := ⟨_, rfl⟩
  rw [← hP]
  have HG := Lib.hid hP
  clear hP
  obtain ⟨W, HW, hb0, R⟩ := head_new w h (.slice (some ⟨b, off, none⟩) L.length cap) 25
  have HR := Lib.hid R
  clear R
  obtain ⟨kind, airport, season, day⟩ := h
  simp only [HeadV.cells] at HW HR ⊢
  go_enter Tryz.func53, Tryz.ntmps53
  go_wp2_with fail
  rw [HW.out]
  clear HW
  refine (kinds_new' _).mono ?_
  rintro e1 w1 ⟨rfl, hK, hb1, hlt1⟩
  have hWs := hb0.size
  have HWL : Hid (w.heap.size < W.heap.size) := Lib.hid (cell_in HR.out.c0)
  obtain ⟨W2, HW2, hb2, hBx⟩ : ∃ W2, Hid (w1.alloc (.cells #[.string ⟨#[]⟩, .string ⟨#[]⟩, .string ⟨#[]⟩, .string ⟨#[]⟩, .string ⟨#[]⟩, .string ⟨#[]⟩, .string ⟨#[]⟩, .int .i64 0, .int .i64 0, .int .i64 0, .int .i64 0, .int .i64 0, .int .i64 0, .int .i64 0] 88) = W2) ∧ Below w1.heap.size w1 W2 ∧ LineBox W2 w1.heap.size zeroLine := ⟨_, Lib.hid rfl, below_alloc _ _, LineBox.new w1 zeroLine _⟩
  have HHD : Hid (HeadW W2 w.heap.size ⟨kind, airport, season, day⟩ (.slice (some ⟨b, off, none⟩) L.length cap)) := Lib.hid ((HR.out.below hb1).below hb2)
  have HKM : Hid (KindsM W2 W.heap.size) := Lib.hid (hK.below hb2)
  have HB2 : Hid (Below w.heap.size w W2) := Lib.hid (b_then (b_then hb0 hb1) hb2)
  have HBX := Lib.hid hBx
  have HN1 : Hid (W.heap.size < w1.heap.size) := Lib.hid hlt1
  clear hK hb1 hb2 hBx hlt1 HR hb0 hWs
  have x4 : (w1.alloc (.cells #[.string ⟨#[]⟩, .string ⟨#[]⟩, .string ⟨#[]⟩, .string ⟨#[]⟩, .string ⟨#[]⟩, .string ⟨#[]⟩, .string ⟨#[]⟩, .int .i64 0, .int .i64 0, .int .i64 0, .int .i64 0, .int .i64 0, .int .i64 0, .int .i64 0] 88)).cell? ⟨w.heap.size, 4, none⟩ = some (.slice (some ⟨b, off, none⟩) L.length cap) := by rw [HW2.out]; exact HHD.out.c4
  go_wp2_with fail
  clear x4
  go_loopw [6, 7, 8, 13] (fun _ _ _ i wr => ∃ (k : Nat) (x : LineV), k ≤ L.length ∧ i = .int .i64 k ∧ Hid (P = wlGo kind (L.drop k) x k) ∧ Hid (LineBox wr w1.heap.size x) ∧ Hid (KindsM wr W.heap.size) ∧ Hid (HeadW wr w.heap.size ⟨kind, airport, season, day⟩ (.slice (some ⟨b, off, none⟩) L.length cap)) ∧ Hid (Below w.heap.size w wr) ∧ Hid (w1.heap.size < wr.heap.size)) (fun _ _ _ i _ => L.length - (intOf i).toNat)
  case atStart => exact ⟨0, zeroLine, Nat.zero_le _, rfl, Lib.hid (by rw [HG.out]; simp), by rw [HW2.out]; exact HBX, by rw [HW2.out]; exact HKM, by rw [HW2.out]; exact HHD, by rw [HW2.out]; exact HB2, Lib.hid (by simp)⟩
  case round =>
    obtain ⟨k, x, hk, rfl, HF, HX, HKr, HHr, HBr, HNr⟩ := hrel
    clear HG HW2 HHD HKM HB2 HBX
    by_cases hlt : k < L.length
    · have hd := wlGo_drop kind L k hlt _ rfl x
      have hrow := (HL.out.below HBr.out).row hlt rfl
      have hsz := HS.out k hlt
      generalize L.getD k default = l at hd hrow hsz
      have HD := Lib.hid (HF.out.trans hd)
      clear hd HF
      have HE : Hid (lnErr kind x l = fst [lineErr l, unl ((actKB l.act).toList == kind.toList) 18, unl (mayB x l) 11]) := Lib.hid rfl
      have hck := CheckLine_any l hsz
      have hmf := mayFollow_any x l
      obtain ⟨W7, HW7, hb7, R7⟩ := line_new wr l 88
      have hlk : ∀ y : KeptW W7, _ := fun y => ((HKr.out.below hb7).below y.below).look hsz
      have RX := (HX.out.line).below hb7
      have hh0 := b_old hb7 HHr.out.c0
      have HBn : Hid (LineBox W7 w1.heap.size x) := Lib.hid (HX.out.below hb7)
      have HKn : Hid (KindsM W7 W.heap.size) := Lib.hid (HKr.out.below hb7)
      have HHn : Hid (HeadW W7 w.heap.size ⟨kind, airport, season, day⟩ (.slice (some ⟨b, off, none⟩) L.length cap)) := Lib.hid (HHr.out.below hb7)
      have HB7 : Hid (Below w.heap.size w W7) := Lib.hid (b_then HBr.out hb7)
      have HN7 : Hid (w1.heap.size < W7.heap.size) := Lib.hid (Nat.lt_of_lt_of_le HNr.out hb7.size)
      have HLX : Hid (∀ V : World, LineBox V w1.heap.size x → LineBox (V.setCells w1.heap.size 0 l.cells.toList) w1.heap.size l) := Lib.hid fun V hV => hV.put
      have HXL : Hid (x.act = x.act) := Lib.hid rfl
      clear hsz HXL
      generalize lnErr kind x l = le at HE HD
      generalize lineErr l = e0 at HE hck
      generalize mayB x l = mb at HE hmf
      have HAK : Hid (actKB l.act = ⟨(actK l.act.data.toList).toArray⟩) := Lib.hid rfl
      generalize actKB l.act = ak at HE HAK
      rw [← HAK.out] at hlk
      clear HAK
      obtain ⟨r0, r1, r2, r3, r4, r5, r6, r7, r8, r9, r10, r11, r12, r13⟩ := R7
      obtain ⟨y0, y1, y2, y3, y4, y5, y6, y7, y8, y9, y10, y11, y12, y13⟩ := RX
      obtain ⟨z0, z1, z2, z3, z4, z5, z6, z7, z8, z9, z10, z11, z12, z13⟩ := hrow
      have HRL : Hid (∀ V : World, Below W7.heap.size W7 V → LineW V wr.heap.size l) := Lib.hid fun V hV => (LineW.mk r0 r1 r2 r3 r4 r5 r6 r7 r8 r9 r10 r11 r12 r13 : LineW W7 wr.heap.size l).below hV
      obtain ⟨qact, ⟨qname, qcarrier, qkind, qterminal, qpartner, qlink, qa, qb, qd, qm, qs, qz, qn⟩⟩ := l
      obtain ⟨pact, ⟨pname, pcarrier, pkind, pterminal, ppartner, plink, pa, pb, pd, pm, ps, pz, pn⟩⟩ := x
      simp only [LineV.cells] at *
      have k0 : ∀ y : KeptW W7, y.v.cell? ⟨wr.heap.size, 0, none⟩ = _ := fun y => y.cell r0
      have j0 : ∀ y : KeptW W7, y.v.cell? ⟨w1.heap.size, 0, none⟩ = _ := fun y => y.cell y0
      have k1 : ∀ y : KeptW W7, y.v.cell? ⟨wr.heap.size, 1, none⟩ = _ := fun y => y.cell r1
      have j1 : ∀ y : KeptW W7, y.v.cell? ⟨w1.heap.size, 1, none⟩ = _ := fun y => y.cell y1
      have k2 : ∀ y : KeptW W7, y.v.cell? ⟨wr.heap.size, 2, none⟩ = _ := fun y => y.cell r2
      have j2 : ∀ y : KeptW W7, y.v.cell? ⟨w1.heap.size, 2, none⟩ = _ := fun y => y.cell y2
      have k3 : ∀ y : KeptW W7, y.v.cell? ⟨wr.heap.size, 3, none⟩ = _ := fun y => y.cell r3
      have j3 : ∀ y : KeptW W7, y.v.cell? ⟨w1.heap.size, 3, none⟩ = _ := fun y => y.cell y3
      have k4 : ∀ y : KeptW W7, y.v.cell? ⟨wr.heap.size, 4, none⟩ = _ := fun y => y.cell r4
      have j4 : ∀ y : KeptW W7, y.v.cell? ⟨w1.heap.size, 4, none⟩ = _ := fun y => y.cell y4
      have k5 : ∀ y : KeptW W7, y.v.cell? ⟨wr.heap.size, 5, none⟩ = _ := fun y => y.cell r5
      have j5 : ∀ y : KeptW W7, y.v.cell? ⟨w1.heap.size, 5, none⟩ = _ := fun y => y.cell y5
      have k6 : ∀ y : KeptW W7, y.v.cell? ⟨wr.heap.size, 6, none⟩ = _ := fun y => y.cell r6
      have j6 : ∀ y : KeptW W7, y.v.cell? ⟨w1.heap.size, 6, none⟩ = _ := fun y => y.cell y6
      have k7 : ∀ y : KeptW W7, y.v.cell? ⟨wr.heap.size, 7, none⟩ = _ := fun y => y.cell r7
      have j7 : ∀ y : KeptW W7, y.v.cell? ⟨w1.heap.size, 7, none⟩ = _ := fun y => y.cell y7
      have k8 : ∀ y : KeptW W7, y.v.cell? ⟨wr.heap.size, 8, none⟩ = _ := fun y => y.cell r8
      have j8 : ∀ y : KeptW W7, y.v.cell? ⟨w1.heap.size, 8, none⟩ = _ := fun y => y.cell y8
      have k9 : ∀ y : KeptW W7, y.v.cell? ⟨wr.heap.size, 9, none⟩ = _ := fun y => y.cell r9
      have j9 : ∀ y : KeptW W7, y.v.cell? ⟨w1.heap.size, 9, none⟩ = _ := fun y => y.cell y9
      have k10 : ∀ y : KeptW W7, y.v.cell? ⟨wr.heap.size, 10, none⟩ = _ := fun y => y.cell r10
      have j10 : ∀ y : KeptW W7, y.v.cell? ⟨w1.heap.size, 10, none⟩ = _ := fun y => y.cell y10
      have k11 : ∀ y : KeptW W7, y.v.cell? ⟨wr.heap.size, 11, none⟩ = _ := fun y => y.cell r11
      have j11 : ∀ y : KeptW W7, y.v.cell? ⟨w1.heap.size, 11, none⟩ = _ := fun y => y.cell y11
      have k12 : ∀ y : KeptW W7, y.v.cell? ⟨wr.heap.size, 12, none⟩ = _ := fun y => y.cell r12
      have j12 : ∀ y : KeptW W7, y.v.cell? ⟨w1.heap.size, 12, none⟩ = _ := fun y => y.cell y12
      have k13 : ∀ y : KeptW W7, y.v.cell? ⟨wr.heap.size, 13, none⟩ = _ := fun y => y.cell r13
      have j13 : ∀ y : KeptW W7, y.v.cell? ⟨w1.heap.size, 13, none⟩ = _ := fun y => y.cell y13
      have mk0 : ∀ y : KeptW W7, y.v.cell? ⟨w.heap.size, 0, none⟩ = _ := fun y => y.cell hh0
      have hne : Nonempty (KeptW W7) := ⟨⟨W7, Below.refl _ _⟩⟩
      clear r0 r1 r2 r3 r4 r5 r6 r7 r8 r9 r10 r11 r12 r13 y0 y1 y2 y3 y4 y5 y6 y7 y8 y9 y10 y11 y12 y13 hh0 hb7
      go_wp2_with fail
      rw [HW7.out]
      clear HW7 z0 z1 z2 z3 z4 z5 z6 z7 z8 z9 z10 z11 z12 z13
      refine tail_kept 14 (by kernel_rfl) (by kernel_rfl) ?_
      simp only [List.take_succ_cons, List.take_zero, List.drop_succ_cons, List.drop_zero]
      go_big_quiet_step (fail)
      go_big_quiet_step (exact KeptW.calls (hck _))
      iterate 7 (go_big_quiet_step (fail))
      go_big_quiet_step (exact KeptW.calls_same (unless_any _ _ _))
      iterate 2 (go_big_quiet_step (fail))
      go_big_quiet_step (exact KeptW.calls (hmf _))
      go_big_quiet_step (exact KeptW.calls_same (unless_any _ _ _))
      refine wpQuiet_nil ?_
      rintro _ ⟨y, rfl⟩
      have HBy := Lib.hid (HBn.out.below y.below)
      have HKy := Lib.hid (HKn.out.below y.below)
      have HHy := Lib.hid (HHn.out.below y.below)
      have HBw := Lib.hid (b_then HB7.out y.below)
      have HNy : Hid (w1.heap.size < y.v.heap.size) := Lib.hid (Nat.lt_of_lt_of_le HN7.out y.below.size)
      have HRy := Lib.hid (HRL.out _ y.below)
      clear k0 k1 k2 k3 k4 k5 k6 k7 k8 k9 k10 k11 k12 k13 j0 j1 j2 j3 j4 j5 j6 j7 j8 j9 j10 j11 j12 j13 mk0 hne hlk hck hmf HBn HKn HHn HB7 HN7 HRL
      go_wp2_with fail
      refine (fe_new [_, _, _] _ _ _ _ _ rfl rfl (by simp)).mono ?_
      rintro e2 w2 ⟨rfl, hw⟩
      have hb2 : Below y.v.heap.size y.v w2 := by rw [hw]; exact below_alloc _ _
      clear hw
      rw [← HE.out]
      have HB2 := Lib.hid (HBy.out.below hb2)
      have HK2 := Lib.hid (HKy.out.below hb2)
      have HH2 := Lib.hid (HHy.out.below hb2)
      have HW2 := Lib.hid (b_then HBw.out hb2)
      have HN2 : Hid (w1.heap.size < w2.heap.size) := Lib.hid (Nat.lt_of_lt_of_le HNy.out hb2.size)
      obtain ⟨r0, r1, r2, r3, r4, r5, r6, r7, r8, r9, r10, r11, r12, r13⟩ := HRy.out.below hb2
      simp only at r0 r1 r2 r3 r4 r5 r6 r7 r8 r9 r10 r11 r12 r13
      clear HBy HKy HHy HBw HNy HRy hb2 HE
      by_cases he : le = 0
      · subst he
        have HO1 : Hid ((#[.string qact, .string qname, .string qcarrier, .string qkind, .string qterminal, .string qpartner, .string qlink, .int .i64 qa, .int .i64 qb, .int .i64 qd, .int .i64 qm, .int .i64 qs, .int .i64 qz, .int .i64 qn] : Array Value).all (·.oneCell') = true) := Lib.hid (by simp [Value.oneCell'])
        go_wp2_with (first | (show wpList _ _ _ ({ dst := _, op := Op.store _ _ _, type := _, pos := _, after := _, guard := _ } :: _) _ _; refine wpList_store_mid rfl 88 _ _ rfl w1.heap.size 0 #[.string qact, .string qname, .string qcarrier, .string qkind, .string qterminal, .string qpartner, .string qlink, .int .i64 qa, .int .i64 qb, .int .i64 qd, .int .i64 qm, .int .i64 qs, .int .i64 qz, .int .i64 qn] (by kernel_rfl) (by kernel_rfl) HB2.out.there (by kernel_rfl) HO1.out ?_) | fail)
        obtain ⟨W9, HW9, HB9, HK9, HH9, HX9, HN9⟩ : ∃ W9, Hid (w2.setCells w1.heap.size 0 (#[.string qact, .string qname, .string qcarrier, .string qkind, .string qterminal, .string qpartner, .string qlink, .int .i64 qa, .int .i64 qb, .int .i64 qd, .int .i64 qm, .int .i64 qs, .int .i64 qz, .int .i64 qn] : Array Value).toList = W9) ∧ Hid (LineBox W9 w1.heap.size ⟨qact, ⟨qname, qcarrier, qkind, qterminal, qpartner, qlink, qa, qb, qd, qm, qs, qz, qn⟩⟩) ∧ Hid (KindsM W9 W.heap.size) ∧
            Hid (HeadW W9 w.heap.size ⟨kind, airport, season, day⟩ (.slice (some ⟨b, off, none⟩) L.length cap)) ∧ Hid (Below w.heap.size w W9) ∧ Hid (w1.heap.size < W9.heap.size) := by
          have a1 := HWL.out
          have a2 := HN1.out
          have hbc := below_cells w2 w1.heap.size 0 (#[.string qact, .string qname, .string qcarrier, .string qkind, .string qterminal, .string qpartner, .string qlink, .int .i64 qa, .int .i64 qb, .int .i64 qd, .int .i64 qm, .int .i64 qs, .int .i64 qz, .int .i64 qn] : Array Value).toList
          exact ⟨_, Lib.hid rfl, Lib.hid (HLX.out _ HB2.out), Lib.hid (HK2.out.setCells (by omega)), Lib.hid (HH2.out.off (Off.setCells _ _ _ _) (by omega)), Lib.hid (HW2.out.trans (hbc.mono (by omega))), Lib.hid (Nat.lt_of_lt_of_le HN2.out hbc.size)⟩
        rw [HW9.out]
        clear HW9 HLX HB2 HK2 HH2 HW2 HN2 r0 r1 r2 r3 r4 r5 r6 r7 r8 r9 r10 r11 r12 r13
        go_wp2_with fail
        go_roundw
        case rel => exact ⟨k + 1, ⟨qact, ⟨qname, qcarrier, qkind, qterminal, qpartner, qlink, qa, qb, qd, qm, qs, qz, qn⟩⟩, by omega, by go_num, Lib.hid (by rw [HD.out, if_neg (by simp)]), HB9, HK9, HH9, HX9, HN9⟩
        case measure => simp [intOf]; omega
      · have hb : (le != 0) = true := by simpa using he
        have HZ := Lib.hid (show P = ((k : Int), le) by rw [HD.out, if_pos he])
        clear he HD r0 r1 r2 r3 r4 r5 r6 r7 r8 r9 r10 r11 r12 r13
        go_wp2_with fail
        go_ret2
        exact ⟨by rw [HZ.out]; rfl, HW2.out⟩
    · obtain rfl : k = L.length := by omega
      have HZ : Hid (P = if (x.act.toList == [67]) = true then ((L.length : Int) - 1, 11) else (0, 0)) := Lib.hid (by rw [HF.out, List.drop_of_length_le (Nat.le_refl _)]; rfl)
      have x0 := HX.out.line.c0
      have x4 := HHr.out.c4
      cases hc : (x.act.toList == [67])
      · rw [hc, if_neg (by simp)] at HZ
        generalize x.act = xa at *
        go_wp2_with fail
        go_ret2
        exact ⟨by rw [HZ.out]; rfl, HBr.out⟩
      · rw [hc, if_pos rfl] at HZ
        generalize x.act = xa at *
        go_wp2_with fail
        go_ret2
        exact ⟨by rw [HZ.out]; rfl, HBr.out⟩
end Go.Proofs.YtphoclgibnhjfaaGreat
