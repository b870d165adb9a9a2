/- Contract of message.CheckMessage, for every message. -/
import Derived.Test.YtlcmcknbbmokjaaGreatPm12
import Derived.Test.YtlcmcknbbmokjaaGreatPm11
namespace Go.Proofs.YtlcmcknbbmokjaaGreat
open Go Go.RowKit Ev Go.ChangeMaps Go.MapKept
theorem line_act {l : LineV} (h : lineErr l = 0) : actB l.act.data.toList = true := by
  unfold lineErr at h
  rw [fst_zero] at h
  exact (unl_zero (show (13 : Int) ≠ 0 by decide)).1 (h (unl (actB l.act.data.toList) 13) (by simp))
/-- A value that is a slice of these lines. -/
def LnArg (w : World) (v : Value) (L : List LineV) : Prop :=
  (L = [] ∧ ∃ A c, v = .slice A 0 c) ∨ (0 < L.length ∧ ∃ b off cap, v = .slice (some ⟨b, off, none⟩) L.length cap ∧ LnsAt w b off L ∧ L.length ≤ cap ∧ ∀ k, k < L.length → (L.getD k default).act.size ≤ maxLen ∧ (L.getD k default).q.name.size ≤ maxLen)
theorem LnArg.below {w w' : World} {v : Value} {L : List LineV} (h : LnArg w v L) (hb : Below w.heap.size w w') : LnArg w' v L := by
  rcases h with h | ⟨h0, b, off, cap, hv, hl, hc, hs⟩
  · exact .inl h
  · exact .inr ⟨h0, b, off, cap, hv, hl.below hb, hc, hs⟩
theorem LnArg.len {w : World} {v : Value} {L : List LineV} (h : LnArg w v L) : ∃ A c, v = .slice A L.length c := by
  rcases h with ⟨rfl, A, c, rfl⟩ | ⟨_, b, off, cap, rfl, _⟩
  · exact ⟨A, c, rfl⟩
  · exact ⟨_, _, rfl⟩
set_option maxRecDepth 100000 in
set_option maxHeartbeats 4000000 in
theorem wrongLine_zero (h : HeadV) (A : Option Addr) (c : Nat) (w : World) :
    Calls Tryz.prog 85 #[.agg (h.cells (.slice A 0 c))] w fun e w' => e = .returned (.tuple #[.int .i64 0, .int .i64 0]) ∧ Below w.heap.size w w' := by
  obtain ⟨W, HW, hb0, R⟩ := head_new w h (.slice A 0 c) 44
  obtain ⟨kind, airport, season, day⟩ := h
  simp only [HeadV.cells] at HW ⊢
  go_enter Tryz.func85, Tryz.ntmps85
  go_wp2_with fail
  rw [HW.out]
  clear HW
  refine (kinds_new' _).mono ?_
  rintro e1 w1 ⟨rfl, hK, hb1, hlt1⟩
  have hb2 := below_alloc w1 (.cells #[.string ⟨#[]⟩, .string ⟨#[]⟩, .string ⟨#[]⟩, .string ⟨#[]⟩, .string ⟨#[]⟩, .string ⟨#[]⟩, .string ⟨#[]⟩, .int .i64 0, .int .i64 0, .int .i64 0, .int .i64 0, .int .i64 0, .int .i64 0, .int .i64 0] 28)
  have x4 := b_old hb2 (b_old hb1 R.c4)
  have HB := Lib.hid (b_then (b_then hb0 hb1) hb2)
  clear R hK hb1 hb2 hlt1 hb0
  go_wp2_with fail
  go_loopw [6, 7, 8, 13] (fun _ _ _ i wr => i = .int .i64 0 ∧ wr = w1.alloc (.cells #[.string ⟨#[]⟩, .string ⟨#[]⟩, .string ⟨#[]⟩, .string ⟨#[]⟩, .string ⟨#[]⟩, .string ⟨#[]⟩, .string ⟨#[]⟩, .int .i64 0, .int .i64 0, .int .i64 0, .int .i64 0, .int .i64 0, .int .i64 0, .int .i64 0] 28)) (fun _ _ _ _ _ => 0)
  case atStart => exact ⟨rfl, rfl⟩
  case round =>
    obtain ⟨rfl, rfl⟩ := hrel
    go_wp2_with fail
    go_ret2
    exact ⟨rfl, HB.out⟩
theorem wrongLine_arg (h : HeadV) (L : List LineV) (v : Value) (w w' : World) (hv : LnArg w v L) (hb : Below w.heap.size w w') (hn : L.length ≤ 900) :
    Calls Tryz.prog 85 #[.agg (h.cells v)] w' fun e w'' => e = .returned (.tuple #[.int .i64 (wlGo h.kind L zeroLine 0).1, .int .i64 (wlGo h.kind L zeroLine 0).2]) ∧ Below w'.heap.size w' w'' := by
  rcases hv with ⟨rfl, A, c, rfl⟩ | ⟨h0, b, off, cap, rfl, hl, hc, hs⟩
  · have e : wlGo h.kind [] zeroLine 0 = (0, 0) := by
      unfold wlGo
      rw [if_neg (by show ¬ ((⟨#[]⟩ : ByteArray).toList == [67]) = true; rw [empty_toList]; decide)]
    rw [e]
    exact wrongLine_zero h A c w'
  · exact wrongLine_any h L b off cap w' (hl.below hb) (fun k hk => (hs k hk).1) hn
/-- The error of a message. -/
def msgErr (h : HeadV) (L : List LineV) : Int := if fst [headErr h, unl (decide ((L.length : Int) ≤ 64)) 5] ≠ 0 then fst [headErr h, unl (decide ((L.length : Int) ≤ 64)) 5] else (wlGo h.kind L zeroLine 0).2
set_option maxRecDepth 100000 in
set_option maxHeartbeats 4000000 in
theorem CheckMessage_any (h : HeadV) (L : List LineV) (v : Value) (w w' : World) (hv : LnArg w v L) (hb : Below w.heap.size w w') :
    Calls Tryz.prog 23 #[.agg (h.cells v)] w' fun e w'' => e = .returned (.int .i64 (msgErr h L)) ∧ Below w'.heap.size w' w'' := by
  have HE : Hid (msgErr h L = if fst [headErr h, unl (decide ((L.length : Int) ≤ 64)) 5] ≠ 0 then fst [headErr h, unl (decide ((L.length : Int) ≤ 64)) 5] else (wlGo h.kind L zeroLine 0).2) := Lib.hid rfl
  obtain ⟨A, c, rfl⟩ := hv.len
  have hh := checkHeader_any h A L.length c
  have hwl : L.length ≤ 64 → _ := fun h64 => fun (W : World) (hW : Below w.heap.size w W) => wrongLine_arg h L _ w W hv hW (by omega)
  have hlen : L.length ≤ 64 ∨ ¬ L.length ≤ 64 := Decidable.em _
  have HLEN : Hid (decide ((L.length : Int) ≤ 64) = true → L.length ≤ 64) := Lib.hid fun hd => by have := of_decide_eq_true hd; omega
  generalize msgErr h L = me at HE ⊢
  generalize headErr h = he at HE hh
  generalize wlGo h.kind L zeroLine 0 = P at HE hwl
  obtain ⟨W, HW, hb0, R⟩ := head_new w' h (.slice A L.length c) 44
  have HBB := Lib.hid hb
  have HWLN := Lib.hid hwl
  obtain ⟨kind, airport, season, day⟩ := h
  obtain ⟨r0, r1, r2, r3, r4⟩ := R
  simp only [HeadV.cells] at *
  have k0 : ∀ x : KeptW W, x.v.cell? ⟨w'.heap.size, 0, none⟩ = _ := fun x => x.cell r0
  have k1 : ∀ x : KeptW W, x.v.cell? ⟨w'.heap.size, 1, none⟩ = _ := fun x => x.cell r1
  have k2 : ∀ x : KeptW W, x.v.cell? ⟨w'.heap.size, 2, none⟩ = _ := fun x => x.cell r2
  have k3 : ∀ x : KeptW W, x.v.cell? ⟨w'.heap.size, 3, none⟩ = _ := fun x => x.cell r3
  have k4 : ∀ x : KeptW W, x.v.cell? ⟨w'.heap.size, 4, none⟩ = _ := fun x => x.cell r4
  have hne : Nonempty (KeptW W) := ⟨⟨W, Below.refl _ _⟩⟩
  clear r0 r1 r2 r3 r4 hv hb hlen hwl
  go_enter Tryz.func23, Tryz.ntmps23
  go_wp2_with fail
  rw [HW.out]
  clear HW
  refine tail_kept 7 (by kernel_rfl) (by kernel_rfl) ?_
  simp only [List.take_succ_cons, List.take_zero, List.drop_succ_cons, List.drop_zero]
  go_big_quiet_step (fail)
  go_big_quiet_step (exact KeptW.calls (hh _))
  iterate 4 (go_big_quiet_step (fail))
  go_big_quiet_step (exact KeptW.calls_same (unless_any _ _ _))
  refine wpQuiet_nil ?_
  rintro _ ⟨x, rfl⟩
  have HBx := Lib.hid (b_then hb0 x.below)
  have x0 := k0 x
  have x1 := k1 x
  have x2 := k2 x
  have x3 := k3 x
  have x4 := k4 x
  clear k0 k1 k2 k3 k4 hh hb0 hne
  go_wp2_with fail
  refine (fe_new [_, _] _ _ _ _ _ rfl rfl (by simp)).mono ?_
  rintro e2 w2 ⟨rfl, hw⟩
  have hb2 : Below x.v.heap.size x.v w2 := by rw [hw]; exact below_alloc _ _
  have y0 := b_old hb2 x0
  have y1 := b_old hb2 x1
  have y2 := b_old hb2 x2
  have y3 := b_old hb2 x3
  have y4 := b_old hb2 x4
  have HB2 := Lib.hid (b_then HBx.out hb2)
  clear hw x0 x1 x2 x3 x4 hb2
  generalize hd64 : decide ((L.length : Int) ≤ 64) = d64 at *
  have HD64 := Lib.hid hd64
  clear hd64
  by_cases hf : fst [he, unl d64 5] = 0
  · have hd : d64 = true := by
      rw [fst_zero] at hf
      exact (unl_zero (show (5 : Int) ≠ 0 by decide)).1 (hf (unl d64 5) (by simp))
    have hc := HWLN.out (HLEN.out (by first | exact hd | (rw [HD64.out]; exact hd))) w2 (HBB.out.trans (HB2.out.mono HBB.out.size))
    have HZ := Lib.hid (show me = P.2 by rw [HE.out, if_neg (fun hne => hne hf)])
    rw [hf]
    clear HE HWLN HLEN HD64 hf hd
    go_wp2_with fail
    refine hc.mono ?_
    rintro e3 w3 ⟨rfl, hb3⟩
    have HB3 := Lib.hid (b_then HB2.out hb3)
    clear y0 y1 y2 y3 y4 hb3 hc
    go_wp2_with fail
    go_ret
    exact ⟨by rw [HZ.out]; rfl, HB3.out⟩
  · have HZ := Lib.hid (show me = fst [he, unl d64 5] by rw [HE.out, if_pos hf])
    have hb : (fst [he, unl d64 5] != 0) = true := by simpa using hf
    clear HE HWLN HLEN HD64 hf y0 y1 y2 y3 y4
    generalize fst [he, unl d64 5] = e at *
    go_wp2_with fail
    go_ret
    exact ⟨by rw [HZ.out]; rfl, HB2.out⟩
end Go.Proofs.YtlcmcknbbmokjaaGreat
