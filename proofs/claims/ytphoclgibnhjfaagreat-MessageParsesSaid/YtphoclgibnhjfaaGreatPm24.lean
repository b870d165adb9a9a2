/- Contract of the reference's CheckMessage, for every message. · Contract of the statements: turnround/turnroundlaw02.ownLines, for every list. -/
import Derived.Test.YtphoclgibnhjfaaGreatPm23
import Derived.Test.YtphoclgibnhjfaaGreatPm17
namespace Go.Proofs.YtphoclgibnhjfaaGreat
open Go Go.RowKit Ev
set_option maxRecDepth 100000 in
set_option maxHeartbeats 1000000 in
theorem refLines_zero (kind : ByteArray) (A : Option Addr) (c : Nat) (w : World) :
    Calls Tryz.prog 60 #[.string kind, .slice A 0 c] w fun e w' => e = .returned (.tuple #[.int .i64 0, .int .i64 0]) ∧ Below w.heap.size w w' := by
  go_enter Tryz.func60, Tryz.ntmps60
  go_wp2_with fail
  go_loopw [6, 7, 8] (fun i _ _ wr => i = .int .i64 0 ∧ wr = w) (fun _ _ _ _ => 0)
  case atStart => exact ⟨rfl, rfl⟩
  case round =>
    obtain ⟨rfl, rfl⟩ := hrel
    go_wp2_with fail
    go_ret2
    exact ⟨rfl, Below.refl _ _⟩
theorem wlGo_nil (kind : ByteArray) : wlGo kind [] zeroLine 0 = (0, 0) := by
  unfold wlGo
  rw [if_neg (by show ¬ ((⟨#[]⟩ : ByteArray).toList == [67]) = true; rw [empty_toList]; decide)]
theorem refLines_arg (kind : ByteArray) (L : List LineV) (v : Value) (w w' : World) (hv : LnArg w v L) (hb : Below w.heap.size w w') (hn : L.length ≤ 900) (hk : kindM kind = true) :
    Calls Tryz.prog 60 #[.string kind, v] w' fun e w'' => e = .returned (.tuple #[.int .i64 (wlGo kind L zeroLine 0).1, .int .i64 (wlGo kind L zeroLine 0).2]) ∧ Below w'.heap.size w' w'' := by
  rcases hv with ⟨rfl, A, c, rfl⟩ | ⟨h0, b, off, cap, rfl, hl, hc, hs⟩
  · rw [wlGo_nil]; exact refLines_zero kind A c w'
  · exact refLines_any kind L b off cap w' (hl.below hb) hn hk
set_option maxRecDepth 100000 in
set_option maxHeartbeats 4000000 in
theorem refMessage_any (h : HeadV) (L : List LineV) (v : Value) (w w' : World) (hv : LnArg w v L) (hb : Below w.heap.size w w') :
    Calls Tryz.prog 40 #[.agg (h.cells v)] w' fun e w'' => e = .returned (.int .i64 (msgErr h L)) ∧ Below w'.heap.size w' w'' := by
  have HE : Hid (msgErr h L = if fst [fst [unl (kindM h.kind) 13, nameE h.airport, unl (seasonB h.season) 1, rng h.day 0 99999], unl (decide ((L.length : Int) ≤ 64)) 5] ≠ 0 then fst [fst [unl (kindM h.kind) 13, nameE h.airport, unl (seasonB h.season) 1, rng h.day 0 99999], unl (decide ((L.length : Int) ≤ 64)) 5] else (wlGo h.kind L zeroLine 0).2) := Lib.hid rfl
  have HH : Hid (hdErr h.airport h.season h.day = fst [nameE h.airport, unl (seasonB h.season) 1, rng h.day 0 99999]) := Lib.hid rfl
  obtain ⟨A, c, rfl⟩ := hv.len
  have hh := qCheckHead_any h.airport h.season h.day
  have hwl : kindM h.kind = true → L.length ≤ 64 → _ := fun hk h64 => fun (W : World) (hW : Below w.heap.size w W) => refLines_arg h.kind L _ w W hv hW (by omega) hk
  have HKM : Hid (kindM h.kind = (h.kind.toList == [82, 69, 81] || h.kind.toList == [65, 78, 83])) := Lib.hid rfl
  generalize msgErr h L = me at HE ⊢
  generalize hdErr h.airport h.season h.day = he at HH hh
  generalize nameE h.airport = e1 at HE HH
  generalize seasonB h.season = sb at HE HH
  generalize rng h.day 0 99999 = rd at HE HH
  generalize wlGo h.kind L zeroLine 0 = P at HE hwl
  generalize kindM h.kind = km at HE HKM hwl
  obtain ⟨W, HW, hb0, R⟩ := head_new w' h (.slice A L.length c) 31
  have HBB := Lib.hid hb
  have HWLN := Lib.hid hwl
  have HHE : Hid (fst [fst [0, e1, unl sb 1, rd], 0] = he) := Lib.hid (by rw [HH.out]; generalize unl sb 1 = u; simp only [fst]; repeat' split <;> simp_all)
  obtain ⟨kind, airport, season, day⟩ := h
  obtain ⟨r0, r1, r2, r3, r4⟩ := R
  simp only [HeadV.cells] at *
  have HX := Lib.hid (HW.out.trans (show W = (KeptW.mk (w := W) W (Below.refl _ _)).v from rfl))
  have k0 : ∀ x : KeptW W, x.v.cell? ⟨w'.heap.size, 0, none⟩ = _ := fun x => x.cell r0
  have k1 : ∀ x : KeptW W, x.v.cell? ⟨w'.heap.size, 1, none⟩ = _ := fun x => x.cell r1
  have k2 : ∀ x : KeptW W, x.v.cell? ⟨w'.heap.size, 2, none⟩ = _ := fun x => x.cell r2
  have k3 : ∀ x : KeptW W, x.v.cell? ⟨w'.heap.size, 3, none⟩ = _ := fun x => x.cell r3
  have k4 : ∀ x : KeptW W, x.v.cell? ⟨w'.heap.size, 4, none⟩ = _ := fun x => x.cell r4
  generalize KeptW.mk (w := W) W (Below.refl _ _) = x0 at HX
  clear r0 r1 r2 r3 r4 hv hb hwl HW
  have main : ∀ (hkq : (kind.toList == [82, 69, 81]) = true ∨ ((kind.toList == [82, 69, 81]) = false ∧ (kind.toList == [65, 78, 83]) = true)), km = true →
      Calls Tryz.prog 40 #[.agg #[.string kind, .string airport, .string season, .int .i64 day, .slice A L.length c]] w' fun e w'' => e = .returned (.int .i64 me) ∧ Below w'.heap.size w' w'' := by
    intro hkq hkm
    subst hkm
    have HE2 : Hid (me = if fst [he, unl (decide ((L.length : Int) ≤ 64)) 5] ≠ 0 then fst [he, unl (decide ((L.length : Int) ≤ 64)) 5] else P.2) := Lib.hid (by
      rw [HE.out]
      have e : fst [unl true 13, e1, unl sb 1, rd] = he := by
        rw [← HHE.out]; show fst [0, e1, unl sb 1, rd] = _
        generalize fst [0, e1, unl sb 1, rd] = z
        by_cases hz : z = 0 <;> simp [fst, hz]
      rw [e])
    clear HE HKM HH HHE
    by_cases hz : he = 0
    · subst hz
      by_cases h64 : (L.length : Int) ≤ 64
      · have hc := HWLN.out rfl (by omega)
        have HZ := Lib.hid (show me = P.2 by rw [HE2.out, decide_eq_true h64]; rfl)
        have h64' : ¬ (64 : Int) < (L.length : Int) := by omega
        clear HE2 HWLN h64
        rcases hkq with hq | ⟨hq, hq2⟩
        all_goals
          go_enter Tryz.func40, Tryz.ntmps40
          go_wp2_with fail
          rw [HX.out]
          clear HX
          go_wp2_with fail
          refine (KeptW.calls (hh _)).mono ?_
          rintro e2 _ ⟨rfl, x2, rfl⟩
          go_wp2_with fail
          refine (KeptW.calls (hc _ (HBB.out.trans ((b_then hb0 x2.below).mono HBB.out.size)))).mono ?_
          rintro e3 _ ⟨rfl, x3, rfl⟩
          go_wp2_with fail
          go_ret
          exact ⟨by rw [HZ.out]; rfl, b_then hb0 x3.below⟩
      · have HZ := Lib.hid (show me = 5 by rw [HE2.out, decide_eq_false h64]; rfl)
        have h64' : (64 : Int) < (L.length : Int) := by omega
        clear HE2 HWLN h64
        rcases hkq with hq | ⟨hq, hq2⟩
        all_goals
          go_enter Tryz.func40, Tryz.ntmps40
          go_wp2_with fail
          rw [HX.out]
          clear HX
          go_wp2_with fail
          refine (KeptW.calls (hh _)).mono ?_
          rintro e2 _ ⟨rfl, x2, rfl⟩
          go_wp2_with fail
          go_ret
          exact ⟨by rw [HZ.out]; rfl, b_then hb0 x2.below⟩
    · have HZ := Lib.hid (show me = he by rw [HE2.out]; simp [fst, hz])
      have hb' : (he == 0) = false := by simpa using hz
      clear HE2 HWLN hz
      rcases hkq with hq | ⟨hq, hq2⟩
      all_goals
        go_enter Tryz.func40, Tryz.ntmps40
        go_wp2_with fail
        rw [HX.out]
        clear HX
        go_wp2_with fail
        refine (KeptW.calls (hh _)).mono ?_
        rintro e2 _ ⟨rfl, x2, rfl⟩
        go_wp2_with fail
        go_ret
        exact ⟨by rw [HZ.out]; rfl, b_then hb0 x2.below⟩
  cases hq : (kind.toList == [82, 69, 81])
  · cases hq2 : (kind.toList == [65, 78, 83])
    · have hkm := HKM.out
      rw [hq, hq2] at hkm
      have HZ := Lib.hid (show me = 13 by rw [HE.out, hkm]; simp [fst, unl])
      clear main HE HKM HH HHE HWLN hkm hh
      go_enter Tryz.func40, Tryz.ntmps40
      go_wp2_with fail
      rw [HX.out]
      clear HX
      go_wp2_with fail
      go_ret
      exact ⟨by rw [HZ.out]; rfl, b_then hb0 x0.below⟩
    · exact main (.inr ⟨hq, hq2⟩) (by rw [HKM.out, hq, hq2]; rfl)
  · exact main (.inl hq) (by rw [HKM.out, hq]; rfl)
end Go.Proofs.YtphoclgibnhjfaaGreat
namespace Go.Proofs.YtphoclgibnhjfaaGreat
open Go Go.RowKit Ev Go.ChangeMaps Go.MapKept
theorem OwnLns_info : ∃ i0, Tryz.prog.info? 86 = some i0 ∧ i0.zero = some (.agg #[.string ⟨#[]⟩, .string ⟨#[]⟩, .string ⟨#[]⟩, .string ⟨#[]⟩, .string ⟨#[]⟩, .string ⟨#[]⟩, .string ⟨#[]⟩, .int .i64 0, .int .i64 0, .int .i64 0, .int .i64 0, .int .i64 0, .int .i64 0, .int .i64 0]) ∧ i0.size = 14 ∧ i0.bytes = 168 := by
  have h : (Tryz.prog.info? 86).map (fun i => (i.zero, i.size, i.bytes)) = some (some (.agg #[.string ⟨#[]⟩, .string ⟨#[]⟩, .string ⟨#[]⟩, .string ⟨#[]⟩, .string ⟨#[]⟩, .string ⟨#[]⟩, .string ⟨#[]⟩, .int .i64 0, .int .i64 0, .int .i64 0, .int .i64 0, .int .i64 0, .int .i64 0, .int .i64 0]), 14, 168) := by kernel_rfl
  cases hp : Tryz.prog.info? 86 with
  | none => rw [hp] at h; simp at h
  | some i => rw [hp] at h; simp only [Option.map_some, Option.some.injEq, Prod.mk.injEq] at h; exact ⟨i, rfl, h.1, h.2.1, h.2.2⟩
set_option maxRecDepth 100000 in
set_option maxHeartbeats 4000000 in
theorem OwnLns_some (L : List LineV) (b off cap : Nat) (w : World) (hl : RowsAt LineV.cells 14 w b off L) (hn : L.length ≤ 5000) :
    Calls Tryz.prog 30 #[.slice (some ⟨b, off, none⟩) L.length cap] w fun e w' => SlR LineV.cells 14 86 e w' w.heap.size L ∧ Below w.heap.size w w' := by
  have HL := Lib.hid hl
  clear hl
  obtain ⟨i0, hi, hz0, hz1, hz2⟩ := OwnLns_info
  go_enter Tryz.func30, Tryz.ntmps30
  go_wp2_with fail
  go_loopw [3, 5, 8] (fun v3 _ i wr => ∃ (k : Nat), k ≤ L.length ∧ i = .int .i64 k ∧ wr.ownsRow w.heap.size 86 14 v3 k (flatG LineV.cells (L.take k)) ∧ Hid (Below w.heap.size w wr)) (fun _ _ i _ => L.length - (intOf i).toNat)
  case atStart => exact ⟨0, Nat.zero_le _, rfl, World.ownsRow_nil _ _ _ _, Lib.hid (Below.refl _ _)⟩
  case round =>
    obtain ⟨k, hk, rfl, hown, HB⟩ := hrel
    by_cases hlt : k < L.length
    · have hrow := (HL.out.below HB.out).c k hlt
      have HT : Hid (flatG LineV.cells (L.take (k + 1)) = flatG LineV.cells (L.take k) ++ (L.getD k default).cells.toList) := Lib.hid (flatG_take L k hlt)
      generalize L.getD k default = l at hrow HT
      obtain ⟨zact, ⟨zq_name, zq_carrier, zq_kind, zq_terminal, zq_partner, zq_link, zq_from_, zq_to, zq_days, zq_minute, zq_seats, zq_size, zq_noise⟩⟩ := l
      simp only [LineV.cells] at HT hrow
      have x0 := hrow 0 _ rfl
      have x1 := hrow 1 _ rfl
      have x2 := hrow 2 _ rfl
      have x3 := hrow 3 _ rfl
      have x4 := hrow 4 _ rfl
      have x5 := hrow 5 _ rfl
      have x6 := hrow 6 _ rfl
      have x7 := hrow 7 _ rfl
      have x8 := hrow 8 _ rfl
      have x9 := hrow 9 _ rfl
      have x10 := hrow 10 _ rfl
      have x11 := hrow 11 _ rfl
      have x12 := hrow 12 _ rfl
      have x13 := hrow 13 _ rfl
      clear hrow
      simp only [Nat.add_zero] at x0
      have hlen := flatG_len (f := LineV.cells) (k := 14) (fun _ => rfl) (L.take k)
      rw [List.length_take, Nat.min_eq_left hk] at hlen
      generalize flatG LineV.cells (L.take k) = fl at *
      have hsz := HB.out.size
      have hownA := hown.alloc (.cells #[.string zact, .string zq_name, .string zq_carrier, .string zq_kind, .string zq_terminal, .string zq_partner, .string zq_link, .int .i64 zq_from_, .int .i64 zq_to, .int .i64 zq_days, .int .i64 zq_minute, .int .i64 zq_seats, .int .i64 zq_size, .int .i64 zq_noise] 88)
      have hownB := hownA.alloc (.cells #[.string zact, .string zq_name, .string zq_carrier, .string zq_kind, .string zq_terminal, .string zq_partner, .string zq_link, .int .i64 zq_from_, .int .i64 zq_to, .int .i64 zq_days, .int .i64 zq_minute, .int .i64 zq_seats, .int .i64 zq_size, .int .i64 zq_noise] 86)
      have hbA : Below w.heap.size w (wr.alloc (.cells #[.string zact, .string zq_name, .string zq_carrier, .string zq_kind, .string zq_terminal, .string zq_partner, .string zq_link, .int .i64 zq_from_, .int .i64 zq_to, .int .i64 zq_days, .int .i64 zq_minute, .int .i64 zq_seats, .int .i64 zq_size, .int .i64 zq_noise] 88)) := b_then HB.out (below_alloc _ _)
      have hsA := hbA.size
      have HNB : Hid (((wr.alloc (.cells #[.string zact, .string zq_name, .string zq_carrier, .string zq_kind, .string zq_terminal, .string zq_partner, .string zq_link, .int .i64 zq_from_, .int .i64 zq_to, .int .i64 zq_days, .int .i64 zq_minute, .int .i64 zq_seats, .int .i64 zq_size, .int .i64 zq_noise] 88)).alloc (.cells #[.string zact, .string zq_name, .string zq_carrier, .string zq_kind, .string zq_terminal, .string zq_partner, .string zq_link, .int .i64 zq_from_, .int .i64 zq_to, .int .i64 zq_days, .int .i64 zq_minute, .int .i64 zq_seats, .int .i64 zq_size, .int .i64 zq_noise] 86)).heap[wr.heap.size + 1]? = some (.cells #[.string zact, .string zq_name, .string zq_carrier, .string zq_kind, .string zq_terminal, .string zq_partner, .string zq_link, .int .i64 zq_from_, .int .i64 zq_to, .int .i64 zq_days, .int .i64 zq_minute, .int .i64 zq_seats, .int .i64 zq_size, .int .i64 zq_noise] 86 (0, 0))) := Lib.hid (by
        have h1 := heap_new (wr.alloc (.cells #[.string zact, .string zq_name, .string zq_carrier, .string zq_kind, .string zq_terminal, .string zq_partner, .string zq_link, .int .i64 zq_from_, .int .i64 zq_to, .int .i64 zq_days, .int .i64 zq_minute, .int .i64 zq_seats, .int .i64 zq_size, .int .i64 zq_noise] 88)) (.cells #[.string zact, .string zq_name, .string zq_carrier, .string zq_kind, .string zq_terminal, .string zq_partner, .string zq_link, .int .i64 zq_from_, .int .i64 zq_to, .int .i64 zq_days, .int .i64 zq_minute, .int .i64 zq_seats, .int .i64 zq_size, .int .i64 zq_noise] 86)
        rwa [show (wr.alloc (.cells #[.string zact, .string zq_name, .string zq_carrier, .string zq_kind, .string zq_terminal, .string zq_partner, .string zq_link, .int .i64 zq_from_, .int .i64 zq_to, .int .i64 zq_days, .int .i64 zq_minute, .int .i64 zq_seats, .int .i64 zq_size, .int .i64 zq_noise] 88)).heap.size = wr.heap.size + 1 by simp] at h1)
      go_wp2_with (at_builtin; refine Hid.out ?_)
      refine Lib.hid ?_
      refine wpList_append_own _ rfl _ _ 29 rfl w.heap.size 86 i0 (.agg #[.string ⟨#[]⟩, .string ⟨#[]⟩, .string ⟨#[]⟩, .string ⟨#[]⟩, .string ⟨#[]⟩, .string ⟨#[]⟩, .string ⟨#[]⟩, .int .i64 0, .int .i64 0, .int .i64 0, .int .i64 0, .int .i64 0, .int .i64 0, .int .i64 0]) 14 168 Tryz.underlying29 hi hz0 hz1 hz2 rfl (by decide) _ k _ rfl hownB ⟨wr.heap.size + 1, 0, none⟩ 1 1 [.string zact, .string zq_name, .string zq_carrier, .string zq_kind, .string zq_terminal, .string zq_partner, .string zq_link, .int .i64 zq_from_, .int .i64 zq_to, .int .i64 zq_days, .int .i64 zq_minute, .int .i64 zq_seats, .int .i64 zq_size, .int .i64 zq_noise] rfl rfl
        (World.news_of_block (cs := #[.string zact, .string zq_name, .string zq_carrier, .string zq_kind, .string zq_terminal, .string zq_partner, .string zq_link, .int .i64 zq_from_, .int .i64 zq_to, .int .i64 zq_days, .int .i64 zq_minute, .int .i64 zq_seats, .int .i64 zq_size, .int .i64 zq_noise]) (t := 86) (fr := (0, 0)) HNB.out) (by simp [Value.oneCell']) (by unfold maxLen; omega) (by omega) (by simp; omega) ?_
      intro v' w4 hown' hgrow _
      have hb4 : Below w.heap.size w w4 := (hbA.trans ((Below.refl _ _).alloc hsA _)).grown hgrow (by simp; omega) (pr_blk hownB)
      clear hgrow hown hownA hownB hbA hsA x0 x1 x2 x3 x4 x5 x6 x7 x8 x9 x10 x11 x12 x13
      rw [show fl ++ [.string zact, .string zq_name, .string zq_carrier, .string zq_kind, .string zq_terminal, .string zq_partner, .string zq_link, .int .i64 zq_from_, .int .i64 zq_to, .int .i64 zq_days, .int .i64 zq_minute, .int .i64 zq_seats, .int .i64 zq_size, .int .i64 zq_noise] = flatG LineV.cells (L.take (k + 1)) from HT.out.symm] at hown'
      go_wp2_with fail
      refine ⟨⟨k + 1, by omega, by go_num, by simpa using hown', Lib.hid hb4⟩, by simp [intOf]; omega⟩
    · obtain rfl : k = L.length := by omega
      rw [List.take_length] at hown
      go_wp2_with fail
      go_ret
      exact ⟨⟨_, rfl, hown⟩, HB.out⟩
set_option maxRecDepth 100000 in
theorem OwnLns_zero (A : Option Addr) (c : Nat) (w : World) :
    Calls Tryz.prog 30 #[.slice A 0 c] w fun e w' => SlR LineV.cells 14 86 e w' w.heap.size [] ∧ Below w.heap.size w w' := by
  go_enter Tryz.func30, Tryz.ntmps30
  go_wp2_with fail
  go_loopw [3, 5, 8] (fun v3 _ i wr => v3 = .slice none 0 0 ∧ i = .int .i64 0 ∧ wr = w) (fun _ _ _ _ => 0)
  case atStart => exact ⟨rfl, rfl, rfl⟩
  case round =>
    obtain ⟨rfl, rfl, rfl⟩ := hrel
    go_wp2_with fail
    go_ret
    exact ⟨⟨_, rfl, World.ownsRow_nil _ _ _ _⟩, Below.refl _ _⟩
theorem OwnLns_any (L : List LineV) (v : Value) (w w' : World) (hv : SlArg LineV.cells 14 w v L) (hb : Below w.heap.size w w') (hn : L.length ≤ 5000) :
    Calls Tryz.prog 30 #[v] w' fun e w'' => SlR LineV.cells 14 86 e w'' w'.heap.size L ∧ Below w'.heap.size w' w'' := by
  rcases hv with ⟨rfl, A, c, rfl⟩ | ⟨h0, b, off, cap, rfl, hl, hc, hs⟩
  · exact OwnLns_zero A c w'
  · exact OwnLns_some L b off cap w' (hl.below hb) hn
end Go.Proofs.YtphoclgibnhjfaaGreat
