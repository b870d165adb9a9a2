/- Contract of message.Pairs: requests that are linked, for every list of requests. · Contracts of the reference: At, optional, CheckRequest. · Contract of the reference's CheckRequest. · Lines of messages: their values; CheckLine, of package message and of the reference. · Contracts of package message: the table of the fields of a line. · Contract of message.fields. · Contracts of package calendar: Day, Date, texts of dates. · Contracts of package calendar: Date. · The texts of dates, and their order. · Contracts of package calendar: PrintDate. · Contracts of package calendar: PrintDate. · Contracts: the reference's checks of ranges and days; arithmetic of years. · Plain arithmetic: Zeller's congruence; the next date. -/
import Derived.Test.YtphoclgibnhjfaaGreatPm9
import Derived.Laws.AppendOwn
import Derived.OwnWalk
import Derived.Laws.Rows
import Derived.Deep.AppendLies
import Derived.Deep.MidRow
import Derived.Test.YtphoclgibnhjfaaGreatPm1
import Derived.Lib.ItoaNum
import Derived.Lib.Repeat
import Derived.Lib.Strings
import Derived.Laws.Concat
import Derived.Sort.Walk0
import Derived.Test.YtphoclgibnhjfaaGreatPm8
import Derived.Deep.RegionHeld3
import Derived.Lib.LaidTab
import Derived.Lib.AppendIntMem
namespace Go.Proofs.YtphoclgibnhjfaaGreat
open Go Go.RowKit Go.ChangeMaps Go.MapKept
def prFlat (l : List (Int × Int)) : List Value := (l.map fun s => [Value.int .i64 s.1, Value.int .i64 s.2]).flatten
theorem prFlat_snoc (l : List (Int × Int)) (a b : Int) : prFlat (l ++ [(a, b)]) = prFlat l ++ [.int .i64 a, .int .i64 b] := by simp [prFlat]
theorem pr_down {w : World} {base base' : Nat} {e : TypeId} {size : Nat} {v : Value} {n : Nat} {xs : List Value} (h : w.ownsRow base e size v n xs) (hb : base' ≤ base) : w.ownsRow base' e size v n xs := by
  refine ⟨h.1, ?_⟩
  rcases h.2 with h0 | ⟨g, cap, cur, hv, hg, r⟩
  · exact .inl h0
  · exact .inr ⟨g, cap, cur, hv, Nat.le_trans hb hg, r⟩
theorem pr_below {w w' : World} {base : Nat} {e : TypeId} {size : Nat} {v : Value} {n : Nat} {xs : List Value} (h : w.ownsRow base e size v n xs) (hb : Below w.heap.size w w') : w'.ownsRow base e size v n xs :=
  h.kept (grown_below hb) (by cases h : v.ownBlock with
    | none => exact .inl rfl
    | some k => exact .inr (by simp))
theorem pr_blk {w : World} {base : Nat} {e : TypeId} {size : Nat} {v : Value} {n : Nat} {xs : List Value} (h : w.ownsRow base e size v n xs) : ∀ k, v.ownBlock = some k → base ≤ k := by
  intro k hk
  rcases h.2 with ⟨hv, _⟩ | ⟨g, cap, cur, hv, hb, _⟩
  · subst hv; simp [Value.ownBlock] at hk
  · subst hv; simp only [Value.ownBlock, Option.some.injEq] at hk; omega
theorem prInfo : (Tryz.prog.info? 110).map (fun i => (i.zero, i.size, i.bytes)) = some (some (.agg #[.int .i64 0, .int .i64 0]), 2, 16) := by kernel_rfl
theorem prInfo_parts : ∃ i0, Tryz.prog.info? 110 = some i0 ∧ i0.zero = some (.agg #[.int .i64 0, .int .i64 0]) ∧ i0.size = 2 ∧ i0.bytes = 16 := by
  have h := prInfo
  cases hp : Tryz.prog.info? 110 with
  | none => rw [hp] at h; simp at h
  | some i => rw [hp] at h; simp only [Option.map_some, Option.some.injEq, Prod.mk.injEq] at h; exact ⟨i, rfl, h.1, h.2.1, h.2.2⟩
theorem heap_new (w : World) (o : Obj) : (w.alloc o).heap[w.heap.size]? = some o := by
  show (w.heap.push _)[_]? = _; simp
theorem ReqW.below {w w' : World} {b : Nat} {q : ReqV} (h : ReqW w b q) (hb : Below w.heap.size w w') : ReqW w' b q :=
  ⟨b_old hb h.c0, b_old hb h.c1, b_old hb h.c2, b_old hb h.c3, b_old hb h.c4, b_old hb h.c5, b_old hb h.c6, b_old hb h.c7, b_old hb h.c8, b_old hb h.c9, b_old hb h.c10, b_old hb h.c11, b_old hb h.c12⟩
/-- What message.Pairs does from the request i on. -/
def pairsGo (L : List ReqV) : List ReqV → Nat → List (Int × Int) → List (Int × Int) × Int
  | [], _, acc => (acc, 0)
  | q :: r, i, acc =>
    if (q.link.toList == []) = true then pairsGo L r (i + 1) acc
    else if findIx q.link L 0 < 0 then ([], 10)
    else if fitsB q (L.getD (findIx q.link L 0).toNat default) = false then ([], 32)
    else if (q.kind.toList == [65]) = true then pairsGo L r (i + 1) (acc ++ [((i : Int), findIx q.link L 0)])
    else pairsGo L r (i + 1) acc
theorem pairsGo_drop (L l : List ReqV) (k : Nat) (h : k < l.length) (q : ReqV) (hq : l.getD k default = q) (acc : List (Int × Int)) :
    pairsGo L (l.drop k) k acc =
      if (q.link.toList == []) = true then pairsGo L (l.drop (k + 1)) (k + 1) acc
      else if findIx q.link L 0 < 0 then ([], 10)
      else if fitsB q (L.getD (findIx q.link L 0).toNat default) = false then ([], 32)
      else if (q.kind.toList == [65]) = true then pairsGo L (l.drop (k + 1)) (k + 1) (acc ++ [((k : Int), findIx q.link L 0)])
      else pairsGo L (l.drop (k + 1)) (k + 1) acc := by
  subst hq
  rw [List.drop_eq_getElem_cons h]
  simp only [List.getD_eq_getElem?_getD, List.getElem?_eq_getElem h, Option.getD_some]
  rfl
def pairsOf (l : List ReqV) : List (Int × Int) × Int := if reqsErr l ≠ 0 then ([], reqsErr l) else pairsGo l l 0 []
set_option maxRecDepth 100000 in
set_option maxHeartbeats 4000000 in
theorem Pairs_any (l : List ReqV) (b off cap : Nat) (w : World) (hl : RqsAt w b off l) (hbs : b < w.heap.size) (hs : ∀ k, k < l.length → (l.getD k default).name.size ≤ maxLen) :
    Calls Tryz.prog 50 #[.slice (some ⟨b, off, none⟩) l.length cap] w fun r w' =>
      ∃ v, r = .returned (.tuple #[v, .int .i64 (pairsOf l).2]) ∧ w'.ownsRow w.heap.size 110 2 v (pairsOf l).1.length (prFlat (pairsOf l).1) ∧ Below w.heap.size w w' := by
  have hH := checkReqs_any l b off cap w hl hbs hs
  have HL := Lib.hid hl
  have HP : Hid (pairsOf l = if reqsErr l ≠ 0 then ([], reqsErr l) else pairsGo l l 0 []) := Lib.hid rfl
  have hle : reqsErr l = 0 → l.length ≤ 64 := by
    intro h
    unfold reqsErr at h
    by_cases h2 : 64 < l.length
    · rw [if_pos h2] at h; omega
    · omega
  clear hl hs
  generalize reqsErr l = re at *
  obtain ⟨i0, hi, hz0, hz1, hz2⟩ := prInfo_parts
  go_enter Tryz.func50, Tryz.ntmps50
  go_wp2_with fail
  refine hH.mono ?_
  rintro e1 w1 ⟨rfl, hb1⟩
  by_cases hre : re = 0
  · subst hre
    have hlen := hle rfl
    have HG : Hid (pairsOf l = pairsGo l l 0 []) := Lib.hid (by rw [HP.out, if_neg (by simp)])
    have HL1 : Hid (RqsAt w1 b off l) := Lib.hid (HL.out.below hb1)
    have hb0 : ((0 : Int) != 0) = false := rfl
    clear HP HL hH hle
    go_wp2_with fail
    go_loopw [5, 16] (fun v5 v16 wr => ∃ (k : Nat) (acc : List (Int × Int)), k ≤ l.length ∧ v16 = .int .i64 k ∧ Hid (pairsOf l = pairsGo l (l.drop k) k acc) ∧ acc.length ≤ k ∧
        wr.ownsRow w1.heap.size 110 2 v5 acc.length (prFlat acc) ∧ Hid (RqsAt wr b off l) ∧ Hid (Below w1.heap.size w1 wr)) (fun _ i _ => l.length - (intOf i).toNat)
    case atStart => exact ⟨0, [], Nat.zero_le _, rfl, Lib.hid (by rw [HG.out]; simp), by simp, World.ownsRow_nil _ _ _ _, HL1, Lib.hid (Below.refl _ _)⟩
    case round =>
      obtain ⟨k, acc, hk, rfl, HF, hacc, hown, HQ, HB⟩ := hrel
      by_cases hlt : k < l.length
      · have hd := pairsGo_drop l l k hlt _ rfl acc
        have hrow := HQ.out.row hlt rfl
        generalize l.getD k default = q at hd hrow
        obtain ⟨W, HW, hbW, R⟩ := req_new wr q 84
        have hix := fun w hl => indexQ_any q.link l b off cap w hl (by omega)
        have HFit := fun (r : ReqV) => fits_any q r
        have HD := Lib.hid (HF.out.trans hd)
        clear hd HF
        have hownW := pr_below hown hbW
        have HQW : Hid (RqsAt W b off l) := Lib.hid (HQ.out.below hbW)
        have HBW : Hid (Below w1.heap.size w1 W) := Lib.hid (b_then HB.out hbW)
        obtain ⟨fitq, hfitq⟩ : ∃ f : ReqV → Bool, f = fitsB q := ⟨_, rfl⟩
        rw [← hfitq] at HD HFit
        clear hfitq
        obtain ⟨qa, qb, qc, qd, qe, qf, qg, qh, qi, qj, qk, ql, qm⟩ := q
        dsimp only [ReqV.cells] at HFit hrow HW
        dsimp only at HD hix
        obtain ⟨x0, x1, x2, x3, x4, x5, x6, x7, x8, x9, x10, x11, x12⟩ := hrow
        obtain ⟨r0, r1, r2, r3, r4, r5, r6, r7, r8, r9, r10, r11, r12⟩ := R
        dsimp only at r0 r1 r2 r3 r4 r5 r6 r7 r8 r9 r10 r11 r12
        cases hlk : (qf.toList == ([] : List UInt8))
        · rw [hlk, if_neg (by simp)] at HD
          go_wp2_with fail
          rw [HW.out]
          refine (hix W HQW.out).mono ?_
          rintro e2 w2 ⟨rfl, hb2⟩
          have hown2 := pr_below hownW hb2
          have HQ2 : Hid (RqsAt w2 b off l) := Lib.hid (HQW.out.below hb2)
          have HB2 : Hid (Below w1.heap.size w1 w2) := Lib.hid (b_then HBW.out hb2)
          have hat := findIx_at qf l 0
          have r0 := b_old hb2 r0
          have r1 := b_old hb2 r1
          have r2 := b_old hb2 r2
          have r3 := b_old hb2 r3
          have r4 := b_old hb2 r4
          have r5 := b_old hb2 r5
          have r6 := b_old hb2 r6
          have r7 := b_old hb2 r7
          have r8 := b_old hb2 r8
          have r9 := b_old hb2 r9
          have r10 := b_old hb2 r10
          have r11 := b_old hb2 r11
          have r12 := b_old hb2 r12
          clear x0 x1 x2 x3 x4 x5 x6 x7 x8 x9 x10 x11 x12 hix HW hown hownW HQW HBW HQ HB hb2 hbW
          generalize findIx qf l 0 = o at *
          rcases hat with rfl | ⟨j, hj, ho⟩
          · have HE := Lib.hid (show pairsOf l = ([], 10) by rw [HD.out, if_pos (by decide)])
            go_wp2_with fail
            go_ret2
            rw [HE.out]
            exact ⟨_, rfl, World.ownsRow_nil _ _ _ _, b_then hb1 HB2.out⟩
          · rw [Nat.zero_add] at ho
            subst ho
            have hrowj := HQ2.out.row hj rfl
            rw [if_neg (by omega), Int.toNat_natCast] at HD
            generalize l.getD j default = r at hrowj HD
            have hfr := HFit r
            obtain ⟨y0, y1, y2, y3, y4, y5, y6, y7, y8, y9, y10, y11, y12⟩ := hrowj
            generalize fitq r = ft at HD hfr
            clear HFit
            go_wp2_with fail
            have k0 : ∀ x : KeptW w2, x.v.cell? ⟨wr.heap.size, 0, none⟩ = _ := fun x => x.cell r0
            have k1 : ∀ x : KeptW w2, x.v.cell? ⟨wr.heap.size, 1, none⟩ = _ := fun x => x.cell r1
            have k2 : ∀ x : KeptW w2, x.v.cell? ⟨wr.heap.size, 2, none⟩ = _ := fun x => x.cell r2
            have k3 : ∀ x : KeptW w2, x.v.cell? ⟨wr.heap.size, 3, none⟩ = _ := fun x => x.cell r3
            have k4 : ∀ x : KeptW w2, x.v.cell? ⟨wr.heap.size, 4, none⟩ = _ := fun x => x.cell r4
            have k5 : ∀ x : KeptW w2, x.v.cell? ⟨wr.heap.size, 5, none⟩ = _ := fun x => x.cell r5
            have k6 : ∀ x : KeptW w2, x.v.cell? ⟨wr.heap.size, 6, none⟩ = _ := fun x => x.cell r6
            have k7 : ∀ x : KeptW w2, x.v.cell? ⟨wr.heap.size, 7, none⟩ = _ := fun x => x.cell r7
            have k8 : ∀ x : KeptW w2, x.v.cell? ⟨wr.heap.size, 8, none⟩ = _ := fun x => x.cell r8
            have k9 : ∀ x : KeptW w2, x.v.cell? ⟨wr.heap.size, 9, none⟩ = _ := fun x => x.cell r9
            have k10 : ∀ x : KeptW w2, x.v.cell? ⟨wr.heap.size, 10, none⟩ = _ := fun x => x.cell r10
            have k11 : ∀ x : KeptW w2, x.v.cell? ⟨wr.heap.size, 11, none⟩ = _ := fun x => x.cell r11
            have k12 : ∀ x : KeptW w2, x.v.cell? ⟨wr.heap.size, 12, none⟩ = _ := fun x => x.cell r12
            have j0 : ∀ x : KeptW w2, x.v.cell? ⟨b, off + j * 13, none⟩ = _ := fun x => x.cell y0
            have j1 : ∀ x : KeptW w2, x.v.cell? ⟨b, off + j * 13 + 1, none⟩ = _ := fun x => x.cell y1
            have j2 : ∀ x : KeptW w2, x.v.cell? ⟨b, off + j * 13 + 2, none⟩ = _ := fun x => x.cell y2
            have j3 : ∀ x : KeptW w2, x.v.cell? ⟨b, off + j * 13 + 3, none⟩ = _ := fun x => x.cell y3
            have j4 : ∀ x : KeptW w2, x.v.cell? ⟨b, off + j * 13 + 4, none⟩ = _ := fun x => x.cell y4
            have j5 : ∀ x : KeptW w2, x.v.cell? ⟨b, off + j * 13 + 5, none⟩ = _ := fun x => x.cell y5
            have j6 : ∀ x : KeptW w2, x.v.cell? ⟨b, off + j * 13 + 6, none⟩ = _ := fun x => x.cell y6
            have j7 : ∀ x : KeptW w2, x.v.cell? ⟨b, off + j * 13 + 7, none⟩ = _ := fun x => x.cell y7
            have j8 : ∀ x : KeptW w2, x.v.cell? ⟨b, off + j * 13 + 8, none⟩ = _ := fun x => x.cell y8
            have j9 : ∀ x : KeptW w2, x.v.cell? ⟨b, off + j * 13 + 9, none⟩ = _ := fun x => x.cell y9
            have j10 : ∀ x : KeptW w2, x.v.cell? ⟨b, off + j * 13 + 10, none⟩ = _ := fun x => x.cell y10
            have j11 : ∀ x : KeptW w2, x.v.cell? ⟨b, off + j * 13 + 11, none⟩ = _ := fun x => x.cell y11
            have j12 : ∀ x : KeptW w2, x.v.cell? ⟨b, off + j * 13 + 12, none⟩ = _ := fun x => x.cell y12
            have hne : Nonempty (KeptW w2) := ⟨⟨w2, Below.refl _ _⟩⟩
            refine region_kept (by kernel_rfl) (by kernel_rfl) ?_
            iterate 5 (go_big_quiet_step (fail))
            go_big_quiet_step (exact KeptW.calls (hfr _))
            go_big_quiet_step (fail)
            refine wpQuiet_nil ?_
            rintro _ ⟨x, rfl⟩
            have hownx := pr_below hown2 x.below
            have HQx : Hid (RqsAt x.v b off l) := Lib.hid (HQ2.out.below x.below)
            have HBx : Hid (Below w1.heap.size w1 x.v) := Lib.hid (b_then HB2.out x.below)
            have z2 := k2 x
            clear k0 k1 k2 k3 k4 k5 k6 k7 k8 k9 k10 k11 k12 j0 j1 j2 j3 j4 j5 j6 j7 j8 j9 j10 j11 j12 hown2 HQ2 HB2 hfr hne
            cases ft
            · have HE := Lib.hid (show pairsOf l = ([], 32) by rw [HD.out, if_pos rfl])
              go_wp2_with fail
              go_ret2
              rw [HE.out]
              exact ⟨_, rfl, World.ownsRow_nil _ _ _ _, b_then hb1 HBx.out⟩
            · rw [if_neg (by simp)] at HD
              cases hkd : (qc.toList == [65])
              · rw [hkd, if_neg (by simp)] at HD
                go_wp2_with fail
                refine ⟨⟨k + 1, acc, by omega, by go_num, HD, by omega, hownx, HQx, HBx⟩, by simp [intOf]; omega⟩
              · rw [hkd, if_pos rfl] at HD
                go_wp2_with (at_builtin; refine Hid.out ?_)
                refine Lib.hid ?_
                have hsx := HBx.out.size
                refine wpList_append_own _ rfl _ _ 106 rfl w1.heap.size 110 i0 (.agg #[.int .i64 0, .int .i64 0]) 2 16 Tryz.underlying106 hi hz0 hz1 hz2 rfl (by decide) _ acc.length _ rfl (hownx.alloc _) ⟨x.v.heap.size, 0, none⟩ 1 1 [.int .i64 k, .int .i64 j] rfl rfl
                  (World.news_of_block (cs := #[.int .i64 k, .int .i64 j]) (t := 110) (fr := (0, 0)) (heap_new x.v _)) (by simp [Value.oneCell']) (by unfold maxLen; omega) (by omega) (by simp; omega) ?_
                intro v' w4 hown' hgrow _
                have hgrow2 : (x.v.alloc (.cells #[.int .i64 k, .int .i64 j] 110)).grownBy w4 u5.ownBlock := hgrow
                have hb4 : Below w1.heap.size w1 w4 := HBx.out.trans (((Below.refl _ x.v).alloc HBx.out.size _).grown hgrow2 (by have := HBx.out.size; simp; omega) (pr_blk hownx))
                have HQ4 : Hid (RqsAt w4 b off l) := Lib.hid ⟨fun k hk t v hv => by
                  have hbl : b < w1.heap.size := Nat.lt_of_lt_of_le hbs hb1.size
                  rw [hb4.cell (p := ⟨b, _, none⟩) hbl]; exact HL1.out.c k hk t v hv⟩
                clear hgrow hgrow2 hownx
                rw [← prFlat_snoc] at hown'
                go_wp2_with fail
                refine ⟨⟨k + 1, acc ++ [((k : Int), (j : Int))], by omega, by go_num, HD, by simp; omega, by simpa using hown', HQ4, Lib.hid hb4⟩, by simp [intOf]; omega⟩
        · rw [hlk, if_pos rfl] at HD
          clear HFit hix
          go_wp2_with fail
          rw [HW.out]
          refine ⟨⟨k + 1, acc, by omega, by go_num, HD, by omega, hownW, HQW, HBW⟩, by simp [intOf]; omega⟩
      · have hkn : k = l.length := by omega
        have HE := Lib.hid (show pairsOf l = (acc, 0) by rw [HF.out, List.drop_of_length_le (by omega)]; rfl)
        go_wp2_with fail
        go_ret2
        rw [HE.out]
        exact ⟨_, rfl, pr_down hown hb1.size, b_then hb1 HB.out⟩
  · have HG : Hid (pairsOf l = ([], re)) := Lib.hid (by rw [HP.out, if_pos hre])
    have hb0 : (re != 0) = true := by simpa using hre
    clear HP HL hH hle hre
    go_wp2_with fail
    go_ret2
    rw [HG.out]
    exact ⟨_, rfl, World.ownsRow_nil _ _ _ _, hb1⟩
end Go.Proofs.YtphoclgibnhjfaaGreat
namespace Go.Proofs.YtphoclgibnhjfaaGreat
open Go Go.RowKit
theorem hFirst_new (es : List Int) (b n c T : Nat) (w : World) (hb : b = w.heap.size) (hn : n = es.length) (hl : es.length ≤ 100) :
    Calls Tryz.prog 26 #[.slice (some ⟨b, 0, none⟩) n c] (w.alloc (.cells (es.map (Value.int .i64)).toArray T)) fun r w' => r = .returned (.int .i64 (fst es)) ∧ w' = w.alloc (.cells (es.map (Value.int .i64)).toArray T) := by
  subst hn hb
  exact qFirst_any es _ c _ (fun i hi => cell_fresh _ _ _ _ _ (by simp [hi])) hl
theorem refOpt_any (s : ByteArray) (w : World) : Calls Tryz.prog 127 #[.string s] w fun r w' => r = .returned (.bool (s.toList == [] || decide (isName s))) ∧ Below w.heap.size w w' := by
  cases h : (s.toList == [])
  · go_enter Tryz.func127, Tryz.ntmps127
    go_wp2_with fail
    refine (qIsName_any _ _).mono ?_
    rintro e w1 ⟨rfl, hb⟩
    go_wp2_with fail
    go_ret
    exact ⟨rfl, hb⟩
  · go_enter Tryz.func127, Tryz.ntmps127
    go_wp2_with fail
    go_ret
    exact ⟨rfl, Below.refl _ _⟩
set_option maxRecDepth 100000 in
set_option maxHeartbeats 2000000 in
theorem refAt_any (s : ByteArray) (l : List ReqV) (n b off cap : Nat) (w : World) (hl : RqsAt w b off l) (hn : n ≤ l.length) (h9 : l.length ≤ 900) :
    Calls Tryz.prog 46 #[.slice (some ⟨b, off, none⟩) n cap, .string s] w fun e w' => e = .returned (.int .i64 (findIx s (l.take n) 0)) ∧ ∃ m, w' = w.drewN m := by
  have HL := Lib.hid hl
  have hlen : (l.take n).length = n := by simp; omega
  clear hl
  go_enter Tryz.func46, Tryz.ntmps46
  go_wp2_with fail
  go_loopw [5] (fun i wr => ∃ (k : Nat), k ≤ n ∧ i = .int .i64 k ∧ Hid (findIx s (l.take n) 0 = findIx s ((l.take n).drop k) k) ∧ ∃ m, wr = w.drewN m) (fun i _ => n - (intOf i).toNat)
  case atStart => exact ⟨0, Nat.zero_le _, rfl, Lib.hid (by simp), 0, rfl⟩
  case round =>
    obtain ⟨k, hk, rfl, HF, m, rfl⟩ := hrel
    by_cases hlt : k < n
    · have hd := findIx_drop s (l.take n) k (by omega) _ rfl
      have hq : (l.take n).getD k default = l.getD k default := by simp [List.getD_eq_getElem?_getD, List.getElem?_take_of_lt hlt]
      rw [hq] at hd
      obtain ⟨x0, -⟩ := HL.out.row (show k < l.length by omega) rfl
      generalize (l.getD k default).name = nm at hd x0
      have HD := Lib.hid hd
      clear hd hq
      have y0 : (w.drewN m).cell? ⟨b, off + k * 13, none⟩ = some (.string nm) := x0
      clear x0
      cases hp : (nm.toList == s.toList)
      · rw [hp] at HD
        go_wp2_with fail
        go_round
        case rel => exact ⟨k + 1, by omega, by go_num, Lib.hid (by rw [HF.out, HD.out, if_neg (by simp)]), m, rfl⟩
        case measure => simp [intOf]; omega
      · rw [hp] at HD
        have HE := Lib.hid (show findIx s (l.take n) 0 = k by rw [HF.out, HD.out, if_pos rfl])
        go_wp2_with fail
        go_ret
        exact ⟨by rw [HE.out]; rfl, m, rfl⟩
    · have HE := Lib.hid (show findIx s (l.take n) 0 = -1 by rw [HF.out, List.drop_of_length_le (by omega)]; rfl)
      go_wp2_with fail
      go_ret
      exact ⟨by rw [HE.out]; rfl, m, rfl⟩
end Go.Proofs.YtphoclgibnhjfaaGreat
namespace Go.Proofs.YtphoclgibnhjfaaGreat
open Go Go.RowKit
set_option maxRecDepth 100000 in
set_option maxHeartbeats 4000000 in
theorem refReq_any (q : ReqV) (w : World) :
    Calls Tryz.prog 74 #[.agg q.cells] w fun r w' => r = .returned (.int .i64 (reqErr q)) ∧ Below w.heap.size w w' := by
  have HE : Hid (reqErr q = fst [unl (decide (isName q.name)) 8, unl (decide (isName q.carrier)) 8, unl (decide (isName q.partner)) 8, unl (q.terminal.toList == [] || decide (isName q.terminal)) 8, unl (q.link.toList == [] || decide (isName q.link)) 8,
      unl (isKindB q.kind) 13, unl (q.link.toList != q.name.toList) 32, perErr q.from_ q.to q.days, rng q.minute 0 1439, rng q.seats 0 999, rng q.size 1 9, rng q.noise 0 99]) := Lib.hid rfl
  generalize reqErr q = re at HE ⊢
  have h1 := qIsName_any q.name
  have h2 := qIsName_any q.carrier
  have h3 := qIsName_any q.partner
  have h4 := refOpt_any q.terminal
  have h5 := refOpt_any q.link
  generalize decide (isName q.name) = p1 at h1 HE
  generalize decide (isName q.carrier) = p2 at h2 HE
  generalize decide (isName q.partner) = p3 at h3 HE
  generalize (q.terminal.toList == [] || decide (isName q.terminal)) = p4 at h4 HE
  generalize (q.link.toList == [] || decide (isName q.link)) = p5 at h5 HE
  obtain ⟨W, HW, hb0, R⟩ := req_new w q 84
  obtain ⟨name, carrier, kind, terminal, partner, link, a, b, d, m, s, z, n⟩ := q
  obtain ⟨r0, r1, r2, r3, r4, r5, r6, r7, r8, r9, r10, r11, r12⟩ := R
  simp only [ReqV.cells, isKindB] at *
  have k0 : ∀ x : KeptW W, x.v.cell? ⟨w.heap.size, 0, none⟩ = _ := fun x => x.cell r0
  have k1 : ∀ x : KeptW W, x.v.cell? ⟨w.heap.size, 1, none⟩ = _ := fun x => x.cell r1
  have k2 : ∀ x : KeptW W, x.v.cell? ⟨w.heap.size, 2, none⟩ = _ := fun x => x.cell r2
  have k3 : ∀ x : KeptW W, x.v.cell? ⟨w.heap.size, 3, none⟩ = _ := fun x => x.cell r3
  have k4 : ∀ x : KeptW W, x.v.cell? ⟨w.heap.size, 4, none⟩ = _ := fun x => x.cell r4
  have k5 : ∀ x : KeptW W, x.v.cell? ⟨w.heap.size, 5, none⟩ = _ := fun x => x.cell r5
  have k6 : ∀ x : KeptW W, x.v.cell? ⟨w.heap.size, 6, none⟩ = _ := fun x => x.cell r6
  have k7 : ∀ x : KeptW W, x.v.cell? ⟨w.heap.size, 7, none⟩ = _ := fun x => x.cell r7
  have k8 : ∀ x : KeptW W, x.v.cell? ⟨w.heap.size, 8, none⟩ = _ := fun x => x.cell r8
  have k9 : ∀ x : KeptW W, x.v.cell? ⟨w.heap.size, 9, none⟩ = _ := fun x => x.cell r9
  have k10 : ∀ x : KeptW W, x.v.cell? ⟨w.heap.size, 10, none⟩ = _ := fun x => x.cell r10
  have k11 : ∀ x : KeptW W, x.v.cell? ⟨w.heap.size, 11, none⟩ = _ := fun x => x.cell r11
  have k12 : ∀ x : KeptW W, x.v.cell? ⟨w.heap.size, 12, none⟩ = _ := fun x => x.cell r12
  clear r0 r1 r2 r3 r4 r5 r6 r7 r8 r9 r10 r11 r12
  obtain ⟨x0, hx0⟩ : ∃ x : KeptW W, W = x.v := ⟨⟨W, Below.refl _ _⟩, rfl⟩
  have HX := Lib.hid (HW.out.trans hx0)
  clear hx0 HW
  go_enter Tryz.func74, Tryz.ntmps74
  go_wp2_with fail
  rw [HX.out]
  clear HX
  go_wp2_with fail
  refine (KeptW.calls (h1 _)).mono ?_
  rintro e1 _ ⟨rfl, x1, rfl⟩
  cases p1
  · have HZ := Lib.hid (show re = 8 by rw [HE.out]; simp [fst, unl])
    go_wp2_with fail
    go_ret
    exact ⟨by rw [HZ.out]; rfl, b_then hb0 x1.below⟩
  go_wp2_with fail
  refine (KeptW.calls (h2 _)).mono ?_
  rintro e2 _ ⟨rfl, x2, rfl⟩
  cases p2
  · have HZ := Lib.hid (show re = 8 by rw [HE.out]; simp [fst, unl])
    go_wp2_with fail
    go_ret
    exact ⟨by rw [HZ.out]; rfl, b_then hb0 x2.below⟩
  go_wp2_with fail
  refine (KeptW.calls (h3 _)).mono ?_
  rintro e3 _ ⟨rfl, x3, rfl⟩
  cases p3
  · have HZ := Lib.hid (show re = 8 by rw [HE.out]; simp [fst, unl])
    go_wp2_with fail
    go_ret
    exact ⟨by rw [HZ.out]; rfl, b_then hb0 x3.below⟩
  go_wp2_with fail
  refine (KeptW.calls (h4 _)).mono ?_
  rintro e4 _ ⟨rfl, x4, rfl⟩
  cases p4
  · have HZ := Lib.hid (show re = 8 by rw [HE.out]; simp [fst, unl])
    go_wp2_with fail
    go_ret
    exact ⟨by rw [HZ.out]; rfl, b_then hb0 x4.below⟩
  go_wp2_with fail
  refine (KeptW.calls (h5 _)).mono ?_
  rintro e5 _ ⟨rfl, x5, rfl⟩
  cases p5
  · have HZ := Lib.hid (show re = 8 by rw [HE.out]; simp [fst, unl])
    go_wp2_with fail
    go_ret
    exact ⟨by rw [HZ.out]; rfl, b_then hb0 x5.below⟩
  have hper := hPeriod_any a b d
  generalize perErr a b d = pe at hper HE
  cases ha : (kind.toList == [65])
  · cases hd : (kind.toList == [68])
    · have HZ := Lib.hid (show re = 13 by rw [HE.out]; simp [fst, unl, ha, hd])
      go_wp2_with fail
      go_ret
      exact ⟨by rw [HZ.out]; rfl, b_then hb0 x5.below⟩
    · cases hl : (link.toList == name.toList)
      · go_wp2_with fail
        refine (KeptW.calls (hper _)).mono ?_
        rintro e6 _ ⟨rfl, x6, rfl⟩
        by_cases hpe : pe = 0
        · subst hpe
          have HR := Lib.hid (show re = fst [rng m 0 1439, rng s 0 999, rng z 1 9, rng n 0 99] by rw [HE.out]; simp [fst, unl, bne, ha, hd, hl])
          clear HE hper
          have m9 : ∀ y : KeptW x6.v, y.v.cell? ⟨w.heap.size, 9, none⟩ = _ := fun y => y.cell (k9 x6)
          have m10 : ∀ y : KeptW x6.v, y.v.cell? ⟨w.heap.size, 10, none⟩ = _ := fun y => y.cell (k10 x6)
          have m11 : ∀ y : KeptW x6.v, y.v.cell? ⟨w.heap.size, 11, none⟩ = _ := fun y => y.cell (k11 x6)
          have m12 : ∀ y : KeptW x6.v, y.v.cell? ⟨w.heap.size, 12, none⟩ = _ := fun y => y.cell (k12 x6)
          have hne6 : Nonempty (KeptW x6.v) := ⟨⟨x6.v, Below.refl _ _⟩⟩
          clear k0 k1 k2 k3 k4 k5 k6 k7 k8 k9 k10 k11 k12
          go_wp2_with fail
          refine tail_kept 12 (by kernel_rfl) (by kernel_rfl) ?_
          simp only [List.take_succ_cons, List.take_zero, List.drop_succ_cons, List.drop_zero]
          iterate 4
            iterate 2 (go_big_quiet_step (fail))
            go_big_quiet_step (exact KeptW.calls_same (hRange_any _ _ _ _))
          refine wpQuiet_nil ?_
          rintro _ ⟨y, rfl⟩
          have hby := b_then (b_then hb0 x6.below) y.below
          clear m9 m10 m11 m12
          go_wp2_with fail
          refine (hFirst_new [_, _, _, _] _ _ _ _ _ rfl rfl (by simp)).mono ?_
          rintro e7 w7 ⟨rfl, hw⟩
          have hb7 : Below w.heap.size w w7 := by rw [hw]; exact b_then hby (below_alloc _ _)
          clear hw
          go_wp2_with fail
          go_ret
          exact ⟨by rw [HR.out]; rfl, hb7⟩
        · have hb : (pe != 0) = true := by simpa using hpe
          have HZ := Lib.hid (show re = pe by rw [HE.out]; simp [fst, unl, bne, ha, hd, hl, hpe])
          clear hpe
          go_wp2_with fail
          go_ret
          exact ⟨by rw [HZ.out]; rfl, b_then hb0 x6.below⟩
      · have HZ := Lib.hid (show re = 32 by rw [HE.out]; simp [fst, unl, bne, ha, hd, hl])
        go_wp2_with fail
        go_ret
        exact ⟨by rw [HZ.out]; rfl, b_then hb0 x5.below⟩
  · cases hl : (link.toList == name.toList)
    · go_wp2_with fail
      refine (KeptW.calls (hper _)).mono ?_
      rintro e6 _ ⟨rfl, x6, rfl⟩
      by_cases hpe : pe = 0
      · subst hpe
        have HR := Lib.hid (show re = fst [rng m 0 1439, rng s 0 999, rng z 1 9, rng n 0 99] by rw [HE.out]; simp [fst, unl, bne, ha, hl])
        clear HE hper
        have m9 : ∀ y : KeptW x6.v, y.v.cell? ⟨w.heap.size, 9, none⟩ = _ := fun y => y.cell (k9 x6)
        have m10 : ∀ y : KeptW x6.v, y.v.cell? ⟨w.heap.size, 10, none⟩ = _ := fun y => y.cell (k10 x6)
        have m11 : ∀ y : KeptW x6.v, y.v.cell? ⟨w.heap.size, 11, none⟩ = _ := fun y => y.cell (k11 x6)
        have m12 : ∀ y : KeptW x6.v, y.v.cell? ⟨w.heap.size, 12, none⟩ = _ := fun y => y.cell (k12 x6)
        have hne6 : Nonempty (KeptW x6.v) := ⟨⟨x6.v, Below.refl _ _⟩⟩
        clear k0 k1 k2 k3 k4 k5 k6 k7 k8 k9 k10 k11 k12
        go_wp2_with fail
        refine tail_kept 12 (by kernel_rfl) (by kernel_rfl) ?_
        simp only [List.take_succ_cons, List.take_zero, List.drop_succ_cons, List.drop_zero]
        iterate 4
          iterate 2 (go_big_quiet_step (fail))
          go_big_quiet_step (exact KeptW.calls_same (hRange_any _ _ _ _))
        refine wpQuiet_nil ?_
        rintro _ ⟨y, rfl⟩
        have hby := b_then (b_then hb0 x6.below) y.below
        clear m9 m10 m11 m12
        go_wp2_with fail
        refine (hFirst_new [_, _, _, _] _ _ _ _ _ rfl rfl (by simp)).mono ?_
        rintro e7 w7 ⟨rfl, hw⟩
        have hb7 : Below w.heap.size w w7 := by rw [hw]; exact b_then hby (below_alloc _ _)
        clear hw
        go_wp2_with fail
        go_ret
        exact ⟨by rw [HR.out]; rfl, hb7⟩
      · have hb : (pe != 0) = true := by simpa using hpe
        have HZ := Lib.hid (show re = pe by rw [HE.out]; simp [fst, unl, bne, ha, hl, hpe])
        clear hpe
        go_wp2_with fail
        go_ret
        exact ⟨by rw [HZ.out]; rfl, b_then hb0 x6.below⟩
    · have HZ := Lib.hid (show re = 32 by rw [HE.out]; simp [fst, unl, bne, ha, hl])
      go_wp2_with fail
      go_ret
      exact ⟨by rw [HZ.out]; rfl, b_then hb0 x5.below⟩
end Go.Proofs.YtphoclgibnhjfaaGreat
namespace Go.Proofs.YtphoclgibnhjfaaGreat
open Go Go.RowKit
/-- A line: an action and a request. -/
structure LineV where
  act : ByteArray
  q : ReqV
def LineV.cells (l : LineV) : Array Value := #[.string l.act, .string l.q.name, .string l.q.carrier, .string l.q.kind, .string l.q.terminal, .string l.q.partner, .string l.q.link, .int .i64 l.q.from_, .int .i64 l.q.to, .int .i64 l.q.days, .int .i64 l.q.minute, .int .i64 l.q.seats, .int .i64 l.q.size, .int .i64 l.q.noise]
structure LineW (w : World) (b : Nat) (l : LineV) : Prop where
  c0 : w.cell? ⟨b, 0, none⟩ = some (.string l.act)
  c1 : w.cell? ⟨b, 1, none⟩ = some (.string l.q.name)
  c2 : w.cell? ⟨b, 2, none⟩ = some (.string l.q.carrier)
  c3 : w.cell? ⟨b, 3, none⟩ = some (.string l.q.kind)
  c4 : w.cell? ⟨b, 4, none⟩ = some (.string l.q.terminal)
  c5 : w.cell? ⟨b, 5, none⟩ = some (.string l.q.partner)
  c6 : w.cell? ⟨b, 6, none⟩ = some (.string l.q.link)
  c7 : w.cell? ⟨b, 7, none⟩ = some (.int .i64 l.q.from_)
  c8 : w.cell? ⟨b, 8, none⟩ = some (.int .i64 l.q.to)
  c9 : w.cell? ⟨b, 9, none⟩ = some (.int .i64 l.q.days)
  c10 : w.cell? ⟨b, 10, none⟩ = some (.int .i64 l.q.minute)
  c11 : w.cell? ⟨b, 11, none⟩ = some (.int .i64 l.q.seats)
  c12 : w.cell? ⟨b, 12, none⟩ = some (.int .i64 l.q.size)
  c13 : w.cell? ⟨b, 13, none⟩ = some (.int .i64 l.q.noise)
theorem line_new (w : World) (l : LineV) (T : TypeId) : ∃ W, Hid (w.alloc (.cells l.cells T) = W) ∧ Below w.heap.size w W ∧ LineW W w.heap.size l := by
  refine ⟨_, Lib.hid rfl, below_alloc w _, ?_⟩
  unfold LineV.cells
  constructor <;> simp
theorem LineW.below {w w' : World} {b : Nat} {l : LineV} (h : LineW w b l) (hb : Below w.heap.size w w') : LineW w' b l :=
  ⟨b_old hb h.c0, b_old hb h.c1, b_old hb h.c2, b_old hb h.c3, b_old hb h.c4, b_old hb h.c5, b_old hb h.c6, b_old hb h.c7, b_old hb h.c8, b_old hb h.c9, b_old hb h.c10, b_old hb h.c11, b_old hb h.c12, b_old hb h.c13⟩
def lineErr (l : LineV) : Int := fst [unl (actB l.act.data.toList) 13, reqErr l.q]
set_option maxRecDepth 100000 in
set_option maxHeartbeats 1000000 in
theorem CheckLine_any (l : LineV) (hs : l.act.size ≤ maxLen) (w : World) :
    Calls Tryz.prog 92 #[.agg l.cells] w fun r w' => r = .returned (.int .i64 (lineErr l)) ∧ Below w.heap.size w w' := by
  have HE : Hid (lineErr l = fst [unl (actB l.act.data.toList) 13, reqErr l.q]) := Lib.hid rfl
  have hact := isAction_any l.act hs
  have hreq := CheckRequest_any l.q
  generalize actB l.act.data.toList = ab at HE hact
  generalize reqErr l.q = re at HE hreq
  obtain ⟨W, HW, hb0, R⟩ := line_new w l 88
  generalize lineErr l = le at HE ⊢
  obtain ⟨act, q⟩ := l
  obtain ⟨name, carrier, kind, terminal, partner, link, a, b, d, m, s, z, n⟩ := q
  obtain ⟨r0, r1, r2, r3, r4, r5, r6, r7, r8, r9, r10, r11, r12, r13⟩ := R
  simp only [LineV.cells, ReqV.cells] at *
  have k0 : ∀ x : KeptW W, x.v.cell? ⟨w.heap.size, 0, none⟩ = _ := fun x => x.cell r0
  have k1 : ∀ x : KeptW W, x.v.cell? ⟨w.heap.size, 1, none⟩ = _ := fun x => x.cell r1
  have k2 : ∀ x : KeptW W, x.v.cell? ⟨w.heap.size, 2, none⟩ = _ := fun x => x.cell r2
  have k3 : ∀ x : KeptW W, x.v.cell? ⟨w.heap.size, 3, none⟩ = _ := fun x => x.cell r3
  have k4 : ∀ x : KeptW W, x.v.cell? ⟨w.heap.size, 4, none⟩ = _ := fun x => x.cell r4
  have k5 : ∀ x : KeptW W, x.v.cell? ⟨w.heap.size, 5, none⟩ = _ := fun x => x.cell r5
  have k6 : ∀ x : KeptW W, x.v.cell? ⟨w.heap.size, 6, none⟩ = _ := fun x => x.cell r6
  have k7 : ∀ x : KeptW W, x.v.cell? ⟨w.heap.size, 7, none⟩ = _ := fun x => x.cell r7
  have k8 : ∀ x : KeptW W, x.v.cell? ⟨w.heap.size, 8, none⟩ = _ := fun x => x.cell r8
  have k9 : ∀ x : KeptW W, x.v.cell? ⟨w.heap.size, 9, none⟩ = _ := fun x => x.cell r9
  have k10 : ∀ x : KeptW W, x.v.cell? ⟨w.heap.size, 10, none⟩ = _ := fun x => x.cell r10
  have k11 : ∀ x : KeptW W, x.v.cell? ⟨w.heap.size, 11, none⟩ = _ := fun x => x.cell r11
  have k12 : ∀ x : KeptW W, x.v.cell? ⟨w.heap.size, 12, none⟩ = _ := fun x => x.cell r12
  have k13 : ∀ x : KeptW W, x.v.cell? ⟨w.heap.size, 13, none⟩ = _ := fun x => x.cell r13
  have hne : Nonempty (KeptW W) := ⟨⟨W, Below.refl _ _⟩⟩
  clear r0 r1 r2 r3 r4 r5 r6 r7 r8 r9 r10 r11 r12 r13
  go_enter Tryz.func92, Tryz.ntmps92
  go_wp2_with fail
  rw [HW.out]
  refine tail_kept 7 (by kernel_rfl) (by kernel_rfl) ?_
  simp only [List.take_succ_cons, List.take_zero, List.drop_succ_cons, List.drop_zero]
  iterate 2 (go_big_quiet_step (fail))
  go_big_quiet_step (exact KeptW.calls (hact _))
  go_big_quiet_step (exact KeptW.calls_same (unless_any _ _ _))
  iterate 2 (go_big_quiet_step (fail))
  go_big_quiet_step (exact KeptW.calls (hreq _))
  refine wpQuiet_nil ?_
  rintro _ ⟨x, rfl⟩
  have hbx := b_then hb0 x.below
  clear k0 k1 k2 k3 k4 k5 k6 k7 k8 k9 k10 k11 k12 k13 hb0
  go_wp2_with fail
  refine (fe_new [_, _] _ _ _ _ _ rfl rfl (by simp)).mono ?_
  rintro e2 w2 ⟨rfl, hw⟩
  have hb2 : Below w.heap.size w w2 := by rw [hw]; exact b_then hbx (below_alloc _ _)
  clear hw
  go_wp2_with fail
  go_ret
  exact ⟨by rw [HE.out]; rfl, hb2⟩
set_option maxRecDepth 100000 in
set_option maxHeartbeats 1000000 in
theorem refLine_any (l : LineV) (w : World) :
    Calls Tryz.prog 117 #[.agg l.cells] w fun r w' => r = .returned (.int .i64 (lineErr l)) ∧ Below w.heap.size w w' := by
  have HE : Hid (lineErr l = fst [unl (asksB l.act.data.toList || repliesB l.act.data.toList) 13, reqErr l.q]) := Lib.hid rfl
  have ha := asks_any l.act
  have hr := replies_any l.act
  have hreq := refReq_any l.q
  generalize asksB l.act.data.toList = ab at HE ha
  generalize repliesB l.act.data.toList = rb at HE hr
  generalize reqErr l.q = re at HE hreq
  obtain ⟨W, HW, hb0, R⟩ := line_new w l 86
  generalize lineErr l = le at HE ⊢
  obtain ⟨act, q⟩ := l
  obtain ⟨name, carrier, kind, terminal, partner, link, a, b, d, m, s, z, n⟩ := q
  obtain ⟨r0, r1, r2, r3, r4, r5, r6, r7, r8, r9, r10, r11, r12, r13⟩ := R
  simp only [LineV.cells, ReqV.cells] at *
  have k0 : ∀ x : KeptW W, x.v.cell? ⟨w.heap.size, 0, none⟩ = _ := fun x => x.cell r0
  have k1 : ∀ x : KeptW W, x.v.cell? ⟨w.heap.size, 1, none⟩ = _ := fun x => x.cell r1
  have k2 : ∀ x : KeptW W, x.v.cell? ⟨w.heap.size, 2, none⟩ = _ := fun x => x.cell r2
  have k3 : ∀ x : KeptW W, x.v.cell? ⟨w.heap.size, 3, none⟩ = _ := fun x => x.cell r3
  have k4 : ∀ x : KeptW W, x.v.cell? ⟨w.heap.size, 4, none⟩ = _ := fun x => x.cell r4
  have k5 : ∀ x : KeptW W, x.v.cell? ⟨w.heap.size, 5, none⟩ = _ := fun x => x.cell r5
  have k6 : ∀ x : KeptW W, x.v.cell? ⟨w.heap.size, 6, none⟩ = _ := fun x => x.cell r6
  have k7 : ∀ x : KeptW W, x.v.cell? ⟨w.heap.size, 7, none⟩ = _ := fun x => x.cell r7
  have k8 : ∀ x : KeptW W, x.v.cell? ⟨w.heap.size, 8, none⟩ = _ := fun x => x.cell r8
  have k9 : ∀ x : KeptW W, x.v.cell? ⟨w.heap.size, 9, none⟩ = _ := fun x => x.cell r9
  have k10 : ∀ x : KeptW W, x.v.cell? ⟨w.heap.size, 10, none⟩ = _ := fun x => x.cell r10
  have k11 : ∀ x : KeptW W, x.v.cell? ⟨w.heap.size, 11, none⟩ = _ := fun x => x.cell r11
  have k12 : ∀ x : KeptW W, x.v.cell? ⟨w.heap.size, 12, none⟩ = _ := fun x => x.cell r12
  have k13 : ∀ x : KeptW W, x.v.cell? ⟨w.heap.size, 13, none⟩ = _ := fun x => x.cell r13
  clear r0 r1 r2 r3 r4 r5 r6 r7 r8 r9 r10 r11 r12 r13
  obtain ⟨x0, hx0⟩ : ∃ x : KeptW W, W = x.v := ⟨⟨W, Below.refl _ _⟩, rfl⟩
  have HX := Lib.hid (HW.out.trans hx0)
  clear hx0 HW
  go_enter Tryz.func117, Tryz.ntmps117
  go_wp2_with fail
  rw [HX.out]
  clear HX
  go_wp2_with fail
  refine (KeptW.calls (ha _)).mono ?_
  rintro e1 _ ⟨rfl, x1, rfl⟩
  cases ab
  · go_wp2_with fail
    refine (KeptW.calls (hr _)).mono ?_
    rintro e2 _ ⟨rfl, x2, rfl⟩
    cases rb
    · have HZ := Lib.hid (show le = 13 by rw [HE.out]; simp [fst, unl])
      go_wp2_with fail
      go_ret
      exact ⟨by rw [HZ.out]; rfl, b_then hb0 x2.below⟩
    · have HZ := Lib.hid (show le = re by rw [HE.out]; by_cases h : re = 0 <;> simp [fst, unl, h])
      go_wp2_with fail
      refine (KeptW.calls (hreq _)).mono ?_
      rintro e3 _ ⟨rfl, x3, rfl⟩
      go_wp2_with fail
      go_ret
      exact ⟨by rw [HZ.out]; rfl, b_then hb0 x3.below⟩
  · have HZ := Lib.hid (show le = re by rw [HE.out]; by_cases h : re = 0 <;> simp [fst, unl, h])
    go_wp2_with fail
    refine (KeptW.calls (hreq _)).mono ?_
    rintro e3 _ ⟨rfl, x3, rfl⟩
    go_wp2_with fail
    go_ret
    exact ⟨by rw [HZ.out]; rfl, b_then hb0 x3.below⟩
end Go.Proofs.YtphoclgibnhjfaaGreat
namespace Go.Proofs.YtphoclgibnhjfaaGreat
open Go Go.RowKit
theorem at0_any (b : Nat) (w : World) : Calls Tryz.prog 141 #[.pointer (some ⟨b, 0, none⟩)] w fun e w' => e = .returned (.pointer (some ⟨b, 0, none⟩)) ∧ w' = w := by
  go_enter Tryz.func141, Tryz.ntmps141
  go_wp2_with fail
  go_ret
  exact ⟨rfl, rfl⟩
theorem at1_any (b : Nat) (w : World) : Calls Tryz.prog 142 #[.pointer (some ⟨b, 0, none⟩)] w fun e w' => e = .returned (.pointer (some ⟨b, 2, none⟩)) ∧ w' = w := by
  go_enter Tryz.func142, Tryz.ntmps142
  go_wp2_with fail
  go_ret
  exact ⟨rfl, rfl⟩
theorem at2_any (b : Nat) (w : World) : Calls Tryz.prog 144 #[.pointer (some ⟨b, 0, none⟩)] w fun e w' => e = .returned (.pointer (some ⟨b, 1, none⟩)) ∧ w' = w := by
  go_enter Tryz.func144, Tryz.ntmps144
  go_wp2_with fail
  go_ret
  exact ⟨rfl, rfl⟩
theorem at3_any (b : Nat) (w : World) : Calls Tryz.prog 145 #[.pointer (some ⟨b, 0, none⟩)] w fun e w' => e = .returned (.pointer (some ⟨b, 3, none⟩)) ∧ w' = w := by
  go_enter Tryz.func145, Tryz.ntmps145
  go_wp2_with fail
  go_ret
  exact ⟨rfl, rfl⟩
theorem at4_any (b : Nat) (w : World) : Calls Tryz.prog 147 #[.pointer (some ⟨b, 0, none⟩)] w fun e w' => e = .returned (.pointer (some ⟨b, 5, none⟩)) ∧ w' = w := by
  go_enter Tryz.func147, Tryz.ntmps147
  go_wp2_with fail
  go_ret
  exact ⟨rfl, rfl⟩
theorem at5_any (b : Nat) (w : World) : Calls Tryz.prog 149 #[.pointer (some ⟨b, 0, none⟩)] w fun e w' => e = .returned (.pointer (some ⟨b, 7, none⟩)) ∧ w' = w := by
  go_enter Tryz.func149, Tryz.ntmps149
  go_wp2_with fail
  go_ret
  exact ⟨rfl, rfl⟩
theorem at6_any (b : Nat) (w : World) : Calls Tryz.prog 150 #[.pointer (some ⟨b, 0, none⟩)] w fun e w' => e = .returned (.pointer (some ⟨b, 8, none⟩)) ∧ w' = w := by
  go_enter Tryz.func150, Tryz.ntmps150
  go_wp2_with fail
  go_ret
  exact ⟨rfl, rfl⟩
theorem at7_any (b : Nat) (w : World) : Calls Tryz.prog 152 #[.pointer (some ⟨b, 0, none⟩)] w fun e w' => e = .returned (.pointer (some ⟨b, 9, none⟩)) ∧ w' = w := by
  go_enter Tryz.func152, Tryz.ntmps152
  go_wp2_with fail
  go_ret
  exact ⟨rfl, rfl⟩
theorem at8_any (b : Nat) (w : World) : Calls Tryz.prog 155 #[.pointer (some ⟨b, 0, none⟩)] w fun e w' => e = .returned (.pointer (some ⟨b, 10, none⟩)) ∧ w' = w := by
  go_enter Tryz.func155, Tryz.ntmps155
  go_wp2_with fail
  go_ret
  exact ⟨rfl, rfl⟩
theorem at9_any (b : Nat) (w : World) : Calls Tryz.prog 156 #[.pointer (some ⟨b, 0, none⟩)] w fun e w' => e = .returned (.pointer (some ⟨b, 11, none⟩)) ∧ w' = w := by
  go_enter Tryz.func156, Tryz.ntmps156
  go_wp2_with fail
  go_ret
  exact ⟨rfl, rfl⟩
theorem at10_any (b : Nat) (w : World) : Calls Tryz.prog 157 #[.pointer (some ⟨b, 0, none⟩)] w fun e w' => e = .returned (.pointer (some ⟨b, 12, none⟩)) ∧ w' = w := by
  go_enter Tryz.func157, Tryz.ntmps157
  go_wp2_with fail
  go_ret
  exact ⟨rfl, rfl⟩
theorem at11_any (b : Nat) (w : World) : Calls Tryz.prog 158 #[.pointer (some ⟨b, 0, none⟩)] w fun e w' => e = .returned (.pointer (some ⟨b, 13, none⟩)) ∧ w' = w := by
  go_enter Tryz.func158, Tryz.ntmps158
  go_wp2_with fail
  go_ret
  exact ⟨rfl, rfl⟩
theorem at12_any (b : Nat) (w : World) : Calls Tryz.prog 160 #[.pointer (some ⟨b, 0, none⟩)] w fun e w' => e = .returned (.pointer (some ⟨b, 4, none⟩)) ∧ w' = w := by
  go_enter Tryz.func160, Tryz.ntmps160
  go_wp2_with fail
  go_ret
  exact ⟨rfl, rfl⟩
theorem at13_any (b : Nat) (w : World) : Calls Tryz.prog 161 #[.pointer (some ⟨b, 0, none⟩)] w fun e w' => e = .returned (.pointer (some ⟨b, 6, none⟩)) ∧ w' = w := by
  go_enter Tryz.func161, Tryz.ntmps161
  go_wp2_with fail
  go_ret
  exact ⟨rfl, rfl⟩
/-- The kinds of fields: words that stand as they are, numbers, codes, and names that may be empty. -/
inductive FK where
  | text (A W : FuncId)
  | num (A : FuncId) (k : Nat)
  | code (A S P : FuncId)
  | opt (A : FuncId)
def fnV (A : FuncId) : Value := .func (.func A) #[] #[]
/-- Two values are the functions of a field, whose variables lie from block N on. -/
def FieldW (w : World) (N : Nat) : FK → Value → Value → Prop
  | .text A W, s, r => ∃ b c, N ≤ b ∧ N ≤ c ∧ s = .func (.func 188) #[] #[.pointer (some ⟨b, 0, none⟩)] ∧ r = .func (.func 189) #[] #[.pointer (some ⟨b, 0, none⟩), .pointer (some ⟨c, 0, none⟩)] ∧ w.cell? ⟨b, 0, none⟩ = some (fnV A) ∧ w.cell? ⟨c, 0, none⟩ = some (fnV W)
  | .num A k, s, r => ∃ b c, N ≤ b ∧ N ≤ c ∧ s = .func (.func 190) #[] #[.pointer (some ⟨b, 0, none⟩), .pointer (some ⟨c, 0, none⟩)] ∧ r = .func (.func 191) #[] #[.pointer (some ⟨c, 0, none⟩), .pointer (some ⟨b, 0, none⟩)] ∧ w.cell? ⟨b, 0, none⟩ = some (fnV A) ∧ w.cell? ⟨c, 0, none⟩ = some (.int .i64 k)
  | .code A S P, s, r => ∃ b c d, N ≤ b ∧ N ≤ c ∧ N ≤ d ∧ s = .func (.func 192) #[] #[.pointer (some ⟨c, 0, none⟩), .pointer (some ⟨b, 0, none⟩)] ∧ r = .func (.func 193) #[] #[.pointer (some ⟨d, 0, none⟩), .pointer (some ⟨b, 0, none⟩)] ∧ w.cell? ⟨b, 0, none⟩ = some (fnV A) ∧ w.cell? ⟨c, 0, none⟩ = some (fnV S) ∧ w.cell? ⟨d, 0, none⟩ = some (fnV P)
  | .opt A, s, r => ∃ b, N ≤ b ∧ s = .func (.func 195) #[] #[.pointer (some ⟨b, 0, none⟩)] ∧ r = .func (.func 196) #[] #[.pointer (some ⟨b, 0, none⟩)] ∧ w.cell? ⟨b, 0, none⟩ = some (fnV A)
theorem FieldW.below {w w' : World} {N : Nat} {k : FK} {s r : Value} (h : FieldW w N k s r) (hb : Below w.heap.size w w') : FieldW w' N k s r := by
  cases k with
  | text A W => obtain ⟨b, c, h1, h2, h3, h4, h5, h6⟩ := h; exact ⟨b, c, h1, h2, h3, h4, b_old hb h5, b_old hb h6⟩
  | num A k => obtain ⟨b, c, h1, h2, h3, h4, h5, h6⟩ := h; exact ⟨b, c, h1, h2, h3, h4, b_old hb h5, b_old hb h6⟩
  | code A S P => obtain ⟨b, c, d, h1, h2, h3, h4, h5, h6, h7, h8⟩ := h; exact ⟨b, c, d, h1, h2, h3, h4, h5, b_old hb h6, b_old hb h7, b_old hb h8⟩
  | opt A => obtain ⟨b, h1, h2, h3, h4⟩ := h; exact ⟨b, h1, h2, h3, b_old hb h4⟩
theorem FieldW.down {w : World} {N N' : Nat} {k : FK} {s r : Value} (h : FieldW w N k s r) (hN : N' ≤ N) : FieldW w N' k s r := by
  cases k with
  | text A W => obtain ⟨b, c, h1, h2, h3⟩ := h; exact ⟨b, c, Nat.le_trans hN h1, Nat.le_trans hN h2, h3⟩
  | num A k => obtain ⟨b, c, h1, h2, h3⟩ := h; exact ⟨b, c, Nat.le_trans hN h1, Nat.le_trans hN h2, h3⟩
  | code A S P => obtain ⟨b, c, d, h1, h2, h3, h4⟩ := h; exact ⟨b, c, d, Nat.le_trans hN h1, Nat.le_trans hN h2, Nat.le_trans hN h3, h4⟩
  | opt A => obtain ⟨b, h1, h2⟩ := h; exact ⟨b, Nat.le_trans hN h1, h2⟩
/-- A call that has returned the functions of a field. -/
structure FieldR (e : Ending) (w' : World) (N : Nat) (k : FK) : Prop where
  ex : ∃ s r, e = .returned (.agg #[s, r]) ∧ FieldW w' N k s r
set_option maxRecDepth 100000 in
set_option maxHeartbeats 1000000 in
theorem textField_any (A W : FuncId) (w : World) :
    Calls Tryz.prog 140 #[fnV A, fnV W] w fun e w' => FieldR e w' w.heap.size (.text A W) ∧ Below w.heap.size w w' := by
  unfold fnV
  have hsf := store_func
  have e0 : (w.alloc (.cells #[.func (.func A) #[] #[]] 221)).heap.size = w.heap.size + 1 := by simp
  have y0 := cell_fresh w [.func (.func A) #[] #[]] 221 0 _ rfl
  have e1 : ((w.alloc (.cells #[.func (.func A) #[] #[]] 221)).alloc (.cells #[.func (.func W) #[] #[]] 36)).heap.size = w.heap.size + 1 + 1 := by simp
  have y1 := cell_fresh (w.alloc (.cells #[.func (.func A) #[] #[]] 221)) [.func (.func W) #[] #[]] 36 0 _ rfl
  rw [e0] at y1
  have q0 := cell_fresh ((w.alloc (.cells #[.func (.func A) #[] #[]] 221)).alloc (.cells #[.func (.func W) #[] #[]] 36)) [.func (.func 188) #[] #[.pointer (some ⟨w.heap.size, 0, none⟩)], .func (.func 189) #[] #[.pointer (some ⟨w.heap.size, 0, none⟩), .pointer (some ⟨w.heap.size + 1, 0, none⟩)]] 160 0 _ rfl
  have q1 := cell_fresh ((w.alloc (.cells #[.func (.func A) #[] #[]] 221)).alloc (.cells #[.func (.func W) #[] #[]] 36)) [.func (.func 188) #[] #[.pointer (some ⟨w.heap.size, 0, none⟩)], .func (.func 189) #[] #[.pointer (some ⟨w.heap.size, 0, none⟩), .pointer (some ⟨w.heap.size + 1, 0, none⟩)]] 160 1 _ rfl
  rw [e1] at q0 q1
  have hB0 : Below w.heap.size w (w.alloc (.cells #[.func (.func A) #[] #[]] 221)) := below_alloc _ _
  have hB1 : Below w.heap.size w ((w.alloc (.cells #[.func (.func A) #[] #[]] 221)).alloc (.cells #[.func (.func W) #[] #[]] 36)) := b_then hB0 (below_alloc _ _)
  have hB2 : Below w.heap.size w (((w.alloc (.cells #[.func (.func A) #[] #[]] 221)).alloc (.cells #[.func (.func W) #[] #[]] 36)).alloc (.cells #[.func (.func 188) #[] #[.pointer (some ⟨w.heap.size, 0, none⟩)], .func (.func 189) #[] #[.pointer (some ⟨w.heap.size, 0, none⟩), .pointer (some ⟨w.heap.size + 1, 0, none⟩)]] 160)) := b_then hB1 (below_alloc _ _)
  have z0 : (((w.alloc (.cells #[.func (.func A) #[] #[]] 221)).alloc (.cells #[.func (.func W) #[] #[]] 36)).alloc (.cells #[.func (.func 188) #[] #[.pointer (some ⟨w.heap.size, 0, none⟩)], .func (.func 189) #[] #[.pointer (some ⟨w.heap.size, 0, none⟩), .pointer (some ⟨w.heap.size + 1, 0, none⟩)]] 160)).cell? ⟨w.heap.size, 0, none⟩ = _ := (b_old (below_alloc _ _) (b_old (below_alloc _ _) y0))
  have z1 : (((w.alloc (.cells #[.func (.func A) #[] #[]] 221)).alloc (.cells #[.func (.func W) #[] #[]] 36)).alloc (.cells #[.func (.func 188) #[] #[.pointer (some ⟨w.heap.size, 0, none⟩)], .func (.func 189) #[] #[.pointer (some ⟨w.heap.size, 0, none⟩), .pointer (some ⟨w.heap.size + 1, 0, none⟩)]] 160)).cell? ⟨w.heap.size + 1, 0, none⟩ = _ := (b_old (below_alloc _ _) y1)
  have hR : FieldW (((w.alloc (.cells #[.func (.func A) #[] #[]] 221)).alloc (.cells #[.func (.func W) #[] #[]] 36)).alloc (.cells #[.func (.func 188) #[] #[.pointer (some ⟨w.heap.size, 0, none⟩)], .func (.func 189) #[] #[.pointer (some ⟨w.heap.size, 0, none⟩), .pointer (some ⟨w.heap.size + 1, 0, none⟩)]] 160)) w.heap.size (.text A W) (.func (.func 188) #[] #[.pointer (some ⟨w.heap.size, 0, none⟩)]) (.func (.func 189) #[] #[.pointer (some ⟨w.heap.size, 0, none⟩), .pointer (some ⟨w.heap.size + 1, 0, none⟩)]) := ⟨_, _, Nat.le_refl _, by omega, rfl, rfl, z0, z1⟩
  clear y0 z0 y1 z1
  go_enter Tryz.func140, Tryz.ntmps140
  go_wp2_with fail
  exact bodyPost_ret (v := .agg #[.func (.func 188) #[] #[.pointer (some ⟨w.heap.size, 0, none⟩)], .func (.func 189) #[] #[.pointer (some ⟨w.heap.size, 0, none⟩), .pointer (some ⟨w.heap.size + 1, 0, none⟩)]]) (by simp [results, Tryz.results140, go_sem, q0, q1]) rfl ⟨⟨_, _, rfl, hR⟩, hB2⟩
set_option maxRecDepth 100000 in
set_option maxHeartbeats 1000000 in
theorem numberField_any (A : FuncId) (k : Nat) (w : World) :
    Calls Tryz.prog 148 #[fnV A, .int .i64 k] w fun e w' => FieldR e w' w.heap.size (.num A k) ∧ Below w.heap.size w w' := by
  unfold fnV
  have hsf := store_func
  have e0 : (w.alloc (.cells #[.func (.func A) #[] #[]] 224)).heap.size = w.heap.size + 1 := by simp
  have y0 := cell_fresh w [.func (.func A) #[] #[]] 224 0 _ rfl
  have e1 : ((w.alloc (.cells #[.func (.func A) #[] #[]] 224)).alloc (.cells #[.int .i64 k] 3)).heap.size = w.heap.size + 1 + 1 := by simp
  have y1 := cell_fresh (w.alloc (.cells #[.func (.func A) #[] #[]] 224)) [.int .i64 k] 3 0 _ rfl
  rw [e0] at y1
  have q0 := cell_fresh ((w.alloc (.cells #[.func (.func A) #[] #[]] 224)).alloc (.cells #[.int .i64 k] 3)) [.func (.func 190) #[] #[.pointer (some ⟨w.heap.size, 0, none⟩), .pointer (some ⟨w.heap.size + 1, 0, none⟩)], .func (.func 191) #[] #[.pointer (some ⟨w.heap.size + 1, 0, none⟩), .pointer (some ⟨w.heap.size, 0, none⟩)]] 160 0 _ rfl
  have q1 := cell_fresh ((w.alloc (.cells #[.func (.func A) #[] #[]] 224)).alloc (.cells #[.int .i64 k] 3)) [.func (.func 190) #[] #[.pointer (some ⟨w.heap.size, 0, none⟩), .pointer (some ⟨w.heap.size + 1, 0, none⟩)], .func (.func 191) #[] #[.pointer (some ⟨w.heap.size + 1, 0, none⟩), .pointer (some ⟨w.heap.size, 0, none⟩)]] 160 1 _ rfl
  rw [e1] at q0 q1
  have hB0 : Below w.heap.size w (w.alloc (.cells #[.func (.func A) #[] #[]] 224)) := below_alloc _ _
  have hB1 : Below w.heap.size w ((w.alloc (.cells #[.func (.func A) #[] #[]] 224)).alloc (.cells #[.int .i64 k] 3)) := b_then hB0 (below_alloc _ _)
  have hB2 : Below w.heap.size w (((w.alloc (.cells #[.func (.func A) #[] #[]] 224)).alloc (.cells #[.int .i64 k] 3)).alloc (.cells #[.func (.func 190) #[] #[.pointer (some ⟨w.heap.size, 0, none⟩), .pointer (some ⟨w.heap.size + 1, 0, none⟩)], .func (.func 191) #[] #[.pointer (some ⟨w.heap.size + 1, 0, none⟩), .pointer (some ⟨w.heap.size, 0, none⟩)]] 160)) := b_then hB1 (below_alloc _ _)
  have z0 : (((w.alloc (.cells #[.func (.func A) #[] #[]] 224)).alloc (.cells #[.int .i64 k] 3)).alloc (.cells #[.func (.func 190) #[] #[.pointer (some ⟨w.heap.size, 0, none⟩), .pointer (some ⟨w.heap.size + 1, 0, none⟩)], .func (.func 191) #[] #[.pointer (some ⟨w.heap.size + 1, 0, none⟩), .pointer (some ⟨w.heap.size, 0, none⟩)]] 160)).cell? ⟨w.heap.size, 0, none⟩ = _ := (b_old (below_alloc _ _) (b_old (below_alloc _ _) y0))
  have z1 : (((w.alloc (.cells #[.func (.func A) #[] #[]] 224)).alloc (.cells #[.int .i64 k] 3)).alloc (.cells #[.func (.func 190) #[] #[.pointer (some ⟨w.heap.size, 0, none⟩), .pointer (some ⟨w.heap.size + 1, 0, none⟩)], .func (.func 191) #[] #[.pointer (some ⟨w.heap.size + 1, 0, none⟩), .pointer (some ⟨w.heap.size, 0, none⟩)]] 160)).cell? ⟨w.heap.size + 1, 0, none⟩ = _ := (b_old (below_alloc _ _) y1)
  have hR : FieldW (((w.alloc (.cells #[.func (.func A) #[] #[]] 224)).alloc (.cells #[.int .i64 k] 3)).alloc (.cells #[.func (.func 190) #[] #[.pointer (some ⟨w.heap.size, 0, none⟩), .pointer (some ⟨w.heap.size + 1, 0, none⟩)], .func (.func 191) #[] #[.pointer (some ⟨w.heap.size + 1, 0, none⟩), .pointer (some ⟨w.heap.size, 0, none⟩)]] 160)) w.heap.size (.num A k) (.func (.func 190) #[] #[.pointer (some ⟨w.heap.size, 0, none⟩), .pointer (some ⟨w.heap.size + 1, 0, none⟩)]) (.func (.func 191) #[] #[.pointer (some ⟨w.heap.size + 1, 0, none⟩), .pointer (some ⟨w.heap.size, 0, none⟩)]) := ⟨_, _, Nat.le_refl _, by omega, rfl, rfl, z0, z1⟩
  clear y0 z0 y1 z1
  go_enter Tryz.func148, Tryz.ntmps148
  go_wp2_with fail
  exact bodyPost_ret (v := .agg #[.func (.func 190) #[] #[.pointer (some ⟨w.heap.size, 0, none⟩), .pointer (some ⟨w.heap.size + 1, 0, none⟩)], .func (.func 191) #[] #[.pointer (some ⟨w.heap.size + 1, 0, none⟩), .pointer (some ⟨w.heap.size, 0, none⟩)]]) (by simp [results, Tryz.results148, go_sem, q0, q1]) rfl ⟨⟨_, _, rfl, hR⟩, hB2⟩
set_option maxRecDepth 100000 in
set_option maxHeartbeats 1000000 in
theorem codeField_any (A S P : FuncId) (w : World) :
    Calls Tryz.prog 151 #[fnV A, fnV S, fnV P] w fun e w' => FieldR e w' w.heap.size (.code A S P) ∧ Below w.heap.size w w' := by
  unfold fnV
  have hsf := store_func
  have e0 : (w.alloc (.cells #[.func (.func A) #[] #[]] 224)).heap.size = w.heap.size + 1 := by simp
  have y0 := cell_fresh w [.func (.func A) #[] #[]] 224 0 _ rfl
  have e1 : ((w.alloc (.cells #[.func (.func A) #[] #[]] 224)).alloc (.cells #[.func (.func S) #[] #[]] 94)).heap.size = w.heap.size + 1 + 1 := by simp
  have y1 := cell_fresh (w.alloc (.cells #[.func (.func A) #[] #[]] 224)) [.func (.func S) #[] #[]] 94 0 _ rfl
  rw [e0] at y1
  have e2 : (((w.alloc (.cells #[.func (.func A) #[] #[]] 224)).alloc (.cells #[.func (.func S) #[] #[]] 94)).alloc (.cells #[.func (.func P) #[] #[]] 93)).heap.size = w.heap.size + 1 + 1 + 1 := by simp
  have y2 := cell_fresh ((w.alloc (.cells #[.func (.func A) #[] #[]] 224)).alloc (.cells #[.func (.func S) #[] #[]] 94)) [.func (.func P) #[] #[]] 93 0 _ rfl
  rw [e1] at y2
  have q0 := cell_fresh (((w.alloc (.cells #[.func (.func A) #[] #[]] 224)).alloc (.cells #[.func (.func S) #[] #[]] 94)).alloc (.cells #[.func (.func P) #[] #[]] 93)) [.func (.func 192) #[] #[.pointer (some ⟨w.heap.size + 1, 0, none⟩), .pointer (some ⟨w.heap.size, 0, none⟩)], .func (.func 193) #[] #[.pointer (some ⟨w.heap.size + 1 + 1, 0, none⟩), .pointer (some ⟨w.heap.size, 0, none⟩)]] 160 0 _ rfl
  have q1 := cell_fresh (((w.alloc (.cells #[.func (.func A) #[] #[]] 224)).alloc (.cells #[.func (.func S) #[] #[]] 94)).alloc (.cells #[.func (.func P) #[] #[]] 93)) [.func (.func 192) #[] #[.pointer (some ⟨w.heap.size + 1, 0, none⟩), .pointer (some ⟨w.heap.size, 0, none⟩)], .func (.func 193) #[] #[.pointer (some ⟨w.heap.size + 1 + 1, 0, none⟩), .pointer (some ⟨w.heap.size, 0, none⟩)]] 160 1 _ rfl
  rw [e2] at q0 q1
  have hB0 : Below w.heap.size w (w.alloc (.cells #[.func (.func A) #[] #[]] 224)) := below_alloc _ _
  have hB1 : Below w.heap.size w ((w.alloc (.cells #[.func (.func A) #[] #[]] 224)).alloc (.cells #[.func (.func S) #[] #[]] 94)) := b_then hB0 (below_alloc _ _)
  have hB2 : Below w.heap.size w (((w.alloc (.cells #[.func (.func A) #[] #[]] 224)).alloc (.cells #[.func (.func S) #[] #[]] 94)).alloc (.cells #[.func (.func P) #[] #[]] 93)) := b_then hB1 (below_alloc _ _)
  have hB3 : Below w.heap.size w ((((w.alloc (.cells #[.func (.func A) #[] #[]] 224)).alloc (.cells #[.func (.func S) #[] #[]] 94)).alloc (.cells #[.func (.func P) #[] #[]] 93)).alloc (.cells #[.func (.func 192) #[] #[.pointer (some ⟨w.heap.size + 1, 0, none⟩), .pointer (some ⟨w.heap.size, 0, none⟩)], .func (.func 193) #[] #[.pointer (some ⟨w.heap.size + 1 + 1, 0, none⟩), .pointer (some ⟨w.heap.size, 0, none⟩)]] 160)) := b_then hB2 (below_alloc _ _)
  have z0 : ((((w.alloc (.cells #[.func (.func A) #[] #[]] 224)).alloc (.cells #[.func (.func S) #[] #[]] 94)).alloc (.cells #[.func (.func P) #[] #[]] 93)).alloc (.cells #[.func (.func 192) #[] #[.pointer (some ⟨w.heap.size + 1, 0, none⟩), .pointer (some ⟨w.heap.size, 0, none⟩)], .func (.func 193) #[] #[.pointer (some ⟨w.heap.size + 1 + 1, 0, none⟩), .pointer (some ⟨w.heap.size, 0, none⟩)]] 160)).cell? ⟨w.heap.size, 0, none⟩ = _ := (b_old (below_alloc _ _) (b_old (below_alloc _ _) (b_old (below_alloc _ _) y0)))
  have z1 : ((((w.alloc (.cells #[.func (.func A) #[] #[]] 224)).alloc (.cells #[.func (.func S) #[] #[]] 94)).alloc (.cells #[.func (.func P) #[] #[]] 93)).alloc (.cells #[.func (.func 192) #[] #[.pointer (some ⟨w.heap.size + 1, 0, none⟩), .pointer (some ⟨w.heap.size, 0, none⟩)], .func (.func 193) #[] #[.pointer (some ⟨w.heap.size + 1 + 1, 0, none⟩), .pointer (some ⟨w.heap.size, 0, none⟩)]] 160)).cell? ⟨w.heap.size + 1, 0, none⟩ = _ := (b_old (below_alloc _ _) (b_old (below_alloc _ _) y1))
  have z2 : ((((w.alloc (.cells #[.func (.func A) #[] #[]] 224)).alloc (.cells #[.func (.func S) #[] #[]] 94)).alloc (.cells #[.func (.func P) #[] #[]] 93)).alloc (.cells #[.func (.func 192) #[] #[.pointer (some ⟨w.heap.size + 1, 0, none⟩), .pointer (some ⟨w.heap.size, 0, none⟩)], .func (.func 193) #[] #[.pointer (some ⟨w.heap.size + 1 + 1, 0, none⟩), .pointer (some ⟨w.heap.size, 0, none⟩)]] 160)).cell? ⟨w.heap.size + 1 + 1, 0, none⟩ = _ := (b_old (below_alloc _ _) y2)
  have hR : FieldW ((((w.alloc (.cells #[.func (.func A) #[] #[]] 224)).alloc (.cells #[.func (.func S) #[] #[]] 94)).alloc (.cells #[.func (.func P) #[] #[]] 93)).alloc (.cells #[.func (.func 192) #[] #[.pointer (some ⟨w.heap.size + 1, 0, none⟩), .pointer (some ⟨w.heap.size, 0, none⟩)], .func (.func 193) #[] #[.pointer (some ⟨w.heap.size + 1 + 1, 0, none⟩), .pointer (some ⟨w.heap.size, 0, none⟩)]] 160)) w.heap.size (.code A S P) (.func (.func 192) #[] #[.pointer (some ⟨w.heap.size + 1, 0, none⟩), .pointer (some ⟨w.heap.size, 0, none⟩)]) (.func (.func 193) #[] #[.pointer (some ⟨w.heap.size + 1 + 1, 0, none⟩), .pointer (some ⟨w.heap.size, 0, none⟩)]) := ⟨_, _, _, Nat.le_refl _, by omega, by omega, rfl, rfl, z0, z1, z2⟩
  clear y0 z0 y1 z1 y2 z2
  go_enter Tryz.func151, Tryz.ntmps151
  go_wp2_with fail
  exact bodyPost_ret (v := .agg #[.func (.func 192) #[] #[.pointer (some ⟨w.heap.size + 1, 0, none⟩), .pointer (some ⟨w.heap.size, 0, none⟩)], .func (.func 193) #[] #[.pointer (some ⟨w.heap.size + 1 + 1, 0, none⟩), .pointer (some ⟨w.heap.size, 0, none⟩)]]) (by simp [results, Tryz.results151, go_sem, q0, q1]) rfl ⟨⟨_, _, rfl, hR⟩, hB3⟩
set_option maxRecDepth 100000 in
set_option maxHeartbeats 1000000 in
theorem optionalField_any (A : FuncId) (w : World) :
    Calls Tryz.prog 159 #[fnV A] w fun e w' => FieldR e w' w.heap.size (.opt A) ∧ Below w.heap.size w w' := by
  unfold fnV
  have hsf := store_func
  have e0 : (w.alloc (.cells #[.func (.func A) #[] #[]] 221)).heap.size = w.heap.size + 1 := by simp
  have y0 := cell_fresh w [.func (.func A) #[] #[]] 221 0 _ rfl
  have q0 := cell_fresh (w.alloc (.cells #[.func (.func A) #[] #[]] 221)) [.func (.func 195) #[] #[.pointer (some ⟨w.heap.size, 0, none⟩)], .func (.func 196) #[] #[.pointer (some ⟨w.heap.size, 0, none⟩)]] 160 0 _ rfl
  have q1 := cell_fresh (w.alloc (.cells #[.func (.func A) #[] #[]] 221)) [.func (.func 195) #[] #[.pointer (some ⟨w.heap.size, 0, none⟩)], .func (.func 196) #[] #[.pointer (some ⟨w.heap.size, 0, none⟩)]] 160 1 _ rfl
  rw [e0] at q0 q1
  have hB0 : Below w.heap.size w (w.alloc (.cells #[.func (.func A) #[] #[]] 221)) := below_alloc _ _
  have hB1 : Below w.heap.size w ((w.alloc (.cells #[.func (.func A) #[] #[]] 221)).alloc (.cells #[.func (.func 195) #[] #[.pointer (some ⟨w.heap.size, 0, none⟩)], .func (.func 196) #[] #[.pointer (some ⟨w.heap.size, 0, none⟩)]] 160)) := b_then hB0 (below_alloc _ _)
  have z0 : ((w.alloc (.cells #[.func (.func A) #[] #[]] 221)).alloc (.cells #[.func (.func 195) #[] #[.pointer (some ⟨w.heap.size, 0, none⟩)], .func (.func 196) #[] #[.pointer (some ⟨w.heap.size, 0, none⟩)]] 160)).cell? ⟨w.heap.size, 0, none⟩ = _ := (b_old (below_alloc _ _) y0)
  have hR : FieldW ((w.alloc (.cells #[.func (.func A) #[] #[]] 221)).alloc (.cells #[.func (.func 195) #[] #[.pointer (some ⟨w.heap.size, 0, none⟩)], .func (.func 196) #[] #[.pointer (some ⟨w.heap.size, 0, none⟩)]] 160)) w.heap.size (.opt A) (.func (.func 195) #[] #[.pointer (some ⟨w.heap.size, 0, none⟩)]) (.func (.func 196) #[] #[.pointer (some ⟨w.heap.size, 0, none⟩)]) := ⟨_, Nat.le_refl _, rfl, rfl, z0⟩
  clear y0 z0
  go_enter Tryz.func159, Tryz.ntmps159
  go_wp2_with fail
  exact bodyPost_ret (v := .agg #[.func (.func 195) #[] #[.pointer (some ⟨w.heap.size, 0, none⟩)], .func (.func 196) #[] #[.pointer (some ⟨w.heap.size, 0, none⟩)]]) (by simp [results, Tryz.results159, go_sem, q0, q1]) rfl ⟨⟨_, _, rfl, hR⟩, hB1⟩
end Go.Proofs.YtphoclgibnhjfaaGreat
namespace Go.Proofs.YtphoclgibnhjfaaGreat
open Go Go.RowKit
/-- A block of n cells that the call may write. -/
structure RowV (N b n : Nat) (g : Nat → Value) (w W : World) : Prop where
  c : ∀ i, i < n → W.cell? ⟨b, i, none⟩ = some (g i)
  f : ∀ i, i < n → W.frozen? ⟨b, i, none⟩ = false
  lo : N ≤ b
  below : Below N w W
theorem RowV.more {N b n : Nat} {g : Nat → Value} {w W W' : World} (h : RowV N b n g w W) (hN : N ≤ W.heap.size) (hb : Below W.heap.size W W') : RowV N b n g w W' :=
  ⟨fun i hi => b_old hb (h.c i hi), fun i hi => b_frozen hb (h.c i hi) (h.f i hi), h.lo, h.below.trans (hb.mono hN)⟩
theorem RowV.set {N b n : Nat} {g : Nat → Value} {w W : World} (h : RowV N b n g w W) (k : Nat) (hk : k < n) (v : Value) : RowV N b n (fun i => if i = k then v else g i) w (W.setCell ⟨b, k, none⟩ v) :=
  ⟨fun i hi => by
    by_cases e : i = k
    · subst e; rw [if_pos rfl]; exact set_same (h.c i hk)
    · rw [if_neg e]; exact set_other (h.c i hi) (by intro e2; cases e2; exact e rfl), fun i hi => by rw [World.frozen?_setCell]; exact h.f i hi, h.lo, h.below.setCell (p := ⟨b, k, none⟩) h.lo v⟩
theorem RowV.new (w : World) (L : List Value) (T : TypeId) : RowV w.heap.size w.heap.size L.length (fun i => L.getD i undef) w (w.alloc (.cells L.toArray T)) :=
  have hh : (w.alloc (.cells L.toArray T)).heap[w.heap.size]? = some (.cells L.toArray T (0, 0)) := by show (w.heap.push _)[_]? = _; simp
  ⟨fun i hi => cell_fresh w L T i _ (by simp [List.getD_eq_getElem?_getD, List.getElem?_eq_getElem hi]), fun i hi => by
    unfold World.frozen?
    simp only [hh]
    simp, Nat.le_refl _, below_alloc _ _⟩
/-- A world that differs from another one in a block alone. -/
def Off (m : Nat) (w w' : World) : Prop := ∀ (a : Addr) (v : Value), a.block ≠ m → w.cell? a = some v → w'.cell? a = some v
theorem below_cells (w : World) (m o : Nat) (vs : List Value) : Below m w (w.setCells m o vs) := by
  induction vs generalizing o w with
  | nil => exact Below.refl _ _
  | cons v r ih => exact ((Below.refl m w).setCell (p := ⟨m, o, none⟩) (Nat.le_refl _) v).trans (ih _ _)
theorem Off.setCells (m o : Nat) (w : World) (vs : List Value) : Off m w (w.setCells m o vs) := fun a v ha h => by
  rw [World.cell?_setCells_out m vs o w a (fun e _ => absurd e ha)]; exact h
/-- The kinds of the fields of a line. -/
def fkAt : Nat → FK
  | 0 => .text 141 138
  | 1 => .text 142 143
  | 2 => .text 144 143
  | 3 => .text 145 146
  | 4 => .text 147 143
  | 5 => .num 149 5
  | 6 => .num 150 5
  | 7 => .code 152 153 154
  | 8 => .code 155 45 44
  | 9 => .num 156 3
  | 10 => .num 157 1
  | 11 => .num 158 2
  | 12 => .opt 160
  | _ => .opt 161
/-- The functions of the first fields. -/
structure FieldsUp (w : World) (N : Nat) (l : List (Value × Value)) : Prop where
  at_ : ∀ k, k < l.length → FieldW w N (fkAt k) (l.getD k (undef, undef)).1 (l.getD k (undef, undef)).2
theorem FieldsUp.below {w w' : World} {N : Nat} {l : List (Value × Value)} (h : FieldsUp w N l) (hb : Below w.heap.size w w') : FieldsUp w' N l := ⟨fun k hk => (h.at_ k hk).below hb⟩
theorem FieldsUp.snoc {w w' : World} {N : Nat} {l : List (Value × Value)} {s r : Value} (h : FieldsUp w N l) (hb : Below w.heap.size w w') (hf : FieldW w' N (fkAt l.length) s r) : FieldsUp w' N (l ++ [(s, r)]) :=
  ⟨fun k hk => by
    rcases Nat.lt_or_ge k l.length with h1 | h1
    · have := (h.at_ k h1).below hb
      rwa [show (l ++ [(s, r)]).getD k (undef, undef) = l.getD k (undef, undef) by simp [List.getD_eq_getElem?_getD, List.getElem?_append_left h1]]
    · obtain rfl : k = l.length := by simp at hk; omega
      rw [show (l ++ [(s, r)]).getD l.length (undef, undef) = (s, r) by simp [List.getD_eq_getElem?_getD]]
      exact hf⟩
theorem FieldW.off {w w' : World} {N m : Nat} {k : FK} {s r : Value} (h : FieldW w N k s r) (hb : Off m w w') (hm : m < N) : FieldW w' N k s r := by
  cases k with
  | text A W => obtain ⟨b, c, h1, h2, h3, h4, h5, h6⟩ := h; exact ⟨b, c, h1, h2, h3, h4, hb _ _ (by show b ≠ m; omega) h5, hb _ _ (by show c ≠ m; omega) h6⟩
  | num A k => obtain ⟨b, c, h1, h2, h3, h4, h5, h6⟩ := h; exact ⟨b, c, h1, h2, h3, h4, hb _ _ (by show b ≠ m; omega) h5, hb _ _ (by show c ≠ m; omega) h6⟩
  | code A S P => obtain ⟨b, c, d, h1, h2, h3, h4, h5, h6, h7, h8⟩ := h; exact ⟨b, c, d, h1, h2, h3, h4, h5, hb _ _ (by show b ≠ m; omega) h6, hb _ _ (by show c ≠ m; omega) h7, hb _ _ (by show d ≠ m; omega) h8⟩
  | opt A => obtain ⟨b, h1, h2, h3, h4⟩ := h; exact ⟨b, h1, h2, h3, hb _ _ (by show b ≠ m; omega) h4⟩
def pairFlat (l : List (Value × Value)) : List Value := l.flatMap fun x => [x.1, x.2]
/-- A call that has returned the table of the fields. -/
structure FieldsR (e : Ending) (w' : World) (N : Nat) : Prop where
  ex : ∃ l : List (Value × Value), l.length = 14 ∧ e = .returned (.agg (pairFlat l).toArray) ∧ FieldsUp w' N l ∧ ∀ x ∈ l, (∃ f c, x.1 = .func f #[] c) ∧ (∃ f c, x.2 = .func f #[] c)
set_option maxRecDepth 100000 in
set_option maxHeartbeats 4000000 in
theorem fields_any (w : World) : Calls Tryz.prog 94 #[] w fun e w' => FieldsR e w' w.heap.size ∧ Below w.heap.size w w' := by
  have hsf := store_func
  obtain ⟨W, HW, R0, hWs⟩ : ∃ W, Hid (w.alloc (.cells #[.nilFunc, .nilFunc, .nilFunc, .nilFunc, .nilFunc, .nilFunc, .nilFunc, .nilFunc, .nilFunc, .nilFunc, .nilFunc, .nilFunc, .nilFunc, .nilFunc, .nilFunc, .nilFunc, .nilFunc, .nilFunc, .nilFunc, .nilFunc, .nilFunc, .nilFunc, .nilFunc, .nilFunc, .nilFunc, .nilFunc, .nilFunc, .nilFunc] 161) = W) ∧ RowV w.heap.size w.heap.size 28 (fun i => (List.replicate 28 Value.nilFunc).getD i undef) w W ∧ W.heap.size = w.heap.size + 1 := ⟨_, Lib.hid rfl, RowV.new w (List.replicate 28 .nilFunc) _, by simp⟩
  have HR0 := Lib.hid R0
  have HG0 : Hid (FieldsUp W W.heap.size []) := Lib.hid ⟨fun k hk => by simp at hk⟩
  have hup : W.heap.size ≤ W.heap.size := Nat.le_refl _
  have hNW := R0.below.size
  have HS := Lib.hid hWs
  clear hWs
  clear R0
  go_enter Tryz.func94, Tryz.ntmps94
  go_wp2_with fail
  rw [HW.out]
  clear HW
  refine (textField_any 141 138 _).mono ?_
  rintro e w1 ⟨⟨_, _, rfl, b0, c0, p, q, rfl, rfl, y, z⟩, hb⟩
  have HG1 : Hid (FieldsUp w1 W.heap.size [(.func (.func 188) #[] #[.pointer (some ⟨b0, 0, none⟩)], .func (.func 189) #[] #[.pointer (some ⟨b0, 0, none⟩), .pointer (some ⟨c0, 0, none⟩)])]) := Lib.hid (HG0.out.snoc hb ⟨_, _, Nat.le_trans hup p, Nat.le_trans hup q, rfl, rfl, y, z⟩)
  have HR1 := Lib.hid (HR0.out.more (Nat.le_trans hNW hup) hb)
  replace hup := Nat.le_trans hup hb.size
  clear p q y z hb HG0 HR0
  go_wp2_with fail
  refine (textField_any 142 143 _).mono ?_
  rintro e w2 ⟨⟨_, _, rfl, b1, c1, p, q, rfl, rfl, y, z⟩, hb⟩
  have HG2 : Hid (FieldsUp w2 W.heap.size [(.func (.func 188) #[] #[.pointer (some ⟨b0, 0, none⟩)], .func (.func 189) #[] #[.pointer (some ⟨b0, 0, none⟩), .pointer (some ⟨c0, 0, none⟩)]), (.func (.func 188) #[] #[.pointer (some ⟨b1, 0, none⟩)], .func (.func 189) #[] #[.pointer (some ⟨b1, 0, none⟩), .pointer (some ⟨c1, 0, none⟩)])]) := Lib.hid (HG1.out.snoc hb ⟨_, _, Nat.le_trans hup p, Nat.le_trans hup q, rfl, rfl, y, z⟩)
  have HR2 := Lib.hid (HR1.out.more (Nat.le_trans hNW hup) hb)
  replace hup := Nat.le_trans hup hb.size
  clear p q y z hb HG1 HR1
  go_wp2_with fail
  refine (textField_any 144 143 _).mono ?_
  rintro e w3 ⟨⟨_, _, rfl, b2, c2, p, q, rfl, rfl, y, z⟩, hb⟩
  have HG3 : Hid (FieldsUp w3 W.heap.size [(.func (.func 188) #[] #[.pointer (some ⟨b0, 0, none⟩)], .func (.func 189) #[] #[.pointer (some ⟨b0, 0, none⟩), .pointer (some ⟨c0, 0, none⟩)]), (.func (.func 188) #[] #[.pointer (some ⟨b1, 0, none⟩)], .func (.func 189) #[] #[.pointer (some ⟨b1, 0, none⟩), .pointer (some ⟨c1, 0, none⟩)]), (.func (.func 188) #[] #[.pointer (some ⟨b2, 0, none⟩)], .func (.func 189) #[] #[.pointer (some ⟨b2, 0, none⟩), .pointer (some ⟨c2, 0, none⟩)])]) := Lib.hid (HG2.out.snoc hb ⟨_, _, Nat.le_trans hup p, Nat.le_trans hup q, rfl, rfl, y, z⟩)
  have HR3 := Lib.hid (HR2.out.more (Nat.le_trans hNW hup) hb)
  replace hup := Nat.le_trans hup hb.size
  clear p q y z hb HG2 HR2
  go_wp2_with fail
  refine (textField_any 145 146 _).mono ?_
  rintro e w4 ⟨⟨_, _, rfl, b3, c3, p, q, rfl, rfl, y, z⟩, hb⟩
  have HG4 : Hid (FieldsUp w4 W.heap.size [(.func (.func 188) #[] #[.pointer (some ⟨b0, 0, none⟩)], .func (.func 189) #[] #[.pointer (some ⟨b0, 0, none⟩), .pointer (some ⟨c0, 0, none⟩)]), (.func (.func 188) #[] #[.pointer (some ⟨b1, 0, none⟩)], .func (.func 189) #[] #[.pointer (some ⟨b1, 0, none⟩), .pointer (some ⟨c1, 0, none⟩)]), (.func (.func 188) #[] #[.pointer (some ⟨b2, 0, none⟩)], .func (.func 189) #[] #[.pointer (some ⟨b2, 0, none⟩), .pointer (some ⟨c2, 0, none⟩)]), (.func (.func 188) #[] #[.pointer (some ⟨b3, 0, none⟩)], .func (.func 189) #[] #[.pointer (some ⟨b3, 0, none⟩), .pointer (some ⟨c3, 0, none⟩)])]) := Lib.hid (HG3.out.snoc hb ⟨_, _, Nat.le_trans hup p, Nat.le_trans hup q, rfl, rfl, y, z⟩)
  have HR4 := Lib.hid (HR3.out.more (Nat.le_trans hNW hup) hb)
  replace hup := Nat.le_trans hup hb.size
  clear p q y z hb HG3 HR3
  go_wp2_with fail
  refine (textField_any 147 143 _).mono ?_
  rintro e w5 ⟨⟨_, _, rfl, b4, c4, p, q, rfl, rfl, y, z⟩, hb⟩
  have HG5 : Hid (FieldsUp w5 W.heap.size [(.func (.func 188) #[] #[.pointer (some ⟨b0, 0, none⟩)], .func (.func 189) #[] #[.pointer (some ⟨b0, 0, none⟩), .pointer (some ⟨c0, 0, none⟩)]), (.func (.func 188) #[] #[.pointer (some ⟨b1, 0, none⟩)], .func (.func 189) #[] #[.pointer (some ⟨b1, 0, none⟩), .pointer (some ⟨c1, 0, none⟩)]), (.func (.func 188) #[] #[.pointer (some ⟨b2, 0, none⟩)], .func (.func 189) #[] #[.pointer (some ⟨b2, 0, none⟩), .pointer (some ⟨c2, 0, none⟩)]), (.func (.func 188) #[] #[.pointer (some ⟨b3, 0, none⟩)], .func (.func 189) #[] #[.pointer (some ⟨b3, 0, none⟩), .pointer (some ⟨c3, 0, none⟩)]), (.func (.func 188) #[] #[.pointer (some ⟨b4, 0, none⟩)], .func (.func 189) #[] #[.pointer (some ⟨b4, 0, none⟩), .pointer (some ⟨c4, 0, none⟩)])]) := Lib.hid (HG4.out.snoc hb ⟨_, _, Nat.le_trans hup p, Nat.le_trans hup q, rfl, rfl, y, z⟩)
  have HR5 := Lib.hid (HR4.out.more (Nat.le_trans hNW hup) hb)
  replace hup := Nat.le_trans hup hb.size
  clear p q y z hb HG4 HR4
  go_wp2_with fail
  refine (numberField_any 149 5 _).mono ?_
  rintro e w6 ⟨⟨_, _, rfl, b5, c5, p, q, rfl, rfl, y, z⟩, hb⟩
  have HG6 : Hid (FieldsUp w6 W.heap.size [(.func (.func 188) #[] #[.pointer (some ⟨b0, 0, none⟩)], .func (.func 189) #[] #[.pointer (some ⟨b0, 0, none⟩), .pointer (some ⟨c0, 0, none⟩)]), (.func (.func 188) #[] #[.pointer (some ⟨b1, 0, none⟩)], .func (.func 189) #[] #[.pointer (some ⟨b1, 0, none⟩), .pointer (some ⟨c1, 0, none⟩)]), (.func (.func 188) #[] #[.pointer (some ⟨b2, 0, none⟩)], .func (.func 189) #[] #[.pointer (some ⟨b2, 0, none⟩), .pointer (some ⟨c2, 0, none⟩)]), (.func (.func 188) #[] #[.pointer (some ⟨b3, 0, none⟩)], .func (.func 189) #[] #[.pointer (some ⟨b3, 0, none⟩), .pointer (some ⟨c3, 0, none⟩)]), (.func (.func 188) #[] #[.pointer (some ⟨b4, 0, none⟩)], .func (.func 189) #[] #[.pointer (some ⟨b4, 0, none⟩), .pointer (some ⟨c4, 0, none⟩)]), (.func (.func 190) #[] #[.pointer (some ⟨b5, 0, none⟩), .pointer (some ⟨c5, 0, none⟩)], .func (.func 191) #[] #[.pointer (some ⟨c5, 0, none⟩), .pointer (some ⟨b5, 0, none⟩)])]) := Lib.hid (HG5.out.snoc hb ⟨_, _, Nat.le_trans hup p, Nat.le_trans hup q, rfl, rfl, y, z⟩)
  have HR6 := Lib.hid (HR5.out.more (Nat.le_trans hNW hup) hb)
  replace hup := Nat.le_trans hup hb.size
  clear p q y z hb HG5 HR5
  go_wp2_with fail
  refine (numberField_any 150 5 _).mono ?_
  rintro e w7 ⟨⟨_, _, rfl, b6, c6, p, q, rfl, rfl, y, z⟩, hb⟩
  have HG7 : Hid (FieldsUp w7 W.heap.size [(.func (.func 188) #[] #[.pointer (some ⟨b0, 0, none⟩)], .func (.func 189) #[] #[.pointer (some ⟨b0, 0, none⟩), .pointer (some ⟨c0, 0, none⟩)]), (.func (.func 188) #[] #[.pointer (some ⟨b1, 0, none⟩)], .func (.func 189) #[] #[.pointer (some ⟨b1, 0, none⟩), .pointer (some ⟨c1, 0, none⟩)]), (.func (.func 188) #[] #[.pointer (some ⟨b2, 0, none⟩)], .func (.func 189) #[] #[.pointer (some ⟨b2, 0, none⟩), .pointer (some ⟨c2, 0, none⟩)]), (.func (.func 188) #[] #[.pointer (some ⟨b3, 0, none⟩)], .func (.func 189) #[] #[.pointer (some ⟨b3, 0, none⟩), .pointer (some ⟨c3, 0, none⟩)]), (.func (.func 188) #[] #[.pointer (some ⟨b4, 0, none⟩)], .func (.func 189) #[] #[.pointer (some ⟨b4, 0, none⟩), .pointer (some ⟨c4, 0, none⟩)]), (.func (.func 190) #[] #[.pointer (some ⟨b5, 0, none⟩), .pointer (some ⟨c5, 0, none⟩)], .func (.func 191) #[] #[.pointer (some ⟨c5, 0, none⟩), .pointer (some ⟨b5, 0, none⟩)]), (.func (.func 190) #[] #[.pointer (some ⟨b6, 0, none⟩), .pointer (some ⟨c6, 0, none⟩)], .func (.func 191) #[] #[.pointer (some ⟨c6, 0, none⟩), .pointer (some ⟨b6, 0, none⟩)])]) := Lib.hid (HG6.out.snoc hb ⟨_, _, Nat.le_trans hup p, Nat.le_trans hup q, rfl, rfl, y, z⟩)
  have HR7 := Lib.hid (HR6.out.more (Nat.le_trans hNW hup) hb)
  replace hup := Nat.le_trans hup hb.size
  clear p q y z hb HG6 HR6
  go_wp2_with fail
  refine (codeField_any 152 153 154 _).mono ?_
  rintro e w8 ⟨⟨_, _, rfl, b7, c7, d7, p, q, q2, rfl, rfl, y, z, z2⟩, hb⟩
  have HG8 : Hid (FieldsUp w8 W.heap.size [(.func (.func 188) #[] #[.pointer (some ⟨b0, 0, none⟩)], .func (.func 189) #[] #[.pointer (some ⟨b0, 0, none⟩), .pointer (some ⟨c0, 0, none⟩)]), (.func (.func 188) #[] #[.pointer (some ⟨b1, 0, none⟩)], .func (.func 189) #[] #[.pointer (some ⟨b1, 0, none⟩), .pointer (some ⟨c1, 0, none⟩)]), (.func (.func 188) #[] #[.pointer (some ⟨b2, 0, none⟩)], .func (.func 189) #[] #[.pointer (some ⟨b2, 0, none⟩), .pointer (some ⟨c2, 0, none⟩)]), (.func (.func 188) #[] #[.pointer (some ⟨b3, 0, none⟩)], .func (.func 189) #[] #[.pointer (some ⟨b3, 0, none⟩), .pointer (some ⟨c3, 0, none⟩)]), (.func (.func 188) #[] #[.pointer (some ⟨b4, 0, none⟩)], .func (.func 189) #[] #[.pointer (some ⟨b4, 0, none⟩), .pointer (some ⟨c4, 0, none⟩)]), (.func (.func 190) #[] #[.pointer (some ⟨b5, 0, none⟩), .pointer (some ⟨c5, 0, none⟩)], .func (.func 191) #[] #[.pointer (some ⟨c5, 0, none⟩), .pointer (some ⟨b5, 0, none⟩)]), (.func (.func 190) #[] #[.pointer (some ⟨b6, 0, none⟩), .pointer (some ⟨c6, 0, none⟩)], .func (.func 191) #[] #[.pointer (some ⟨c6, 0, none⟩), .pointer (some ⟨b6, 0, none⟩)]), (.func (.func 192) #[] #[.pointer (some ⟨c7, 0, none⟩), .pointer (some ⟨b7, 0, none⟩)], .func (.func 193) #[] #[.pointer (some ⟨d7, 0, none⟩), .pointer (some ⟨b7, 0, none⟩)])]) := Lib.hid (HG7.out.snoc hb ⟨_, _, _, Nat.le_trans hup p, Nat.le_trans hup q, Nat.le_trans hup q2, rfl, rfl, y, z, z2⟩)
  have HR8 := Lib.hid (HR7.out.more (Nat.le_trans hNW hup) hb)
  replace hup := Nat.le_trans hup hb.size
  clear p q q2 y z z2 hb HG7 HR7
  go_wp2_with fail
  refine (codeField_any 155 45 44 _).mono ?_
  rintro e w9 ⟨⟨_, _, rfl, b8, c8, d8, p, q, q2, rfl, rfl, y, z, z2⟩, hb⟩
  have HG9 : Hid (FieldsUp w9 W.heap.size [(.func (.func 188) #[] #[.pointer (some ⟨b0, 0, none⟩)], .func (.func 189) #[] #[.pointer (some ⟨b0, 0, none⟩), .pointer (some ⟨c0, 0, none⟩)]), (.func (.func 188) #[] #[.pointer (some ⟨b1, 0, none⟩)], .func (.func 189) #[] #[.pointer (some ⟨b1, 0, none⟩), .pointer (some ⟨c1, 0, none⟩)]), (.func (.func 188) #[] #[.pointer (some ⟨b2, 0, none⟩)], .func (.func 189) #[] #[.pointer (some ⟨b2, 0, none⟩), .pointer (some ⟨c2, 0, none⟩)]), (.func (.func 188) #[] #[.pointer (some ⟨b3, 0, none⟩)], .func (.func 189) #[] #[.pointer (some ⟨b3, 0, none⟩), .pointer (some ⟨c3, 0, none⟩)]), (.func (.func 188) #[] #[.pointer (some ⟨b4, 0, none⟩)], .func (.func 189) #[] #[.pointer (some ⟨b4, 0, none⟩), .pointer (some ⟨c4, 0, none⟩)]), (.func (.func 190) #[] #[.pointer (some ⟨b5, 0, none⟩), .pointer (some ⟨c5, 0, none⟩)], .func (.func 191) #[] #[.pointer (some ⟨c5, 0, none⟩), .pointer (some ⟨b5, 0, none⟩)]), (.func (.func 190) #[] #[.pointer (some ⟨b6, 0, none⟩), .pointer (some ⟨c6, 0, none⟩)], .func (.func 191) #[] #[.pointer (some ⟨c6, 0, none⟩), .pointer (some ⟨b6, 0, none⟩)]), (.func (.func 192) #[] #[.pointer (some ⟨c7, 0, none⟩), .pointer (some ⟨b7, 0, none⟩)], .func (.func 193) #[] #[.pointer (some ⟨d7, 0, none⟩), .pointer (some ⟨b7, 0, none⟩)]), (.func (.func 192) #[] #[.pointer (some ⟨c8, 0, none⟩), .pointer (some ⟨b8, 0, none⟩)], .func (.func 193) #[] #[.pointer (some ⟨d8, 0, none⟩), .pointer (some ⟨b8, 0, none⟩)])]) := Lib.hid (HG8.out.snoc hb ⟨_, _, _, Nat.le_trans hup p, Nat.le_trans hup q, Nat.le_trans hup q2, rfl, rfl, y, z, z2⟩)
  have HR9 := Lib.hid (HR8.out.more (Nat.le_trans hNW hup) hb)
  replace hup := Nat.le_trans hup hb.size
  clear p q q2 y z z2 hb HG8 HR8
  go_wp2_with fail
  refine (numberField_any 156 3 _).mono ?_
  rintro e w10 ⟨⟨_, _, rfl, b9, c9, p, q, rfl, rfl, y, z⟩, hb⟩
  have HG10 : Hid (FieldsUp w10 W.heap.size [(.func (.func 188) #[] #[.pointer (some ⟨b0, 0, none⟩)], .func (.func 189) #[] #[.pointer (some ⟨b0, 0, none⟩), .pointer (some ⟨c0, 0, none⟩)]), (.func (.func 188) #[] #[.pointer (some ⟨b1, 0, none⟩)], .func (.func 189) #[] #[.pointer (some ⟨b1, 0, none⟩), .pointer (some ⟨c1, 0, none⟩)]), (.func (.func 188) #[] #[.pointer (some ⟨b2, 0, none⟩)], .func (.func 189) #[] #[.pointer (some ⟨b2, 0, none⟩), .pointer (some ⟨c2, 0, none⟩)]), (.func (.func 188) #[] #[.pointer (some ⟨b3, 0, none⟩)], .func (.func 189) #[] #[.pointer (some ⟨b3, 0, none⟩), .pointer (some ⟨c3, 0, none⟩)]), (.func (.func 188) #[] #[.pointer (some ⟨b4, 0, none⟩)], .func (.func 189) #[] #[.pointer (some ⟨b4, 0, none⟩), .pointer (some ⟨c4, 0, none⟩)]), (.func (.func 190) #[] #[.pointer (some ⟨b5, 0, none⟩), .pointer (some ⟨c5, 0, none⟩)], .func (.func 191) #[] #[.pointer (some ⟨c5, 0, none⟩), .pointer (some ⟨b5, 0, none⟩)]), (.func (.func 190) #[] #[.pointer (some ⟨b6, 0, none⟩), .pointer (some ⟨c6, 0, none⟩)], .func (.func 191) #[] #[.pointer (some ⟨c6, 0, none⟩), .pointer (some ⟨b6, 0, none⟩)]), (.func (.func 192) #[] #[.pointer (some ⟨c7, 0, none⟩), .pointer (some ⟨b7, 0, none⟩)], .func (.func 193) #[] #[.pointer (some ⟨d7, 0, none⟩), .pointer (some ⟨b7, 0, none⟩)]), (.func (.func 192) #[] #[.pointer (some ⟨c8, 0, none⟩), .pointer (some ⟨b8, 0, none⟩)], .func (.func 193) #[] #[.pointer (some ⟨d8, 0, none⟩), .pointer (some ⟨b8, 0, none⟩)]), (.func (.func 190) #[] #[.pointer (some ⟨b9, 0, none⟩), .pointer (some ⟨c9, 0, none⟩)], .func (.func 191) #[] #[.pointer (some ⟨c9, 0, none⟩), .pointer (some ⟨b9, 0, none⟩)])]) := Lib.hid (HG9.out.snoc hb ⟨_, _, Nat.le_trans hup p, Nat.le_trans hup q, rfl, rfl, y, z⟩)
  have HR10 := Lib.hid (HR9.out.more (Nat.le_trans hNW hup) hb)
  replace hup := Nat.le_trans hup hb.size
  clear p q y z hb HG9 HR9
  go_wp2_with fail
  refine (numberField_any 157 1 _).mono ?_
  rintro e w11 ⟨⟨_, _, rfl, b10, c10, p, q, rfl, rfl, y, z⟩, hb⟩
  have HG11 : Hid (FieldsUp w11 W.heap.size [(.func (.func 188) #[] #[.pointer (some ⟨b0, 0, none⟩)], .func (.func 189) #[] #[.pointer (some ⟨b0, 0, none⟩), .pointer (some ⟨c0, 0, none⟩)]), (.func (.func 188) #[] #[.pointer (some ⟨b1, 0, none⟩)], .func (.func 189) #[] #[.pointer (some ⟨b1, 0, none⟩), .pointer (some ⟨c1, 0, none⟩)]), (.func (.func 188) #[] #[.pointer (some ⟨b2, 0, none⟩)], .func (.func 189) #[] #[.pointer (some ⟨b2, 0, none⟩), .pointer (some ⟨c2, 0, none⟩)]), (.func (.func 188) #[] #[.pointer (some ⟨b3, 0, none⟩)], .func (.func 189) #[] #[.pointer (some ⟨b3, 0, none⟩), .pointer (some ⟨c3, 0, none⟩)]), (.func (.func 188) #[] #[.pointer (some ⟨b4, 0, none⟩)], .func (.func 189) #[] #[.pointer (some ⟨b4, 0, none⟩), .pointer (some ⟨c4, 0, none⟩)]), (.func (.func 190) #[] #[.pointer (some ⟨b5, 0, none⟩), .pointer (some ⟨c5, 0, none⟩)], .func (.func 191) #[] #[.pointer (some ⟨c5, 0, none⟩), .pointer (some ⟨b5, 0, none⟩)]), (.func (.func 190) #[] #[.pointer (some ⟨b6, 0, none⟩), .pointer (some ⟨c6, 0, none⟩)], .func (.func 191) #[] #[.pointer (some ⟨c6, 0, none⟩), .pointer (some ⟨b6, 0, none⟩)]), (.func (.func 192) #[] #[.pointer (some ⟨c7, 0, none⟩), .pointer (some ⟨b7, 0, none⟩)], .func (.func 193) #[] #[.pointer (some ⟨d7, 0, none⟩), .pointer (some ⟨b7, 0, none⟩)]), (.func (.func 192) #[] #[.pointer (some ⟨c8, 0, none⟩), .pointer (some ⟨b8, 0, none⟩)], .func (.func 193) #[] #[.pointer (some ⟨d8, 0, none⟩), .pointer (some ⟨b8, 0, none⟩)]), (.func (.func 190) #[] #[.pointer (some ⟨b9, 0, none⟩), .pointer (some ⟨c9, 0, none⟩)], .func (.func 191) #[] #[.pointer (some ⟨c9, 0, none⟩), .pointer (some ⟨b9, 0, none⟩)]), (.func (.func 190) #[] #[.pointer (some ⟨b10, 0, none⟩), .pointer (some ⟨c10, 0, none⟩)], .func (.func 191) #[] #[.pointer (some ⟨c10, 0, none⟩), .pointer (some ⟨b10, 0, none⟩)])]) := Lib.hid (HG10.out.snoc hb ⟨_, _, Nat.le_trans hup p, Nat.le_trans hup q, rfl, rfl, y, z⟩)
  have HR11 := Lib.hid (HR10.out.more (Nat.le_trans hNW hup) hb)
  replace hup := Nat.le_trans hup hb.size
  clear p q y z hb HG10 HR10
  go_wp2_with fail
  refine (numberField_any 158 2 _).mono ?_
  rintro e w12 ⟨⟨_, _, rfl, b11, c11, p, q, rfl, rfl, y, z⟩, hb⟩
  have HG12 : Hid (FieldsUp w12 W.heap.size [(.func (.func 188) #[] #[.pointer (some ⟨b0, 0, none⟩)], .func (.func 189) #[] #[.pointer (some ⟨b0, 0, none⟩), .pointer (some ⟨c0, 0, none⟩)]), (.func (.func 188) #[] #[.pointer (some ⟨b1, 0, none⟩)], .func (.func 189) #[] #[.pointer (some ⟨b1, 0, none⟩), .pointer (some ⟨c1, 0, none⟩)]), (.func (.func 188) #[] #[.pointer (some ⟨b2, 0, none⟩)], .func (.func 189) #[] #[.pointer (some ⟨b2, 0, none⟩), .pointer (some ⟨c2, 0, none⟩)]), (.func (.func 188) #[] #[.pointer (some ⟨b3, 0, none⟩)], .func (.func 189) #[] #[.pointer (some ⟨b3, 0, none⟩), .pointer (some ⟨c3, 0, none⟩)]), (.func (.func 188) #[] #[.pointer (some ⟨b4, 0, none⟩)], .func (.func 189) #[] #[.pointer (some ⟨b4, 0, none⟩), .pointer (some ⟨c4, 0, none⟩)]), (.func (.func 190) #[] #[.pointer (some ⟨b5, 0, none⟩), .pointer (some ⟨c5, 0, none⟩)], .func (.func 191) #[] #[.pointer (some ⟨c5, 0, none⟩), .pointer (some ⟨b5, 0, none⟩)]), (.func (.func 190) #[] #[.pointer (some ⟨b6, 0, none⟩), .pointer (some ⟨c6, 0, none⟩)], .func (.func 191) #[] #[.pointer (some ⟨c6, 0, none⟩), .pointer (some ⟨b6, 0, none⟩)]), (.func (.func 192) #[] #[.pointer (some ⟨c7, 0, none⟩), .pointer (some ⟨b7, 0, none⟩)], .func (.func 193) #[] #[.pointer (some ⟨d7, 0, none⟩), .pointer (some ⟨b7, 0, none⟩)]), (.func (.func 192) #[] #[.pointer (some ⟨c8, 0, none⟩), .pointer (some ⟨b8, 0, none⟩)], .func (.func 193) #[] #[.pointer (some ⟨d8, 0, none⟩), .pointer (some ⟨b8, 0, none⟩)]), (.func (.func 190) #[] #[.pointer (some ⟨b9, 0, none⟩), .pointer (some ⟨c9, 0, none⟩)], .func (.func 191) #[] #[.pointer (some ⟨c9, 0, none⟩), .pointer (some ⟨b9, 0, none⟩)]), (.func (.func 190) #[] #[.pointer (some ⟨b10, 0, none⟩), .pointer (some ⟨c10, 0, none⟩)], .func (.func 191) #[] #[.pointer (some ⟨c10, 0, none⟩), .pointer (some ⟨b10, 0, none⟩)]), (.func (.func 190) #[] #[.pointer (some ⟨b11, 0, none⟩), .pointer (some ⟨c11, 0, none⟩)], .func (.func 191) #[] #[.pointer (some ⟨c11, 0, none⟩), .pointer (some ⟨b11, 0, none⟩)])]) := Lib.hid (HG11.out.snoc hb ⟨_, _, Nat.le_trans hup p, Nat.le_trans hup q, rfl, rfl, y, z⟩)
  have HR12 := Lib.hid (HR11.out.more (Nat.le_trans hNW hup) hb)
  replace hup := Nat.le_trans hup hb.size
  clear p q y z hb HG11 HR11
  go_wp2_with fail
  refine (optionalField_any 160 _).mono ?_
  rintro e w13 ⟨⟨_, _, rfl, b12, p, rfl, rfl, y⟩, hb⟩
  have HG13 : Hid (FieldsUp w13 W.heap.size [(.func (.func 188) #[] #[.pointer (some ⟨b0, 0, none⟩)], .func (.func 189) #[] #[.pointer (some ⟨b0, 0, none⟩), .pointer (some ⟨c0, 0, none⟩)]), (.func (.func 188) #[] #[.pointer (some ⟨b1, 0, none⟩)], .func (.func 189) #[] #[.pointer (some ⟨b1, 0, none⟩), .pointer (some ⟨c1, 0, none⟩)]), (.func (.func 188) #[] #[.pointer (some ⟨b2, 0, none⟩)], .func (.func 189) #[] #[.pointer (some ⟨b2, 0, none⟩), .pointer (some ⟨c2, 0, none⟩)]), (.func (.func 188) #[] #[.pointer (some ⟨b3, 0, none⟩)], .func (.func 189) #[] #[.pointer (some ⟨b3, 0, none⟩), .pointer (some ⟨c3, 0, none⟩)]), (.func (.func 188) #[] #[.pointer (some ⟨b4, 0, none⟩)], .func (.func 189) #[] #[.pointer (some ⟨b4, 0, none⟩), .pointer (some ⟨c4, 0, none⟩)]), (.func (.func 190) #[] #[.pointer (some ⟨b5, 0, none⟩), .pointer (some ⟨c5, 0, none⟩)], .func (.func 191) #[] #[.pointer (some ⟨c5, 0, none⟩), .pointer (some ⟨b5, 0, none⟩)]), (.func (.func 190) #[] #[.pointer (some ⟨b6, 0, none⟩), .pointer (some ⟨c6, 0, none⟩)], .func (.func 191) #[] #[.pointer (some ⟨c6, 0, none⟩), .pointer (some ⟨b6, 0, none⟩)]), (.func (.func 192) #[] #[.pointer (some ⟨c7, 0, none⟩), .pointer (some ⟨b7, 0, none⟩)], .func (.func 193) #[] #[.pointer (some ⟨d7, 0, none⟩), .pointer (some ⟨b7, 0, none⟩)]), (.func (.func 192) #[] #[.pointer (some ⟨c8, 0, none⟩), .pointer (some ⟨b8, 0, none⟩)], .func (.func 193) #[] #[.pointer (some ⟨d8, 0, none⟩), .pointer (some ⟨b8, 0, none⟩)]), (.func (.func 190) #[] #[.pointer (some ⟨b9, 0, none⟩), .pointer (some ⟨c9, 0, none⟩)], .func (.func 191) #[] #[.pointer (some ⟨c9, 0, none⟩), .pointer (some ⟨b9, 0, none⟩)]), (.func (.func 190) #[] #[.pointer (some ⟨b10, 0, none⟩), .pointer (some ⟨c10, 0, none⟩)], .func (.func 191) #[] #[.pointer (some ⟨c10, 0, none⟩), .pointer (some ⟨b10, 0, none⟩)]), (.func (.func 190) #[] #[.pointer (some ⟨b11, 0, none⟩), .pointer (some ⟨c11, 0, none⟩)], .func (.func 191) #[] #[.pointer (some ⟨c11, 0, none⟩), .pointer (some ⟨b11, 0, none⟩)]), (.func (.func 195) #[] #[.pointer (some ⟨b12, 0, none⟩)], .func (.func 196) #[] #[.pointer (some ⟨b12, 0, none⟩)])]) := Lib.hid (HG12.out.snoc hb ⟨_, Nat.le_trans hup p, rfl, rfl, y⟩)
  have HR13 := Lib.hid (HR12.out.more (Nat.le_trans hNW hup) hb)
  replace hup := Nat.le_trans hup hb.size
  clear p y hb HG12 HR12
  go_wp2_with fail
  refine (optionalField_any 161 _).mono ?_
  rintro e w14 ⟨⟨_, _, rfl, b13, p, rfl, rfl, y⟩, hb⟩
  have HG14 : Hid (FieldsUp w14 W.heap.size [(.func (.func 188) #[] #[.pointer (some ⟨b0, 0, none⟩)], .func (.func 189) #[] #[.pointer (some ⟨b0, 0, none⟩), .pointer (some ⟨c0, 0, none⟩)]), (.func (.func 188) #[] #[.pointer (some ⟨b1, 0, none⟩)], .func (.func 189) #[] #[.pointer (some ⟨b1, 0, none⟩), .pointer (some ⟨c1, 0, none⟩)]), (.func (.func 188) #[] #[.pointer (some ⟨b2, 0, none⟩)], .func (.func 189) #[] #[.pointer (some ⟨b2, 0, none⟩), .pointer (some ⟨c2, 0, none⟩)]), (.func (.func 188) #[] #[.pointer (some ⟨b3, 0, none⟩)], .func (.func 189) #[] #[.pointer (some ⟨b3, 0, none⟩), .pointer (some ⟨c3, 0, none⟩)]), (.func (.func 188) #[] #[.pointer (some ⟨b4, 0, none⟩)], .func (.func 189) #[] #[.pointer (some ⟨b4, 0, none⟩), .pointer (some ⟨c4, 0, none⟩)]), (.func (.func 190) #[] #[.pointer (some ⟨b5, 0, none⟩), .pointer (some ⟨c5, 0, none⟩)], .func (.func 191) #[] #[.pointer (some ⟨c5, 0, none⟩), .pointer (some ⟨b5, 0, none⟩)]), (.func (.func 190) #[] #[.pointer (some ⟨b6, 0, none⟩), .pointer (some ⟨c6, 0, none⟩)], .func (.func 191) #[] #[.pointer (some ⟨c6, 0, none⟩), .pointer (some ⟨b6, 0, none⟩)]), (.func (.func 192) #[] #[.pointer (some ⟨c7, 0, none⟩), .pointer (some ⟨b7, 0, none⟩)], .func (.func 193) #[] #[.pointer (some ⟨d7, 0, none⟩), .pointer (some ⟨b7, 0, none⟩)]), (.func (.func 192) #[] #[.pointer (some ⟨c8, 0, none⟩), .pointer (some ⟨b8, 0, none⟩)], .func (.func 193) #[] #[.pointer (some ⟨d8, 0, none⟩), .pointer (some ⟨b8, 0, none⟩)]), (.func (.func 190) #[] #[.pointer (some ⟨b9, 0, none⟩), .pointer (some ⟨c9, 0, none⟩)], .func (.func 191) #[] #[.pointer (some ⟨c9, 0, none⟩), .pointer (some ⟨b9, 0, none⟩)]), (.func (.func 190) #[] #[.pointer (some ⟨b10, 0, none⟩), .pointer (some ⟨c10, 0, none⟩)], .func (.func 191) #[] #[.pointer (some ⟨c10, 0, none⟩), .pointer (some ⟨b10, 0, none⟩)]), (.func (.func 190) #[] #[.pointer (some ⟨b11, 0, none⟩), .pointer (some ⟨c11, 0, none⟩)], .func (.func 191) #[] #[.pointer (some ⟨c11, 0, none⟩), .pointer (some ⟨b11, 0, none⟩)]), (.func (.func 195) #[] #[.pointer (some ⟨b12, 0, none⟩)], .func (.func 196) #[] #[.pointer (some ⟨b12, 0, none⟩)]), (.func (.func 195) #[] #[.pointer (some ⟨b13, 0, none⟩)], .func (.func 196) #[] #[.pointer (some ⟨b13, 0, none⟩)])]) := Lib.hid (HG13.out.snoc hb ⟨_, Nat.le_trans hup p, rfl, rfl, y⟩)
  have HR14 := Lib.hid (HR13.out.more (Nat.le_trans hNW hup) hb)
  replace hup := Nat.le_trans hup hb.size
  clear p y hb HG13 HR13
  have hth : w14.there w.heap.size 0 28 := fun j hj => ⟨by rw [Nat.zero_add, HR14.out.c j hj]; rfl, by rw [Nat.zero_add]; exact HR14.out.f j hj⟩
  have HBS : Hid (Below w.heap.size w w14) := Lib.hid HR14.out.below
  have HO1 : Hid ((#[.func (.func 188) #[] #[.pointer (some ⟨b0, 0, none⟩)], .func (.func 189) #[] #[.pointer (some ⟨b0, 0, none⟩), .pointer (some ⟨c0, 0, none⟩)], .func (.func 188) #[] #[.pointer (some ⟨b1, 0, none⟩)], .func (.func 189) #[] #[.pointer (some ⟨b1, 0, none⟩), .pointer (some ⟨c1, 0, none⟩)], .func (.func 188) #[] #[.pointer (some ⟨b2, 0, none⟩)], .func (.func 189) #[] #[.pointer (some ⟨b2, 0, none⟩), .pointer (some ⟨c2, 0, none⟩)], .func (.func 188) #[] #[.pointer (some ⟨b3, 0, none⟩)], .func (.func 189) #[] #[.pointer (some ⟨b3, 0, none⟩), .pointer (some ⟨c3, 0, none⟩)], .func (.func 188) #[] #[.pointer (some ⟨b4, 0, none⟩)], .func (.func 189) #[] #[.pointer (some ⟨b4, 0, none⟩), .pointer (some ⟨c4, 0, none⟩)], .func (.func 190) #[] #[.pointer (some ⟨b5, 0, none⟩), .pointer (some ⟨c5, 0, none⟩)], .func (.func 191) #[] #[.pointer (some ⟨c5, 0, none⟩), .pointer (some ⟨b5, 0, none⟩)], .func (.func 190) #[] #[.pointer (some ⟨b6, 0, none⟩), .pointer (some ⟨c6, 0, none⟩)], .func (.func 191) #[] #[.pointer (some ⟨c6, 0, none⟩), .pointer (some ⟨b6, 0, none⟩)], .func (.func 192) #[] #[.pointer (some ⟨c7, 0, none⟩), .pointer (some ⟨b7, 0, none⟩)], .func (.func 193) #[] #[.pointer (some ⟨d7, 0, none⟩), .pointer (some ⟨b7, 0, none⟩)], .func (.func 192) #[] #[.pointer (some ⟨c8, 0, none⟩), .pointer (some ⟨b8, 0, none⟩)], .func (.func 193) #[] #[.pointer (some ⟨d8, 0, none⟩), .pointer (some ⟨b8, 0, none⟩)], .func (.func 190) #[] #[.pointer (some ⟨b9, 0, none⟩), .pointer (some ⟨c9, 0, none⟩)], .func (.func 191) #[] #[.pointer (some ⟨c9, 0, none⟩), .pointer (some ⟨b9, 0, none⟩)], .func (.func 190) #[] #[.pointer (some ⟨b10, 0, none⟩), .pointer (some ⟨c10, 0, none⟩)], .func (.func 191) #[] #[.pointer (some ⟨c10, 0, none⟩), .pointer (some ⟨b10, 0, none⟩)], .func (.func 190) #[] #[.pointer (some ⟨b11, 0, none⟩), .pointer (some ⟨c11, 0, none⟩)], .func (.func 191) #[] #[.pointer (some ⟨c11, 0, none⟩), .pointer (some ⟨b11, 0, none⟩)], .func (.func 195) #[] #[.pointer (some ⟨b12, 0, none⟩)], .func (.func 196) #[] #[.pointer (some ⟨b12, 0, none⟩)], .func (.func 195) #[] #[.pointer (some ⟨b13, 0, none⟩)], .func (.func 196) #[] #[.pointer (some ⟨b13, 0, none⟩)]] : Array Value).all (·.oneCell') = true) := Lib.hid (by simp [Value.oneCell'])
  have HTH := Lib.hid hth
  clear hth
  go_wp2_with (refine wpList_store_mid rfl 161 _ _ rfl w.heap.size 0 #[.func (.func 188) #[] #[.pointer (some ⟨b0, 0, none⟩)], .func (.func 189) #[] #[.pointer (some ⟨b0, 0, none⟩), .pointer (some ⟨c0, 0, none⟩)], .func (.func 188) #[] #[.pointer (some ⟨b1, 0, none⟩)], .func (.func 189) #[] #[.pointer (some ⟨b1, 0, none⟩), .pointer (some ⟨c1, 0, none⟩)], .func (.func 188) #[] #[.pointer (some ⟨b2, 0, none⟩)], .func (.func 189) #[] #[.pointer (some ⟨b2, 0, none⟩), .pointer (some ⟨c2, 0, none⟩)], .func (.func 188) #[] #[.pointer (some ⟨b3, 0, none⟩)], .func (.func 189) #[] #[.pointer (some ⟨b3, 0, none⟩), .pointer (some ⟨c3, 0, none⟩)], .func (.func 188) #[] #[.pointer (some ⟨b4, 0, none⟩)], .func (.func 189) #[] #[.pointer (some ⟨b4, 0, none⟩), .pointer (some ⟨c4, 0, none⟩)], .func (.func 190) #[] #[.pointer (some ⟨b5, 0, none⟩), .pointer (some ⟨c5, 0, none⟩)], .func (.func 191) #[] #[.pointer (some ⟨c5, 0, none⟩), .pointer (some ⟨b5, 0, none⟩)], .func (.func 190) #[] #[.pointer (some ⟨b6, 0, none⟩), .pointer (some ⟨c6, 0, none⟩)], .func (.func 191) #[] #[.pointer (some ⟨c6, 0, none⟩), .pointer (some ⟨b6, 0, none⟩)], .func (.func 192) #[] #[.pointer (some ⟨c7, 0, none⟩), .pointer (some ⟨b7, 0, none⟩)], .func (.func 193) #[] #[.pointer (some ⟨d7, 0, none⟩), .pointer (some ⟨b7, 0, none⟩)], .func (.func 192) #[] #[.pointer (some ⟨c8, 0, none⟩), .pointer (some ⟨b8, 0, none⟩)], .func (.func 193) #[] #[.pointer (some ⟨d8, 0, none⟩), .pointer (some ⟨b8, 0, none⟩)], .func (.func 190) #[] #[.pointer (some ⟨b9, 0, none⟩), .pointer (some ⟨c9, 0, none⟩)], .func (.func 191) #[] #[.pointer (some ⟨c9, 0, none⟩), .pointer (some ⟨b9, 0, none⟩)], .func (.func 190) #[] #[.pointer (some ⟨b10, 0, none⟩), .pointer (some ⟨c10, 0, none⟩)], .func (.func 191) #[] #[.pointer (some ⟨c10, 0, none⟩), .pointer (some ⟨b10, 0, none⟩)], .func (.func 190) #[] #[.pointer (some ⟨b11, 0, none⟩), .pointer (some ⟨c11, 0, none⟩)], .func (.func 191) #[] #[.pointer (some ⟨c11, 0, none⟩), .pointer (some ⟨b11, 0, none⟩)], .func (.func 195) #[] #[.pointer (some ⟨b12, 0, none⟩)], .func (.func 196) #[] #[.pointer (some ⟨b12, 0, none⟩)], .func (.func 195) #[] #[.pointer (some ⟨b13, 0, none⟩)], .func (.func 196) #[] #[.pointer (some ⟨b13, 0, none⟩)]] rfl rfl HTH.out (by kernel_rfl) HO1.out ?_)
  obtain ⟨WF, HWF, HLD, HGF, HBF⟩ : ∃ WF, Hid (w14.setCells w.heap.size 0 [.func (.func 188) #[] #[.pointer (some ⟨b0, 0, none⟩)], .func (.func 189) #[] #[.pointer (some ⟨b0, 0, none⟩), .pointer (some ⟨c0, 0, none⟩)], .func (.func 188) #[] #[.pointer (some ⟨b1, 0, none⟩)], .func (.func 189) #[] #[.pointer (some ⟨b1, 0, none⟩), .pointer (some ⟨c1, 0, none⟩)], .func (.func 188) #[] #[.pointer (some ⟨b2, 0, none⟩)], .func (.func 189) #[] #[.pointer (some ⟨b2, 0, none⟩), .pointer (some ⟨c2, 0, none⟩)], .func (.func 188) #[] #[.pointer (some ⟨b3, 0, none⟩)], .func (.func 189) #[] #[.pointer (some ⟨b3, 0, none⟩), .pointer (some ⟨c3, 0, none⟩)], .func (.func 188) #[] #[.pointer (some ⟨b4, 0, none⟩)], .func (.func 189) #[] #[.pointer (some ⟨b4, 0, none⟩), .pointer (some ⟨c4, 0, none⟩)], .func (.func 190) #[] #[.pointer (some ⟨b5, 0, none⟩), .pointer (some ⟨c5, 0, none⟩)], .func (.func 191) #[] #[.pointer (some ⟨c5, 0, none⟩), .pointer (some ⟨b5, 0, none⟩)], .func (.func 190) #[] #[.pointer (some ⟨b6, 0, none⟩), .pointer (some ⟨c6, 0, none⟩)], .func (.func 191) #[] #[.pointer (some ⟨c6, 0, none⟩), .pointer (some ⟨b6, 0, none⟩)], .func (.func 192) #[] #[.pointer (some ⟨c7, 0, none⟩), .pointer (some ⟨b7, 0, none⟩)], .func (.func 193) #[] #[.pointer (some ⟨d7, 0, none⟩), .pointer (some ⟨b7, 0, none⟩)], .func (.func 192) #[] #[.pointer (some ⟨c8, 0, none⟩), .pointer (some ⟨b8, 0, none⟩)], .func (.func 193) #[] #[.pointer (some ⟨d8, 0, none⟩), .pointer (some ⟨b8, 0, none⟩)], .func (.func 190) #[] #[.pointer (some ⟨b9, 0, none⟩), .pointer (some ⟨c9, 0, none⟩)], .func (.func 191) #[] #[.pointer (some ⟨c9, 0, none⟩), .pointer (some ⟨b9, 0, none⟩)], .func (.func 190) #[] #[.pointer (some ⟨b10, 0, none⟩), .pointer (some ⟨c10, 0, none⟩)], .func (.func 191) #[] #[.pointer (some ⟨c10, 0, none⟩), .pointer (some ⟨b10, 0, none⟩)], .func (.func 190) #[] #[.pointer (some ⟨b11, 0, none⟩), .pointer (some ⟨c11, 0, none⟩)], .func (.func 191) #[] #[.pointer (some ⟨c11, 0, none⟩), .pointer (some ⟨b11, 0, none⟩)], .func (.func 195) #[] #[.pointer (some ⟨b12, 0, none⟩)], .func (.func 196) #[] #[.pointer (some ⟨b12, 0, none⟩)], .func (.func 195) #[] #[.pointer (some ⟨b13, 0, none⟩)], .func (.func 196) #[] #[.pointer (some ⟨b13, 0, none⟩)]] = WF) ∧
      Hid ((loadVar 161 ⟨w.heap.size, 0, none⟩).run Tryz.prog WF = .ok (.agg #[.func (.func 188) #[] #[.pointer (some ⟨b0, 0, none⟩)], .func (.func 189) #[] #[.pointer (some ⟨b0, 0, none⟩), .pointer (some ⟨c0, 0, none⟩)], .func (.func 188) #[] #[.pointer (some ⟨b1, 0, none⟩)], .func (.func 189) #[] #[.pointer (some ⟨b1, 0, none⟩), .pointer (some ⟨c1, 0, none⟩)], .func (.func 188) #[] #[.pointer (some ⟨b2, 0, none⟩)], .func (.func 189) #[] #[.pointer (some ⟨b2, 0, none⟩), .pointer (some ⟨c2, 0, none⟩)], .func (.func 188) #[] #[.pointer (some ⟨b3, 0, none⟩)], .func (.func 189) #[] #[.pointer (some ⟨b3, 0, none⟩), .pointer (some ⟨c3, 0, none⟩)], .func (.func 188) #[] #[.pointer (some ⟨b4, 0, none⟩)], .func (.func 189) #[] #[.pointer (some ⟨b4, 0, none⟩), .pointer (some ⟨c4, 0, none⟩)], .func (.func 190) #[] #[.pointer (some ⟨b5, 0, none⟩), .pointer (some ⟨c5, 0, none⟩)], .func (.func 191) #[] #[.pointer (some ⟨c5, 0, none⟩), .pointer (some ⟨b5, 0, none⟩)], .func (.func 190) #[] #[.pointer (some ⟨b6, 0, none⟩), .pointer (some ⟨c6, 0, none⟩)], .func (.func 191) #[] #[.pointer (some ⟨c6, 0, none⟩), .pointer (some ⟨b6, 0, none⟩)], .func (.func 192) #[] #[.pointer (some ⟨c7, 0, none⟩), .pointer (some ⟨b7, 0, none⟩)], .func (.func 193) #[] #[.pointer (some ⟨d7, 0, none⟩), .pointer (some ⟨b7, 0, none⟩)], .func (.func 192) #[] #[.pointer (some ⟨c8, 0, none⟩), .pointer (some ⟨b8, 0, none⟩)], .func (.func 193) #[] #[.pointer (some ⟨d8, 0, none⟩), .pointer (some ⟨b8, 0, none⟩)], .func (.func 190) #[] #[.pointer (some ⟨b9, 0, none⟩), .pointer (some ⟨c9, 0, none⟩)], .func (.func 191) #[] #[.pointer (some ⟨c9, 0, none⟩), .pointer (some ⟨b9, 0, none⟩)], .func (.func 190) #[] #[.pointer (some ⟨b10, 0, none⟩), .pointer (some ⟨c10, 0, none⟩)], .func (.func 191) #[] #[.pointer (some ⟨c10, 0, none⟩), .pointer (some ⟨b10, 0, none⟩)], .func (.func 190) #[] #[.pointer (some ⟨b11, 0, none⟩), .pointer (some ⟨c11, 0, none⟩)], .func (.func 191) #[] #[.pointer (some ⟨c11, 0, none⟩), .pointer (some ⟨b11, 0, none⟩)], .func (.func 195) #[] #[.pointer (some ⟨b12, 0, none⟩)], .func (.func 196) #[] #[.pointer (some ⟨b12, 0, none⟩)], .func (.func 195) #[] #[.pointer (some ⟨b13, 0, none⟩)], .func (.func 196) #[] #[.pointer (some ⟨b13, 0, none⟩)]]) WF) ∧ Hid (FieldsUp WF w.heap.size [(.func (.func 188) #[] #[.pointer (some ⟨b0, 0, none⟩)], .func (.func 189) #[] #[.pointer (some ⟨b0, 0, none⟩), .pointer (some ⟨c0, 0, none⟩)]), (.func (.func 188) #[] #[.pointer (some ⟨b1, 0, none⟩)], .func (.func 189) #[] #[.pointer (some ⟨b1, 0, none⟩), .pointer (some ⟨c1, 0, none⟩)]), (.func (.func 188) #[] #[.pointer (some ⟨b2, 0, none⟩)], .func (.func 189) #[] #[.pointer (some ⟨b2, 0, none⟩), .pointer (some ⟨c2, 0, none⟩)]), (.func (.func 188) #[] #[.pointer (some ⟨b3, 0, none⟩)], .func (.func 189) #[] #[.pointer (some ⟨b3, 0, none⟩), .pointer (some ⟨c3, 0, none⟩)]), (.func (.func 188) #[] #[.pointer (some ⟨b4, 0, none⟩)], .func (.func 189) #[] #[.pointer (some ⟨b4, 0, none⟩), .pointer (some ⟨c4, 0, none⟩)]), (.func (.func 190) #[] #[.pointer (some ⟨b5, 0, none⟩), .pointer (some ⟨c5, 0, none⟩)], .func (.func 191) #[] #[.pointer (some ⟨c5, 0, none⟩), .pointer (some ⟨b5, 0, none⟩)]), (.func (.func 190) #[] #[.pointer (some ⟨b6, 0, none⟩), .pointer (some ⟨c6, 0, none⟩)], .func (.func 191) #[] #[.pointer (some ⟨c6, 0, none⟩), .pointer (some ⟨b6, 0, none⟩)]), (.func (.func 192) #[] #[.pointer (some ⟨c7, 0, none⟩), .pointer (some ⟨b7, 0, none⟩)], .func (.func 193) #[] #[.pointer (some ⟨d7, 0, none⟩), .pointer (some ⟨b7, 0, none⟩)]), (.func (.func 192) #[] #[.pointer (some ⟨c8, 0, none⟩), .pointer (some ⟨b8, 0, none⟩)], .func (.func 193) #[] #[.pointer (some ⟨d8, 0, none⟩), .pointer (some ⟨b8, 0, none⟩)]), (.func (.func 190) #[] #[.pointer (some ⟨b9, 0, none⟩), .pointer (some ⟨c9, 0, none⟩)], .func (.func 191) #[] #[.pointer (some ⟨c9, 0, none⟩), .pointer (some ⟨b9, 0, none⟩)]), (.func (.func 190) #[] #[.pointer (some ⟨b10, 0, none⟩), .pointer (some ⟨c10, 0, none⟩)], .func (.func 191) #[] #[.pointer (some ⟨c10, 0, none⟩), .pointer (some ⟨b10, 0, none⟩)]), (.func (.func 190) #[] #[.pointer (some ⟨b11, 0, none⟩), .pointer (some ⟨c11, 0, none⟩)], .func (.func 191) #[] #[.pointer (some ⟨c11, 0, none⟩), .pointer (some ⟨b11, 0, none⟩)]), (.func (.func 195) #[] #[.pointer (some ⟨b12, 0, none⟩)], .func (.func 196) #[] #[.pointer (some ⟨b12, 0, none⟩)]), (.func (.func 195) #[] #[.pointer (some ⟨b13, 0, none⟩)], .func (.func 196) #[] #[.pointer (some ⟨b13, 0, none⟩)])]) ∧ Hid (Below w.heap.size w WF) :=
    ⟨_, Lib.hid rfl,
     Lib.hid (run_loadVar_mid (P := Tryz.prog) _ w.heap.size 0 161 [.func (.func 188) #[] #[.pointer (some ⟨b0, 0, none⟩)], .func (.func 189) #[] #[.pointer (some ⟨b0, 0, none⟩), .pointer (some ⟨c0, 0, none⟩)], .func (.func 188) #[] #[.pointer (some ⟨b1, 0, none⟩)], .func (.func 189) #[] #[.pointer (some ⟨b1, 0, none⟩), .pointer (some ⟨c1, 0, none⟩)], .func (.func 188) #[] #[.pointer (some ⟨b2, 0, none⟩)], .func (.func 189) #[] #[.pointer (some ⟨b2, 0, none⟩), .pointer (some ⟨c2, 0, none⟩)], .func (.func 188) #[] #[.pointer (some ⟨b3, 0, none⟩)], .func (.func 189) #[] #[.pointer (some ⟨b3, 0, none⟩), .pointer (some ⟨c3, 0, none⟩)], .func (.func 188) #[] #[.pointer (some ⟨b4, 0, none⟩)], .func (.func 189) #[] #[.pointer (some ⟨b4, 0, none⟩), .pointer (some ⟨c4, 0, none⟩)], .func (.func 190) #[] #[.pointer (some ⟨b5, 0, none⟩), .pointer (some ⟨c5, 0, none⟩)], .func (.func 191) #[] #[.pointer (some ⟨c5, 0, none⟩), .pointer (some ⟨b5, 0, none⟩)], .func (.func 190) #[] #[.pointer (some ⟨b6, 0, none⟩), .pointer (some ⟨c6, 0, none⟩)], .func (.func 191) #[] #[.pointer (some ⟨c6, 0, none⟩), .pointer (some ⟨b6, 0, none⟩)], .func (.func 192) #[] #[.pointer (some ⟨c7, 0, none⟩), .pointer (some ⟨b7, 0, none⟩)], .func (.func 193) #[] #[.pointer (some ⟨d7, 0, none⟩), .pointer (some ⟨b7, 0, none⟩)], .func (.func 192) #[] #[.pointer (some ⟨c8, 0, none⟩), .pointer (some ⟨b8, 0, none⟩)], .func (.func 193) #[] #[.pointer (some ⟨d8, 0, none⟩), .pointer (some ⟨b8, 0, none⟩)], .func (.func 190) #[] #[.pointer (some ⟨b9, 0, none⟩), .pointer (some ⟨c9, 0, none⟩)], .func (.func 191) #[] #[.pointer (some ⟨c9, 0, none⟩), .pointer (some ⟨b9, 0, none⟩)], .func (.func 190) #[] #[.pointer (some ⟨b10, 0, none⟩), .pointer (some ⟨c10, 0, none⟩)], .func (.func 191) #[] #[.pointer (some ⟨c10, 0, none⟩), .pointer (some ⟨b10, 0, none⟩)], .func (.func 190) #[] #[.pointer (some ⟨b11, 0, none⟩), .pointer (some ⟨c11, 0, none⟩)], .func (.func 191) #[] #[.pointer (some ⟨c11, 0, none⟩), .pointer (some ⟨b11, 0, none⟩)], .func (.func 195) #[] #[.pointer (some ⟨b12, 0, none⟩)], .func (.func 196) #[] #[.pointer (some ⟨b12, 0, none⟩)], .func (.func 195) #[] #[.pointer (some ⟨b13, 0, none⟩)], .func (.func 196) #[] #[.pointer (some ⟨b13, 0, none⟩)]] _ (World.rangeAt_setCells_same _ _ _ _ HTH.out) Tryz.underlying161 rfl (by kernel_rfl)),
     Lib.hid ⟨fun k hk => ((HG14.out.at_ k hk).off (Off.setCells _ _ _ _) (by rw [HS.out]; omega)).down hNW⟩, Lib.hid (HBS.out.trans (below_cells w14 w.heap.size 0 _))⟩
  clear HTH HR14 HG14 HBS HO1
  rw [HWF.out]
  clear HWF
  go_wp2_with fail
  have hld := HLD.out
  exact bodyPost_ret (v := .agg #[.func (.func 188) #[] #[.pointer (some ⟨b0, 0, none⟩)], .func (.func 189) #[] #[.pointer (some ⟨b0, 0, none⟩), .pointer (some ⟨c0, 0, none⟩)], .func (.func 188) #[] #[.pointer (some ⟨b1, 0, none⟩)], .func (.func 189) #[] #[.pointer (some ⟨b1, 0, none⟩), .pointer (some ⟨c1, 0, none⟩)], .func (.func 188) #[] #[.pointer (some ⟨b2, 0, none⟩)], .func (.func 189) #[] #[.pointer (some ⟨b2, 0, none⟩), .pointer (some ⟨c2, 0, none⟩)], .func (.func 188) #[] #[.pointer (some ⟨b3, 0, none⟩)], .func (.func 189) #[] #[.pointer (some ⟨b3, 0, none⟩), .pointer (some ⟨c3, 0, none⟩)], .func (.func 188) #[] #[.pointer (some ⟨b4, 0, none⟩)], .func (.func 189) #[] #[.pointer (some ⟨b4, 0, none⟩), .pointer (some ⟨c4, 0, none⟩)], .func (.func 190) #[] #[.pointer (some ⟨b5, 0, none⟩), .pointer (some ⟨c5, 0, none⟩)], .func (.func 191) #[] #[.pointer (some ⟨c5, 0, none⟩), .pointer (some ⟨b5, 0, none⟩)], .func (.func 190) #[] #[.pointer (some ⟨b6, 0, none⟩), .pointer (some ⟨c6, 0, none⟩)], .func (.func 191) #[] #[.pointer (some ⟨c6, 0, none⟩), .pointer (some ⟨b6, 0, none⟩)], .func (.func 192) #[] #[.pointer (some ⟨c7, 0, none⟩), .pointer (some ⟨b7, 0, none⟩)], .func (.func 193) #[] #[.pointer (some ⟨d7, 0, none⟩), .pointer (some ⟨b7, 0, none⟩)], .func (.func 192) #[] #[.pointer (some ⟨c8, 0, none⟩), .pointer (some ⟨b8, 0, none⟩)], .func (.func 193) #[] #[.pointer (some ⟨d8, 0, none⟩), .pointer (some ⟨b8, 0, none⟩)], .func (.func 190) #[] #[.pointer (some ⟨b9, 0, none⟩), .pointer (some ⟨c9, 0, none⟩)], .func (.func 191) #[] #[.pointer (some ⟨c9, 0, none⟩), .pointer (some ⟨b9, 0, none⟩)], .func (.func 190) #[] #[.pointer (some ⟨b10, 0, none⟩), .pointer (some ⟨c10, 0, none⟩)], .func (.func 191) #[] #[.pointer (some ⟨c10, 0, none⟩), .pointer (some ⟨b10, 0, none⟩)], .func (.func 190) #[] #[.pointer (some ⟨b11, 0, none⟩), .pointer (some ⟨c11, 0, none⟩)], .func (.func 191) #[] #[.pointer (some ⟨c11, 0, none⟩), .pointer (some ⟨b11, 0, none⟩)], .func (.func 195) #[] #[.pointer (some ⟨b12, 0, none⟩)], .func (.func 196) #[] #[.pointer (some ⟨b12, 0, none⟩)], .func (.func 195) #[] #[.pointer (some ⟨b13, 0, none⟩)], .func (.func 196) #[] #[.pointer (some ⟨b13, 0, none⟩)]]) (by simp [results, Tryz.results94, Act.put, asAddr, hld]) rfl ⟨⟨[(.func (.func 188) #[] #[.pointer (some ⟨b0, 0, none⟩)], .func (.func 189) #[] #[.pointer (some ⟨b0, 0, none⟩), .pointer (some ⟨c0, 0, none⟩)]), (.func (.func 188) #[] #[.pointer (some ⟨b1, 0, none⟩)], .func (.func 189) #[] #[.pointer (some ⟨b1, 0, none⟩), .pointer (some ⟨c1, 0, none⟩)]), (.func (.func 188) #[] #[.pointer (some ⟨b2, 0, none⟩)], .func (.func 189) #[] #[.pointer (some ⟨b2, 0, none⟩), .pointer (some ⟨c2, 0, none⟩)]), (.func (.func 188) #[] #[.pointer (some ⟨b3, 0, none⟩)], .func (.func 189) #[] #[.pointer (some ⟨b3, 0, none⟩), .pointer (some ⟨c3, 0, none⟩)]), (.func (.func 188) #[] #[.pointer (some ⟨b4, 0, none⟩)], .func (.func 189) #[] #[.pointer (some ⟨b4, 0, none⟩), .pointer (some ⟨c4, 0, none⟩)]), (.func (.func 190) #[] #[.pointer (some ⟨b5, 0, none⟩), .pointer (some ⟨c5, 0, none⟩)], .func (.func 191) #[] #[.pointer (some ⟨c5, 0, none⟩), .pointer (some ⟨b5, 0, none⟩)]), (.func (.func 190) #[] #[.pointer (some ⟨b6, 0, none⟩), .pointer (some ⟨c6, 0, none⟩)], .func (.func 191) #[] #[.pointer (some ⟨c6, 0, none⟩), .pointer (some ⟨b6, 0, none⟩)]), (.func (.func 192) #[] #[.pointer (some ⟨c7, 0, none⟩), .pointer (some ⟨b7, 0, none⟩)], .func (.func 193) #[] #[.pointer (some ⟨d7, 0, none⟩), .pointer (some ⟨b7, 0, none⟩)]), (.func (.func 192) #[] #[.pointer (some ⟨c8, 0, none⟩), .pointer (some ⟨b8, 0, none⟩)], .func (.func 193) #[] #[.pointer (some ⟨d8, 0, none⟩), .pointer (some ⟨b8, 0, none⟩)]), (.func (.func 190) #[] #[.pointer (some ⟨b9, 0, none⟩), .pointer (some ⟨c9, 0, none⟩)], .func (.func 191) #[] #[.pointer (some ⟨c9, 0, none⟩), .pointer (some ⟨b9, 0, none⟩)]), (.func (.func 190) #[] #[.pointer (some ⟨b10, 0, none⟩), .pointer (some ⟨c10, 0, none⟩)], .func (.func 191) #[] #[.pointer (some ⟨c10, 0, none⟩), .pointer (some ⟨b10, 0, none⟩)]), (.func (.func 190) #[] #[.pointer (some ⟨b11, 0, none⟩), .pointer (some ⟨c11, 0, none⟩)], .func (.func 191) #[] #[.pointer (some ⟨c11, 0, none⟩), .pointer (some ⟨b11, 0, none⟩)]), (.func (.func 195) #[] #[.pointer (some ⟨b12, 0, none⟩)], .func (.func 196) #[] #[.pointer (some ⟨b12, 0, none⟩)]), (.func (.func 195) #[] #[.pointer (some ⟨b13, 0, none⟩)], .func (.func 196) #[] #[.pointer (some ⟨b13, 0, none⟩)])], rfl, rfl, HGF.out, by simp⟩, HBF.out⟩
end Go.Proofs.YtphoclgibnhjfaaGreat
namespace Go.Proofs.YtphoclgibnhjfaaGreat
open Go.RowKit
def dayIn (y m d : Int) : Int := fst [rng y 2000 2273, rng m 1 12, rng d 1 31]
def dayErr (y m d : Int) : Int :=
  if dayIn y m d ≠ 0 then dayIn y m d
  else if Cal.ml y m.toNat < d ∨ 99999 < Cal.dn y m.toNat d then 7 else 0
theorem rng_zero {n a b : Int} (h : rng n a b = 0) : a ≤ n ∧ n ≤ b := by
  unfold rng at h; split at h
  · assumption
  · omega
theorem fst_cons_zero {x : Int} {l : List Int} (h : fst (x :: l) = 0) : x = 0 ∧ fst l = 0 := by
  by_cases e : x = 0
  · simp [fst, e] at h; exact ⟨e, h⟩
  · simp [fst, e] at h
theorem dayIn_zero {y m d : Int} (h : dayIn y m d = 0) : (2000 ≤ y ∧ y ≤ 2273) ∧ (1 ≤ m ∧ m ≤ 12) ∧ (1 ≤ d ∧ d ≤ 31) := by
  obtain ⟨h1, h⟩ := fst_cons_zero h
  obtain ⟨h2, h⟩ := fst_cons_zero h
  obtain ⟨h3, h⟩ := fst_cons_zero h
  exact ⟨rng_zero h1, rng_zero h2, rng_zero h3⟩

end Go.Proofs.YtphoclgibnhjfaaGreat
namespace Go.Proofs.YtphoclgibnhjfaaGreat
open Go.RowKit
theorem cum_le (y : Int) (j k : Nat) (h : j ≤ k) (hk : k ≤ 12) : Cal.cum y j ≤ Cal.cum y k := by
  induction k with
  | zero => obtain rfl : j = 0 := by omega
            exact Int.le_refl _
  | succ n ih =>
    by_cases e : j = n + 1
    · subst e; exact Int.le_refl _
    · have := ih (by omega) (by omega)
      have hm := Cal.ml_bd y (n + 1) (by omega) hk
      rw [Cal.cum]; omega
/-- The year, the month and the day of a day, as facts. -/
structure IsDate (d y : Int) (m : Nat) (t : Int) : Prop where
  y1 : 2000 ≤ y
  y2 : y ≤ 2273
  d1 : Cal.db y ≤ d
  d2 : d < Cal.db (y + 1)
  m1 : 1 ≤ m
  m2 : m ≤ 12
  r1 : Cal.cum y (m - 1) ≤ d - Cal.db y
  r2 : d - Cal.db y < Cal.cum y m
  t0 : t = d - Cal.db y - Cal.cum y (m - 1) + 1
theorem date_ex (d : Int) (h0 : 0 ≤ d) (h1 : d ≤ 99999) : ∃ y m t, IsDate d y m t := by
  obtain ⟨y, y1, y2, d1, d2⟩ := Cal.year_ex d h0 h1
  have hs := Cal.db_succ y
  obtain ⟨m, m1, m2, r1, r2⟩ := Cal.month_ex y (d - Cal.db y) (by omega) (by omega)
  exact ⟨y, m, _, y1, y2, d1, d2, m1, m2, r1, r2, rfl⟩
def dateVal (y : Int) (m : Nat) (t : Int) : Value := .agg #[.int .i64 y, .int .i64 m, .int .i64 t]
theorem res3 (w : World) (a b c : Int) (T : TypeId) : Res 3 w.heap.size (w.alloc (.cells #[.int .i64 a, .int .i64 b, .int .i64 c] T)) (w.alloc (.cells #[.int .i64 a, .int .i64 b, .int .i64 c] T)) :=
  ⟨fun i hi => by
    match i, hi with
    | 0, _ => exact ⟨.int .i64 a, by simp⟩
    | 1, _ => exact ⟨.int .i64 b, by simp⟩
    | 2, _ => exact ⟨.int .i64 c, by simp⟩, fun i hi => by
    match i, hi with
    | 0, _ => simp
    | 1, _ => simp
    | 2, _ => simp, Below.refl _ _⟩
end Go.Proofs.YtphoclgibnhjfaaGreat
namespace Go.Proofs.YtphoclgibnhjfaaGreat
def dig (n : Nat) : UInt8 := UInt8.ofNat (48 + n)
def pad2 (n : Nat) : List UInt8 := [dig (n / 10), dig (n % 10)]
def pad4 (y : Nat) : List UInt8 := pad2 (y / 100) ++ pad2 (y % 100)
def dateL (y m t : Nat) : List UInt8 := pad4 y ++ 45 :: (pad2 m ++ 45 :: pad2 t)
theorem dec1 (n : Nat) (h : n < 10) : Lib.decDigits n = [dig n] := by rw [Lib.decDigits, dif_pos h]; rfl
theorem dec2 (n : Nat) (h1 : 10 ≤ n) (h : n < 100) : Lib.decDigits n = pad2 n := by
  rw [Lib.decDigits, dif_neg (by omega), dec1 _ (by omega)]; rfl
theorem dec4 (n : Nat) (h1 : 1000 ≤ n) (h : n < 10000) : Lib.decDigits n = pad4 n := by
  rw [Lib.decDigits, dif_neg (by omega), Lib.decDigits, dif_neg (by omega), dec2 _ (by omega) (by omega)]
  have e1 : n / 10 / 10 = n / 100 := by omega
  have e2 : n / 10 % 10 = n % 100 / 10 := by omega
  have e3 : n % 10 = n % 100 % 10 := by omega
  rw [e1, e2, e3]
  rfl
theorem dig_toNat (a : Nat) (h : a < 10) : (dig a).toNat = 48 + a := by
  unfold dig
  rw [UInt8.toNat_ofNat']
  omega
theorem dig_lt (a b : Nat) (ha : a < 10) (hb : b < 10) : dig a < dig b ↔ a < b := by
  rw [UInt8.lt_iff_toNat_lt, dig_toNat a ha, dig_toNat b hb]; omega
theorem dig_eq (a b : Nat) (ha : a < 10) (hb : b < 10) : dig a = dig b ↔ a = b := by
  rw [← UInt8.toNat_inj, dig_toNat a ha, dig_toNat b hb]; omega
theorem pad2_lt (a b : Nat) (l r : List UInt8) (ha : a < 100) (hb : b < 100) : pad2 a ++ l < pad2 b ++ r ↔ a < b ∨ a = b ∧ l < r := by
  unfold pad2
  simp only [List.cons_append, List.nil_append, List.cons_lt_cons_iff]
  rw [dig_lt _ _ (by omega) (by omega), dig_lt _ _ (by omega) (by omega), dig_eq _ _ (by omega) (by omega), dig_eq _ _ (by omega) (by omega)]
  constructor
  · rintro (h | ⟨h1, h | ⟨h2, h3⟩⟩)
    · left; omega
    · left; omega
    · right; exact ⟨by omega, h3⟩
  · rintro (h | ⟨h1, h3⟩)
    · by_cases e : a / 10 = b / 10
      · right; exact ⟨e, .inl (by omega)⟩
      · left; omega
    · subst h1; right; exact ⟨rfl, .inr ⟨rfl, h3⟩⟩
theorem cons_lt (x : UInt8) (l r : List UInt8) : x :: l < x :: r ↔ l < r := by
  rw [List.cons_lt_cons_iff]
  constructor
  · rintro (h | h)
    · exact absurd h (by simp)
    · exact h.2
  · exact fun h => .inr ⟨rfl, h⟩
theorem pad2_lt' (a b : Nat) (ha : a < 100) (hb : b < 100) : pad2 a < pad2 b ↔ a < b := by
  have := pad2_lt a b [] [] ha hb
  simp only [List.append_nil] at this
  rw [this]
  constructor
  · rintro (h | h)
    · exact h
    · exact absurd h.2 (by simp)
  · exact .inl
theorem dateL_lt (y m t y' m' t' : Nat) (hy : y < 10000) (hm : m < 100) (ht : t < 100) (hy' : y' < 10000) (hm' : m' < 100) (ht' : t' < 100) :
    dateL y m t < dateL y' m' t' ↔ y < y' ∨ y = y' ∧ (m < m' ∨ m = m' ∧ t < t') := by
  unfold dateL pad4
  rw [List.append_assoc, List.append_assoc, pad2_lt _ _ _ _ (by omega) (by omega), pad2_lt _ _ _ _ (by omega) (by omega), cons_lt, pad2_lt _ _ _ _ hm hm', cons_lt, pad2_lt' _ _ ht ht']
  omega
theorem dateL_inj (y m t y' m' t' : Nat) (hy : y < 10000) (hm : m < 100) (ht : t < 100) (hy' : y' < 10000) (hm' : m' < 100) (ht' : t' < 100) :
    dateL y m t = dateL y' m' t' ↔ y = y' ∧ m = m' ∧ t = t' := by
  constructor
  · intro h
    have a := not_congr (dateL_lt y m t y' m' t' hy hm ht hy' hm' ht')
    have b := not_congr (dateL_lt y' m' t' y m t hy' hm' ht' hy hm ht)
    rw [h] at a
    rw [← h] at b
    have irr : ∀ l : List UInt8, ¬ l < l := fun l => List.lt_irrefl l
    have a' := a.1 (irr _)
    have b' := b.1 (irr _)
    omega
  · rintro ⟨rfl, rfl, rfl⟩; rfl
theorem db_step (a b : Int) (h : a < b) : Cal.db (a + 1) ≤ Cal.db b := Cal.db_mono _ _ (by omega)
theorem date_t {d y t : Int} {m : Nat} (h : IsDate d y m t) : 1 ≤ t ∧ t ≤ 31 := by
  obtain ⟨y1, y2, d1, d2, m1, m2, r1, r2, t0⟩ := h
  obtain ⟨k, rfl⟩ : ∃ k, m = k + 1 := ⟨m - 1, by omega⟩
  have := Cal.ml_bd y (k + 1) (by omega) m2
  simp only [Nat.add_sub_cancel] at *
  rw [Cal.cum] at r2
  omega
theorem date_lt {d y t d' y' t' : Int} {m m' : Nat} (h : IsDate d y m t) (h' : IsDate d' y' m' t') (hl : y < y' ∨ y = y' ∧ (m < m' ∨ m = m' ∧ t < t')) : d < d' := by
  obtain ⟨y1, y2, d1, d2, m1, m2, r1, r2, t0⟩ := h
  obtain ⟨y1', y2', d1', d2', m1', m2', r1', r2', t0'⟩ := h'
  rcases hl with h | ⟨rfl, h | ⟨rfl, h⟩⟩
  · have := db_step y y' h; omega
  · have := cum_le y m (m' - 1) (by omega) (by omega); omega
  · omega
theorem date_lt_iff {d y t d' y' t' : Int} {m m' : Nat} (h : IsDate d y m t) (h' : IsDate d' y' m' t') : (y < y' ∨ y = y' ∧ (m < m' ∨ m = m' ∧ t < t')) ↔ d < d' := by
  constructor
  · exact date_lt h h'
  · intro hd
    by_cases e : y' < y ∨ y' = y ∧ (m' < m ∨ m' = m ∧ t' < t)
    · have := date_lt h' h e; omega
    · by_cases e2 : y = y' ∧ m = m' ∧ t = t'
      · obtain ⟨rfl, rfl, rfl⟩ := e2
        have := h.t0; have := h'.t0; omega
      · omega
theorem date_eq_iff {d y t d' y' t' : Int} {m m' : Nat} (h : IsDate d y m t) (h' : IsDate d' y' m' t') : (y = y' ∧ m = m' ∧ t = t') ↔ d = d' := by
  constructor
  · rintro ⟨rfl, rfl, rfl⟩
    have := h.t0; have := h'.t0; omega
  · rintro rfl
    have a := (not_congr (date_lt_iff h h')).2 (by omega)
    have b := (not_congr (date_lt_iff h' h)).2 (by omega)
    omega
/-- The text of a date. -/
def dateT (y : Int) (m : Nat) (t : Int) : ByteArray := ⟨(dateL y.toNat m t.toNat).toArray⟩
theorem dateT_less {d y t d' y' t' : Int} {m m' : Nat} (h : IsDate d y m t) (h' : IsDate d' y' m' t') : Op.bytesLess (dateT y m t).toList (dateT y' m' t').toList = decide (d < d') := by
  rw [bytesLess_eq, Lib.toList_data, Lib.toList_data]
  have a := date_t h
  have b := date_t h'
  have := h.y1; have := h.y2; have := h.m2; have := h'.y1; have := h'.y2; have := h'.m2
  have e : dateL y.toNat m t.toNat < dateL y'.toNat m' t'.toNat ↔ d < d' := by
    rw [dateL_lt _ _ _ _ _ _ (by omega) (by omega) (by omega) (by omega) (by omega) (by omega), ← date_lt_iff h h']
    omega
  exact decide_eq_decide.2 e
theorem dateT_same {d y t d' y' t' : Int} {m m' : Nat} (h : IsDate d y m t) (h' : IsDate d' y' m' t') : ((dateT y m t).toList == (dateT y' m' t').toList) = decide (d = d') := by
  rw [Lib.toList_data, Lib.toList_data]
  have a := date_t h
  have b := date_t h'
  have := h.y1; have := h.y2; have := h.m2; have := h'.y1; have := h'.y2; have := h'.m2
  have e : dateL y.toNat m t.toNat = dateL y'.toNat m' t'.toNat ↔ d = d' := by
    rw [dateL_inj _ _ _ _ _ _ (by omega) (by omega) (by omega) (by omega) (by omega) (by omega), ← date_eq_iff h h']
    omega
  rw [Bool.eq_iff_iff, beq_iff_eq, decide_eq_true_eq]
  exact e
end Go.Proofs.YtphoclgibnhjfaaGreat
namespace Go.Proofs.YtphoclgibnhjfaaGreat
open Go.RowKit
/-- The table of powers that strconv reads. -/
def HeldPow (w : World) : Prop := Lib.TabIs Tryz.prog w "internal/strconv.uint64pow10" .u64 Lib.pow10Tab
theorem cat_lists (x y : List UInt8) : (ByteArray.mk x.toArray ++ ByteArray.mk y.toArray) = ⟨(x ++ y).toArray⟩ := ByteArray.mk_append_mk x y
theorem zero_str : (⟨#[48]⟩ : ByteArray).data.toList = [48] := rfl
end Go.Proofs.YtphoclgibnhjfaaGreat
namespace Go.Proofs.YtphoclgibnhjfaaGreat
open Go.RowKit
theorem HeldPow.below {w w' : World} (h : HeldPow w) (hb : Below w.heap.size w w') : HeldPow w' := Lib.tabBelow_of_tabIs h _ hb
end Go.Proofs.YtphoclgibnhjfaaGreat
namespace Go.Proofs.YtphoclgibnhjfaaGreat
open Go.RowKit
def IsTrue (w : World) (r : Ending) (w' : World) : Prop := r = .returned (.bool true) ∧ Below w.heap.size w w'
theorem qRange_any (n a b : Int) (w : World) :
    Calls Tryz.prog 129 #[.int .i64 n, .int .i64 a, .int .i64 b] w fun r w' => r = .returned (.int .i64 (rng n a b)) ∧ w' = w := by
  by_cases h1 : n < a
  · have H : Hid (rng n a b = 3) := Lib.hid (by unfold rng; rw [if_neg (by omega)])
    go_enter Tryz.func129, Tryz.ntmps129
    go_wp2_with fail
    go_ret
    exact ⟨by rw [H.out]; rfl, rfl⟩
  · by_cases h2 : b < n
    · have H : Hid (rng n a b = 3) := Lib.hid (by unfold rng; rw [if_neg (by omega)])
      go_enter Tryz.func129, Tryz.ntmps129
      go_wp2_with fail
      go_ret
      exact ⟨by rw [H.out]; rfl, rfl⟩
    · have H : Hid (rng n a b = 0) := Lib.hid (by unfold rng; rw [if_pos (by omega)])
      go_enter Tryz.func129, Tryz.ntmps129
      go_wp2_with fail
      go_ret
      exact ⟨by rw [H.out]; rfl, rfl⟩
theorem qCheckDay_any (d : Int) (w : World) :
    Calls Tryz.prog 83 #[.int .i64 d] w fun r w' => r = .returned (.int .i64 (rng d 0 99999)) ∧ w' = w := by
  go_enter Tryz.func83, Tryz.ntmps83
  go_wp2_with (go_at_call 129; refine (qRange_any _ _ _ _).mono ?_; rintro e w' ⟨rfl, rfl⟩)
  go_ret
  exact ⟨rfl, rfl⟩
theorem db28 (y : Int) (h1 : 2000 ≤ y) (h2 : y ≤ 2071) : Cal.db (y + 28) = Cal.db y + 10227 := by unfold Cal.db Cal.lp; omega
theorem leap28 (y : Int) (h1 : 2000 ≤ y) (h2 : y ≤ 2071) : Cal.leap (y + 28) = Cal.leap y := by
  unfold Cal.leap Cal.lp
  exact decide_eq_decide.2 (by omega)
theorem ml28 (y : Int) (m : Nat) (h1 : 2000 ≤ y) (h2 : y ≤ 2071) : Cal.ml (y + 28) m = Cal.ml y m := by unfold Cal.ml; rw [leap28 y h1 h2]
theorem cum28 (y : Int) (m : Nat) (h1 : 2000 ≤ y) (h2 : y ≤ 2071) : Cal.cum (y + 28) m = Cal.cum y m := by
  induction m with
  | zero => rfl
  | succ n ih => rw [Cal.cum, Cal.cum, ih, ml28 y _ h1 h2]
theorem date_dn {d y t : Int} {m : Nat} (h : IsDate d y m t) : Cal.dn y m t = d := by
  have := h.t0
  unfold Cal.dn; omega
theorem date_ml {d y t : Int} {m : Nat} (h : IsDate d y m t) : t ≤ Cal.ml y m := by
  obtain ⟨y1, y2, d1, d2, m1, m2, r1, r2, t0⟩ := h
  obtain ⟨k, rfl⟩ : ∃ k, m = k + 1 := ⟨m - 1, by omega⟩
  simp only [Nat.add_sub_cancel] at *
  rw [Cal.cum] at r2
  omega
theorem day28 {d y t : Int} {m : Nat} (h : IsDate d y m t) (hy : y ≤ 2071) : dayErr (y + 28) m t = 0 ∧ Cal.dn (y + 28) (m : Int).toNat t = d + 10227 := by
  have h1 := h.y1
  have hm := h.m1; have hm2 := h.m2
  have ht := date_t h
  have e : Cal.dn (y + 28) (m : Int).toNat t = d + 10227 := by
    rw [Int.toNat_natCast, ← date_dn h]
    unfold Cal.dn
    rw [db28 y h1 hy, cum28 y _ h1 hy]; omega
  refine ⟨?_, e⟩
  have hdm := Cal.db_mono (y + 1) 2072 (by omega)
  have h72 : Cal.db 2072 = 26298 := by decide
  have hd2 := h.d2
  unfold dayErr dayIn
  rw [rng_ok (by omega) (by omega), rng_ok (by omega) (by omega), rng_ok (by omega) (by omega), if_neg (by simp [fst]), e, Int.toNat_natCast, ml28 y m h1 hy, if_neg (by have := date_ml h; omega)]
theorem wd28 (d : Int) : Cal.wd (d + 10227) = Cal.wd d := by unfold Cal.wd; omega
theorem dayErr_month (y : Int) (k : Nat) (d : Int) (h1 : 2000 ≤ y) (h2 : y ≤ 2272) (hk1 : 1 ≤ k) (hk2 : k ≤ 12) (hd1 : 28 ≤ d) (hd2 : d ≤ 31) : dayErr y k d = if d ≤ Cal.ml y k then 0 else 7 := by
  have hm := Cal.ml_bd y k hk1 hk2
  unfold dayErr dayIn
  rw [rng_ok (by omega) (by omega), rng_ok (by omega) (by omega), rng_ok (by omega) (by omega), if_neg (by simp [fst]), Int.toNat_natCast]
  by_cases h : d ≤ Cal.ml y k
  · obtain ⟨j, rfl⟩ : ∃ j, k = j + 1 := ⟨k - 1, by omega⟩
    have hc := cum_le y (j + 1) 12 (by omega) (by omega)
    have h12 := Cal.cum_12 y
    have hs := Cal.db_succ y
    have hmo := Cal.db_mono (y + 1) 2273 (by omega)
    have h73 := Cal.db_2273
    have : Cal.dn y (j + 1) d ≤ 99999 := by
      unfold Cal.dn
      rw [Cal.cum] at hc
      simp only [Nat.add_sub_cancel]
      omega
    rw [if_neg (by omega), if_pos h]
  · rw [if_pos (by omega), if_neg h]
theorem err11 (y : Int) (h1 : 2000 ≤ y) (h2 : y ≤ 2273) : dayErr y 1 1 = 0 ∧ Cal.dn y (1 : Int).toNat 1 = Cal.db y := by
  have e : Cal.dn y (1 : Int).toNat 1 = Cal.db y := by
    show Cal.db y + 1 - 1 + Cal.cum y 0 = _
    simp [Cal.cum]
  refine ⟨?_, e⟩
  have hmo := Cal.db_mono y 2273 h2
  have h73 := Cal.db_2273
  have hm : Cal.ml y (1 : Int).toNat = 31 := by rw [show (1 : Int).toNat = 1 from rfl, Cal.ml_ne y 1 (by decide)]; rfl
  unfold dayErr dayIn
  rw [rng_ok (by omega) (by omega), rng_ok (by omega) (by omega), rng_ok (by omega) (by omega), if_neg (by simp [fst]), hm, e, if_neg (by omega)]
def lastOf (l : Int) (j : Nat) : Int := if j = 28 then 0 else if (j : Int) - 1 ≤ l then (j : Int) - 1 else l
theorem lastOf_28 (l : Int) : lastOf l 28 = 0 := by unfold lastOf; rw [if_pos rfl]
theorem lastOf_ok (l : Int) (j : Nat) (h : 28 ≤ j) (h2 : (j : Int) ≤ l) : lastOf l (j + 1) = j := by
  unfold lastOf; rw [if_neg (by omega), if_pos (by omega)]; omega
theorem lastOf_no (l : Int) (j : Nat) (h : 28 ≤ j) (hl : 28 ≤ l) (h2 : l < j) : lastOf l (j + 1) = lastOf l j := by
  unfold lastOf
  rw [if_neg (by omega), if_neg (by omega), if_neg (by omega)]
  by_cases h3 : (j : Int) - 1 ≤ l
  · rw [if_pos h3]; omega
  · rw [if_neg h3]
theorem lastOf_end (l : Int) (h : l ≤ 31) : lastOf l 32 = l := by
  unfold lastOf; rw [if_neg (by omega)]; split <;> omega
end Go.Proofs.YtphoclgibnhjfaaGreat
namespace Go.Proofs.YtphoclgibnhjfaaGreat
def zm (m : Int) : Int := if m < 3 then m + 12 else m
def zy (y m : Int) : Int := if m < 3 then y - 1 else y
theorem zm_lo {m : Int} (h : m < 3) : zm m = m + 12 := if_pos h
theorem zm_hi {m : Int} (h : 3 ≤ m) : zm m = m := if_neg (by omega)
theorem zy_lo {y m : Int} (h : m < 3) : zy y m = y - 1 := if_pos h
theorem zy_hi {y m : Int} (h : 3 ≤ m) : zy y m = y := if_neg (by omega)
theorem lv_eq (y : Int) : Cal.lv y = Cal.lp y - Cal.lp (y - 1) := by
  have h := Cal.lp_step y
  unfold Cal.lv Cal.leap
  by_cases e : Cal.lp (y - 1) < Cal.lp y
  · rw [decide_eq_true e, if_pos rfl]; omega
  · rw [decide_eq_false e, if_neg (by decide)]; omega
theorem zeller {d y t : Int} {m : Nat} (h : IsDate d y m t) : (t + 13 * (zm m + 1) / 5 + zy y m + zy y m / 4 - zy y m / 100 + zy y m / 400 + 5) % 7 = Cal.wd d := by
  obtain ⟨y1, y2, d1, d2, m1, m2, r1, r2, t0⟩ := h
  have hl := lv_eq y
  have hdb : Cal.db y = 365 * (y - 2000) + Cal.lp (y - 1) - 484 := rfl
  have hp : Cal.lp y = y / 4 - y / 100 + y / 400 := rfl
  have hq : Cal.lp (y - 1) = (y - 1) / 4 - (y - 1) / 100 + (y - 1) / 400 := rfl
  unfold Cal.wd
  clear r1 r2 d1 d2
  match m, m1, m2 with
  | 1, _, _ => rw [show Cal.cum y (1 - 1) = 0 from rfl] at t0; clear hp; rw [zm_lo (by decide), zy_lo (by decide)]; omega
  | 2, _, _ => rw [show (2 - 1 : Nat) = 1 from rfl, Cal.cum_1] at t0; clear hp; rw [zm_lo (by decide), zy_lo (by decide)]; omega
  | 3, _, _ => rw [show (3 - 1 : Nat) = 2 from rfl, Cal.cum_2] at t0; clear hq; rw [zm_hi (by decide), zy_hi (by decide)]; omega
  | 4, _, _ => rw [show (4 - 1 : Nat) = 3 from rfl, Cal.cum_3] at t0; clear hq; rw [zm_hi (by decide), zy_hi (by decide)]; omega
  | 5, _, _ => rw [show (5 - 1 : Nat) = 4 from rfl, Cal.cum_4] at t0; clear hq; rw [zm_hi (by decide), zy_hi (by decide)]; omega
  | 6, _, _ => rw [show (6 - 1 : Nat) = 5 from rfl, Cal.cum_5] at t0; clear hq; rw [zm_hi (by decide), zy_hi (by decide)]; omega
  | 7, _, _ => rw [show (7 - 1 : Nat) = 6 from rfl, Cal.cum_6] at t0; clear hq; rw [zm_hi (by decide), zy_hi (by decide)]; omega
  | 8, _, _ => rw [show (8 - 1 : Nat) = 7 from rfl, Cal.cum_7] at t0; clear hq; rw [zm_hi (by decide), zy_hi (by decide)]; omega
  | 9, _, _ => rw [show (9 - 1 : Nat) = 8 from rfl, Cal.cum_8] at t0; clear hq; rw [zm_hi (by decide), zy_hi (by decide)]; omega
  | 10, _, _ => rw [show (10 - 1 : Nat) = 9 from rfl, Cal.cum_9] at t0; clear hq; rw [zm_hi (by decide), zy_hi (by decide)]; omega
  | 11, _, _ => rw [show (11 - 1 : Nat) = 10 from rfl, Cal.cum_10] at t0; clear hq; rw [zm_hi (by decide), zy_hi (by decide)]; omega
  | 12, _, _ => rw [show (12 - 1 : Nat) = 11 from rfl, Cal.cum_11] at t0; clear hq; rw [zm_hi (by decide), zy_hi (by decide)]; omega
theorem date_uniq {d y t y' t' : Int} {m m' : Nat} (h : IsDate d y m t) (h' : IsDate d y' m' t') : y = y' ∧ m = m' ∧ t = t' := (date_eq_iff h h').2 rfl
theorem cum_step (y : Int) (m : Nat) (h : 1 ≤ m) : Cal.cum y m = Cal.cum y (m - 1) + Cal.ml y m := by
  obtain ⟨j, rfl⟩ : ∃ j, m = j + 1 := ⟨m - 1, by omega⟩
  rfl
theorem date_last : IsDate 99999 2273 10 15 := by constructor <;> decide
/-- The date of the next day. -/
theorem date_next {d y t y' t' : Int} {m m' : Nat} (h : IsDate d y m t) (h1 : d < 99999) (h' : IsDate (d + 1) y' m' t') :
    (1 < t' ∧ y' = y ∧ m' = m ∧ t' = t + 1) ∨ (t' = 1 ∧ 28 ≤ t ∧ ((y' = y ∧ m' = m + 1) ∨ (y' = y + 1 ∧ m' = 1 ∧ m = 12 ∧ t = 31))) := by
  have hml := date_ml h
  have ht := date_t h
  have hb := Cal.ml_bd y m h.m1 h.m2
  have hc := cum_step y m h.m1
  have H := h
  obtain ⟨y1, y2, d1, d2, m1, m2, r1, r2, t0⟩ := h
  by_cases e : t + 1 ≤ Cal.ml y m
  · have : Cal.cum y m ≤ 365 + Cal.lv y := by have := cum_le y m 12 m2 (by omega); rw [Cal.cum_12] at this; exact this
    have hs := Cal.db_succ y
    have hn : IsDate (d + 1) y m (t + 1) := ⟨y1, y2, by omega, by omega, m1, m2, by omega, by omega, by omega⟩
    obtain ⟨a, b, c⟩ := date_uniq h' hn
    exact .inl ⟨by omega, a, b, c⟩
  · have et : t = Cal.ml y m := by omega
    by_cases em : m < 12
    · have hc2 := cum_step y (m + 1) (by omega)
      have hb2 := Cal.ml_bd y (m + 1) (by omega) (by omega)
      have : Cal.cum y (m + 1) ≤ 365 + Cal.lv y := by have := cum_le y (m + 1) 12 (by omega) (by omega); rw [Cal.cum_12] at this; exact this
      have hs := Cal.db_succ y
      rw [show m + 1 - 1 = m from rfl] at hc2
      have hn : IsDate (d + 1) y (m + 1) 1 := ⟨y1, y2, by omega, by omega, by omega, by omega, by rw [show m + 1 - 1 = m from rfl]; omega, by omega, by rw [show m + 1 - 1 = m from rfl]; omega⟩
      obtain ⟨a, b, c⟩ := date_uniq h' hn
      exact .inr ⟨c, by omega, .inl ⟨a, b⟩⟩
    · obtain rfl : m = 12 := by omega
      have h12 := Cal.cum_12 y
      have hs := Cal.db_succ y
      have hs2 := Cal.db_succ (y + 1)
      have hl2 := Cal.lv_bd (y + 1)
      have e31 : Cal.ml y 12 = 31 := by rw [Cal.ml_ne y 12 (by decide)]; rfl
      have hy : y + 1 ≤ 2273 := by
        have : ¬ y = 2273 := by
          rintro rfl
          have : Cal.db (2273 + 1) = 100077 := by decide
          omega
        omega
      have hn : IsDate (d + 1) (y + 1) 1 1 := ⟨by omega, hy, by omega, by omega, by omega, by omega, by rw [show Cal.cum (y + 1) (1 - 1) = 0 from rfl]; omega, by rw [Cal.cum_1]; omega, by rw [show Cal.cum (y + 1) (1 - 1) = 0 from rfl]; omega⟩
      obtain ⟨a, b, c⟩ := date_uniq h' hn
      exact .inr ⟨c, by omega, .inr ⟨a, b, rfl, by omega⟩⟩
end Go.Proofs.YtphoclgibnhjfaaGreat
