/- Contract of message.Pairs: requests that are linked, for every list of requests. -/
import Derived.Test.YtnakmgeompjhpaaGreatIndexQ
import Derived.Laws.AppendOwn
import Derived.OwnWalk
import Derived.Laws.Rows
import Derived.Deep.AppendLies
namespace Go.Proofs.YtnakmgeompjhpaaGreat
open Go Go.RowKit Go.ChangeMaps Go.MapKept
def prFlat (l : List (Int × Int)) : List Value := (l.map fun s => [Value.int .i64 s.1, Value.int .i64 s.2]).flatten
theorem prFlat_snoc (l : List (Int × Int)) (a b : Int) : prFlat (l ++ [(a, b)]) = prFlat l ++ [.int .i64 a, .int .i64 b] := by simp [prFlat]
theorem pr_down {w : World} {base base' : Nat} {e : TypeId} {size : Nat} {v : Value} {n : Nat} {xs : List Value} (h : w.ownsRow base e size v n xs) (hb : base' ≤ base) : w.ownsRow base' e size v n xs := by
  refine ⟨h.1, ?_⟩
  rcases h.2 with h0 | ⟨g, cap, cur, hv, hg, r⟩
  · exact .inl h0
  · exact .inr ⟨g, cap, cur, hv, Nat.le_trans hb hg, r⟩
theorem pr_below {w w' : World} {base : Nat} {e : TypeId} {size : Nat} {v : Value} {n : Nat} {xs : List Value} (h : w.ownsRow base e size v n xs) (hb : Below w.heap.size w w') : w'.ownsRow base e size v n xs :=
  h.kept (grown_below hb) (by cases h : v.ownBlock with
    | none => exact .inl rfl
    | some k => exact .inr (by simp))
theorem pr_blk {w : World} {base : Nat} {e : TypeId} {size : Nat} {v : Value} {n : Nat} {xs : List Value} (h : w.ownsRow base e size v n xs) : ∀ k, v.ownBlock = some k → base ≤ k := by
  intro k hk
  rcases h.2 with ⟨hv, _⟩ | ⟨g, cap, cur, hv, hb, _⟩
  · subst hv; simp [Value.ownBlock] at hk
  · subst hv; simp only [Value.ownBlock, Option.some.injEq] at hk; omega
theorem prInfo : (Tryz.prog.info? 77).map (fun i => (i.zero, i.size, i.bytes)) = some (some (.agg #[.int .i64 0, .int .i64 0]), 2, 16) := by kernel_rfl
theorem prInfo_parts : ∃ i0, Tryz.prog.info? 77 = some i0 ∧ i0.zero = some (.agg #[.int .i64 0, .int .i64 0]) ∧ i0.size = 2 ∧ i0.bytes = 16 := by
  have h := prInfo
  cases hp : Tryz.prog.info? 77 with
  | none => rw [hp] at h; simp at h
  | some i => rw [hp] at h; simp only [Option.map_some, Option.some.injEq, Prod.mk.injEq] at h; exact ⟨i, rfl, h.1, h.2.1, h.2.2⟩
theorem heap_new (w : World) (o : Obj) : (w.alloc o).heap[w.heap.size]? = some o := by
  show (w.heap.push _)[_]? = _; simp
theorem ReqW.below {w w' : World} {b : Nat} {q : ReqV} (h : ReqW w b q) (hb : Below w.heap.size w w') : ReqW w' b q :=
  ⟨b_old hb h.c0, b_old hb h.c1, b_old hb h.c2, b_old hb h.c3, b_old hb h.c4, b_old hb h.c5, b_old hb h.c6, b_old hb h.c7, b_old hb h.c8, b_old hb h.c9, b_old hb h.c10, b_old hb h.c11, b_old hb h.c12⟩
/-- What message.Pairs does from the request i on. -/
def pairsGo (L : List ReqV) : List ReqV → Nat → List (Int × Int) → List (Int × Int) × Int
  | [], _, acc => (acc, 0)
  | q :: r, i, acc =>
    if (q.link.toList == []) = true then pairsGo L r (i + 1) acc
    else if findIx q.link L 0 < 0 then ([], 10)
    else if fitsB q (L.getD (findIx q.link L 0).toNat default) = false then ([], 32)
    else if (q.kind.toList == [65]) = true then pairsGo L r (i + 1) (acc ++ [((i : Int), findIx q.link L 0)])
    else pairsGo L r (i + 1) acc
theorem pairsGo_drop (L l : List ReqV) (k : Nat) (h : k < l.length) (q : ReqV) (hq : l.getD k default = q) (acc : List (Int × Int)) :
    pairsGo L (l.drop k) k acc =
      if (q.link.toList == []) = true then pairsGo L (l.drop (k + 1)) (k + 1) acc
      else if findIx q.link L 0 < 0 then ([], 10)
      else if fitsB q (L.getD (findIx q.link L 0).toNat default) = false then ([], 32)
      else if (q.kind.toList == [65]) = true then pairsGo L (l.drop (k + 1)) (k + 1) (acc ++ [((k : Int), findIx q.link L 0)])
      else pairsGo L (l.drop (k + 1)) (k + 1) acc := by
  subst hq
  rw [List.drop_eq_getElem_cons h]
  simp only [List.getD_eq_getElem?_getD, List.getElem?_eq_getElem h, Option.getD_some]
  rfl
def pairsOf (l : List ReqV) : List (Int × Int) × Int := if reqsErr l ≠ 0 then ([], reqsErr l) else pairsGo l l 0 []
set_option maxRecDepth 100000 in
set_option maxHeartbeats 4000000 in
theorem Pairs_any (l : List ReqV) (b off cap : Nat) (w : World) (hl : RqsAt w b off l) (hbs : b < w.heap.size) (hs : ∀ k, k < l.length → (l.getD k default).name.size ≤ maxLen) :
    Calls Tryz.prog 7 #[.slice (some ⟨b, off, none⟩) l.length cap] w fun r w' =>
      ∃ v, r = .returned (.tuple #[v, .int .i64 (pairsOf l).2]) ∧ w'.ownsRow w.heap.size 77 2 v (pairsOf l).1.length (prFlat (pairsOf l).1) ∧ Below w.heap.size w w' := by
  have hH := checkReqs_any l b off cap w hl hbs hs
  have HL := Lib.hid hl
  have HP : Hid (pairsOf l = if reqsErr l ≠ 0 then ([], reqsErr l) else pairsGo l l 0 []) := Lib.hid rfl
  have hle : reqsErr l = 0 → l.length ≤ 64 := by
    intro h
    unfold reqsErr at h
    by_cases h2 : 64 < l.length
    · rw [if_pos h2] at h; omega
    · omega
  clear hl hs
  generalize reqsErr l = re at *
  obtain ⟨i0, hi, hz0, hz1, hz2⟩ := prInfo_parts
  go_enter Tryz.func7, Tryz.ntmps7
  go_wp2_with fail
  refine hH.mono ?_
  rintro e1 w1 ⟨rfl, hb1⟩
  by_cases hre : re = 0
  · subst hre
    have hlen := hle rfl
    have HG : Hid (pairsOf l = pairsGo l l 0 []) := Lib.hid (by rw [HP.out, if_neg (by simp)])
    have HL1 : Hid (RqsAt w1 b off l) := Lib.hid (HL.out.below hb1)
    have hb0 : ((0 : Int) != 0) = false := rfl
    clear HP HL hH hle
    go_wp2_with fail
    go_loopw [5, 16] (fun v5 v16 wr => ∃ (k : Nat) (acc : List (Int × Int)), k ≤ l.length ∧ v16 = .int .i64 k ∧ Hid (pairsOf l = pairsGo l (l.drop k) k acc) ∧ acc.length ≤ k ∧
        wr.ownsRow w1.heap.size 77 2 v5 acc.length (prFlat acc) ∧ Hid (RqsAt wr b off l) ∧ Hid (Below w1.heap.size w1 wr)) (fun _ i _ => l.length - (intOf i).toNat)
    case atStart => exact ⟨0, [], Nat.zero_le _, rfl, Lib.hid (by rw [HG.out]; simp), by simp, World.ownsRow_nil _ _ _ _, HL1, Lib.hid (Below.refl _ _)⟩
    case round =>
      obtain ⟨k, acc, hk, rfl, HF, hacc, hown, HQ, HB⟩ := hrel
      by_cases hlt : k < l.length
      · have hd := pairsGo_drop l l k hlt _ rfl acc
        have hrow := HQ.out.row hlt rfl
        generalize l.getD k default = q at hd hrow
        obtain ⟨W, HW, hbW, R⟩ := req_new wr q 25
        have hix := fun w hl => indexQ_any q.link l b off cap w hl (by omega)
        have HFit := fun (r : ReqV) => fits_any q r
        have HD := Lib.hid (HF.out.trans hd)
        clear hd HF
        have hownW := pr_below hown hbW
        have HQW : Hid (RqsAt W b off l) := Lib.hid (HQ.out.below hbW)
        have HBW : Hid (Below w1.heap.size w1 W) := Lib.hid (b_then HB.out hbW)
        obtain ⟨fitq, hfitq⟩ : ∃ f : ReqV → Bool, f = fitsB q := ⟨_, rfl⟩
        rw [← hfitq] at HD HFit
        clear hfitq
        obtain ⟨qa, qb, qc, qd, qe, qf, qg, qh, qi, qj, qk, ql, qm⟩ := q
        dsimp only [ReqV.cells] at HFit hrow HW
        dsimp only at HD hix
        obtain ⟨x0, x1, x2, x3, x4, x5, x6, x7, x8, x9, x10, x11, x12⟩ := hrow
        obtain ⟨r0, r1, r2, r3, r4, r5, r6, r7, r8, r9, r10, r11, r12⟩ := R
        dsimp only at r0 r1 r2 r3 r4 r5 r6 r7 r8 r9 r10 r11 r12
        cases hlk : (qf.toList == ([] : List UInt8))
        · rw [hlk, if_neg (by simp)] at HD
          go_wp2_with fail
          rw [HW.out]
          refine (hix W HQW.out).mono ?_
          rintro e2 w2 ⟨rfl, hb2⟩
          have hown2 := pr_below hownW hb2
          have HQ2 : Hid (RqsAt w2 b off l) := Lib.hid (HQW.out.below hb2)
          have HB2 : Hid (Below w1.heap.size w1 w2) := Lib.hid (b_then HBW.out hb2)
          have hat := findIx_at qf l 0
          have r0 := b_old hb2 r0
          have r1 := b_old hb2 r1
          have r2 := b_old hb2 r2
          have r3 := b_old hb2 r3
          have r4 := b_old hb2 r4
          have r5 := b_old hb2 r5
          have r6 := b_old hb2 r6
          have r7 := b_old hb2 r7
          have r8 := b_old hb2 r8
          have r9 := b_old hb2 r9
          have r10 := b_old hb2 r10
          have r11 := b_old hb2 r11
          have r12 := b_old hb2 r12
          clear x0 x1 x2 x3 x4 x5 x6 x7 x8 x9 x10 x11 x12 hix HW hown hownW HQW HBW HQ HB hb2 hbW
          generalize findIx qf l 0 = o at *
          rcases hat with rfl | ⟨j, hj, ho⟩
          · have HE := Lib.hid (show pairsOf l = ([], 10) by rw [HD.out, if_pos (by decide)])
            go_wp2_with fail
            go_ret2
            rw [HE.out]
            exact ⟨_, rfl, World.ownsRow_nil _ _ _ _, b_then hb1 HB2.out⟩
          · rw [Nat.zero_add] at ho
            subst ho
            have hrowj := HQ2.out.row hj rfl
            rw [if_neg (by omega), Int.toNat_natCast] at HD
            generalize l.getD j default = r at hrowj HD
            have hfr := HFit r
            obtain ⟨y0, y1, y2, y3, y4, y5, y6, y7, y8, y9, y10, y11, y12⟩ := hrowj
            generalize fitq r = ft at HD hfr
            clear HFit
            go_wp2_with fail
            have k0 : ∀ x : KeptW w2, x.v.cell? ⟨wr.heap.size, 0, none⟩ = _ := fun x => x.cell r0
            have k1 : ∀ x : KeptW w2, x.v.cell? ⟨wr.heap.size, 1, none⟩ = _ := fun x => x.cell r1
            have k2 : ∀ x : KeptW w2, x.v.cell? ⟨wr.heap.size, 2, none⟩ = _ := fun x => x.cell r2
            have k3 : ∀ x : KeptW w2, x.v.cell? ⟨wr.heap.size, 3, none⟩ = _ := fun x => x.cell r3
            have k4 : ∀ x : KeptW w2, x.v.cell? ⟨wr.heap.size, 4, none⟩ = _ := fun x => x.cell r4
            have k5 : ∀ x : KeptW w2, x.v.cell? ⟨wr.heap.size, 5, none⟩ = _ := fun x => x.cell r5
            have k6 : ∀ x : KeptW w2, x.v.cell? ⟨wr.heap.size, 6, none⟩ = _ := fun x => x.cell r6
            have k7 : ∀ x : KeptW w2, x.v.cell? ⟨wr.heap.size, 7, none⟩ = _ := fun x => x.cell r7
            have k8 : ∀ x : KeptW w2, x.v.cell? ⟨wr.heap.size, 8, none⟩ = _ := fun x => x.cell r8
            have k9 : ∀ x : KeptW w2, x.v.cell? ⟨wr.heap.size, 9, none⟩ = _ := fun x => x.cell r9
            have k10 : ∀ x : KeptW w2, x.v.cell? ⟨wr.heap.size, 10, none⟩ = _ := fun x => x.cell r10
            have k11 : ∀ x : KeptW w2, x.v.cell? ⟨wr.heap.size, 11, none⟩ = _ := fun x => x.cell r11
            have k12 : ∀ x : KeptW w2, x.v.cell? ⟨wr.heap.size, 12, none⟩ = _ := fun x => x.cell r12
            have j0 : ∀ x : KeptW w2, x.v.cell? ⟨b, off + j * 13, none⟩ = _ := fun x => x.cell y0
            have j1 : ∀ x : KeptW w2, x.v.cell? ⟨b, off + j * 13 + 1, none⟩ = _ := fun x => x.cell y1
            have j2 : ∀ x : KeptW w2, x.v.cell? ⟨b, off + j * 13 + 2, none⟩ = _ := fun x => x.cell y2
            have j3 : ∀ x : KeptW w2, x.v.cell? ⟨b, off + j * 13 + 3, none⟩ = _ := fun x => x.cell y3
            have j4 : ∀ x : KeptW w2, x.v.cell? ⟨b, off + j * 13 + 4, none⟩ = _ := fun x => x.cell y4
            have j5 : ∀ x : KeptW w2, x.v.cell? ⟨b, off + j * 13 + 5, none⟩ = _ := fun x => x.cell y5
            have j6 : ∀ x : KeptW w2, x.v.cell? ⟨b, off + j * 13 + 6, none⟩ = _ := fun x => x.cell y6
            have j7 : ∀ x : KeptW w2, x.v.cell? ⟨b, off + j * 13 + 7, none⟩ = _ := fun x => x.cell y7
            have j8 : ∀ x : KeptW w2, x.v.cell? ⟨b, off + j * 13 + 8, none⟩ = _ := fun x => x.cell y8
            have j9 : ∀ x : KeptW w2, x.v.cell? ⟨b, off + j * 13 + 9, none⟩ = _ := fun x => x.cell y9
            have j10 : ∀ x : KeptW w2, x.v.cell? ⟨b, off + j * 13 + 10, none⟩ = _ := fun x => x.cell y10
            have j11 : ∀ x : KeptW w2, x.v.cell? ⟨b, off + j * 13 + 11, none⟩ = _ := fun x => x.cell y11
            have j12 : ∀ x : KeptW w2, x.v.cell? ⟨b, off + j * 13 + 12, none⟩ = _ := fun x => x.cell y12
            have hne : Nonempty (KeptW w2) := ⟨⟨w2, Below.refl _ _⟩⟩
            refine region_kept (by kernel_rfl) (by kernel_rfl) ?_
            iterate 5 (go_big_quiet_step (fail))
            go_big_quiet_step (exact KeptW.calls (hfr _))
            go_big_quiet_step (fail)
            refine wpQuiet_nil ?_
            rintro _ ⟨x, rfl⟩
            have hownx := pr_below hown2 x.below
            have HQx : Hid (RqsAt x.v b off l) := Lib.hid (HQ2.out.below x.below)
            have HBx : Hid (Below w1.heap.size w1 x.v) := Lib.hid (b_then HB2.out x.below)
            have z2 := k2 x
            clear k0 k1 k2 k3 k4 k5 k6 k7 k8 k9 k10 k11 k12 j0 j1 j2 j3 j4 j5 j6 j7 j8 j9 j10 j11 j12 hown2 HQ2 HB2 hfr hne
            cases ft
            · have HE := Lib.hid (show pairsOf l = ([], 32) by rw [HD.out, if_pos rfl])
              go_wp2_with fail
              go_ret2
              rw [HE.out]
              exact ⟨_, rfl, World.ownsRow_nil _ _ _ _, b_then hb1 HBx.out⟩
            · rw [if_neg (by simp)] at HD
              cases hkd : (qc.toList == [65])
              · rw [hkd, if_neg (by simp)] at HD
                go_wp2_with fail
                refine ⟨⟨k + 1, acc, by omega, by go_num, HD, by omega, hownx, HQx, HBx⟩, by simp [intOf]; omega⟩
              · rw [hkd, if_pos rfl] at HD
                go_wp2_with (at_builtin; refine Hid.out ?_)
                refine Lib.hid ?_
                have hsx := HBx.out.size
                refine wpList_append_own _ rfl _ _ 30 rfl w1.heap.size 77 i0 (.agg #[.int .i64 0, .int .i64 0]) 2 16 Tryz.underlying30 hi hz0 hz1 hz2 rfl (by decide) _ acc.length _ rfl (hownx.alloc _) ⟨x.v.heap.size, 0, none⟩ 1 1 [.int .i64 k, .int .i64 j] rfl rfl
                  (World.news_of_block (cs := #[.int .i64 k, .int .i64 j]) (t := 77) (fr := (0, 0)) (heap_new x.v _)) (by simp [Value.oneCell']) (by unfold maxLen; omega) (by omega) (by simp; omega) ?_
                intro v' w4 hown' hgrow _
                have hgrow2 : (x.v.alloc (.cells #[.int .i64 k, .int .i64 j] 77)).grownBy w4 u5.ownBlock := hgrow
                have hb4 : Below w1.heap.size w1 w4 := HBx.out.trans (((Below.refl _ x.v).alloc HBx.out.size _).grown hgrow2 (by have := HBx.out.size; simp; omega) (pr_blk hownx))
                have HQ4 : Hid (RqsAt w4 b off l) := Lib.hid ⟨fun k hk t v hv => by
                  have hbl : b < w1.heap.size := Nat.lt_of_lt_of_le hbs hb1.size
                  rw [hb4.cell (p := ⟨b, _, none⟩) hbl]; exact HL1.out.c k hk t v hv⟩
                clear hgrow hgrow2 hownx
                rw [← prFlat_snoc] at hown'
                go_wp2_with fail
                refine ⟨⟨k + 1, acc ++ [((k : Int), (j : Int))], by omega, by go_num, HD, by simp; omega, by simpa using hown', HQ4, Lib.hid hb4⟩, by simp [intOf]; omega⟩
        · rw [hlk, if_pos rfl] at HD
          clear HFit hix
          go_wp2_with fail
          rw [HW.out]
          refine ⟨⟨k + 1, acc, by omega, by go_num, HD, by omega, hownW, HQW, HBW⟩, by simp [intOf]; omega⟩
      · have hkn : k = l.length := by omega
        have HE := Lib.hid (show pairsOf l = (acc, 0) by rw [HF.out, List.drop_of_length_le (by omega)]; rfl)
        go_wp2_with fail
        go_ret2
        rw [HE.out]
        exact ⟨_, rfl, pr_down hown hb1.size, b_then hb1 HB.out⟩
  · have HG : Hid (pairsOf l = ([], re)) := Lib.hid (by rw [HP.out, if_pos hre])
    have hb0 : (re != 0) = true := by simpa using hre
    clear HP HL hH hle hre
    go_wp2_with fail
    go_ret2
    rw [HG.out]
    exact ⟨_, rfl, World.ownsRow_nil _ _ _ _, hb1⟩
end Go.Proofs.YtnakmgeompjhpaaGreat
