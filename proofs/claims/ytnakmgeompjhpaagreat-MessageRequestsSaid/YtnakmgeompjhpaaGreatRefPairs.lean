/- Contract of the reference's Pairs (requests without error). -/
import Derived.Test.YtnakmgeompjhpaaGreatRefReqs
namespace Go.Proofs.YtnakmgeompjhpaaGreat
open Go Go.RowKit Go.ChangeMaps Go.MapKept
set_option maxRecDepth 100000 in
set_option maxHeartbeats 8000000 in
theorem RefPairs_any (l : List ReqV) (b off cap : Nat) (w : World) (hl : RqsAt w b off l) (h9 : l.length ≤ 64) :
    Calls Tryz.prog 10 #[.slice (some ⟨b, off, none⟩) l.length cap] w fun r w' =>
      ∃ v, r = .returned (.tuple #[v, .int .i64 (pairsGo l l 0 []).2]) ∧ w'.ownsRow w.heap.size 77 2 v (pairsGo l l 0 []).1.length (prFlat (pairsGo l l 0 []).1) ∧ Below w.heap.size w w' := by
  have HL := Lib.hid hl
  clear hl
  obtain ⟨i0, hi, hz0, hz1, hz2⟩ := prInfo_parts
  obtain ⟨P, hP⟩ : ∃ P, P = pairsGo l l 0 [] := ⟨_, rfl⟩
  rw [← hP]
  have HG := Lib.hid hP
  clear hP
  go_enter Tryz.func10, Tryz.ntmps10
  go_wp2_with fail
  go_loopw [4, 5] (fun v4 v5 wr => ∃ (k : Nat) (acc : List (Int × Int)), k ≤ l.length ∧ v5 = .int .i64 k ∧ Hid (P = pairsGo l (l.drop k) k acc) ∧ acc.length ≤ k ∧
      wr.ownsRow w.heap.size 77 2 v4 acc.length (prFlat acc) ∧ Hid (Below w.heap.size w wr)) (fun _ i _ => l.length - (intOf i).toNat)
  case atStart => exact ⟨0, [], Nat.zero_le _, rfl, Lib.hid (by rw [HG.out]; simp), by simp, World.ownsRow_nil _ _ _ _, Lib.hid (Below.refl _ _)⟩
  case round =>
    obtain ⟨k, acc, hk, rfl, HF, hacc, hown, HB⟩ := hrel
    by_cases hlt : k < l.length
    · have hd := pairsGo_drop l l k hlt _ rfl acc
      have hrow := (HL.out.below HB.out).row hlt rfl
      have hat := fun (s : ByteArray) (w' : World) (hb : Below w.heap.size w w') => refAt_any s l l.length b off cap w' (HL.out.below hb) (Nat.le_refl _) (by omega)
      rw [List.take_length] at hat
      have HD := Lib.hid (HF.out.trans hd)
      clear hd HF
      generalize l.getD k default = q at hrow HD
      have hatq := hat q.link
      clear hat
      have hix := findIx_at q.link l 0
      generalize findIx q.link l 0 = o at *
      obtain ⟨qa, qb, qc, qd, qe, qf, qg, qh, qi, qj, qk, ql, qm⟩ := q
      dsimp only at HD hatq
      obtain ⟨x0, x1, x2, x3, x4, x5, x6, x7, x8, x9, x10, x11, x12⟩ := hrow
      clear x3 x4 x6 x7 x8 x9 x10 x11 x12
      dsimp only at x0 x1 x2 x5
      cases hlk : (qf.toList == ([] : List UInt8))
      · rw [hlk, if_neg (by simp)] at HD
        go_wp2_with fail
        refine (hatq _ HB.out).mono ?_
        rintro e2 _ ⟨rfl, m, rfl⟩
        clear hatq
        have hbm : Below wr.heap.size wr (wr.drewN m) := ⟨rfl, rfl, rfl, Nat.le_refl _, fun _ _ => rfl⟩
        have hown2 := pr_below hown hbm
        have HB2 : Hid (Below w.heap.size w (wr.drewN m)) := Lib.hid (b_then HB.out hbm)
        have y0 := b_old hbm x0
        have y1 := b_old hbm x1
        have y2 := b_old hbm x2
        have y5 := b_old hbm x5
        generalize wr.drewN m = w2 at *
        clear x0 x1 x2 x5 hown hbm HB
        rcases hix with rfl | ⟨j, hj, ho⟩
        · have HE := Lib.hid (show P = ([], 10) by rw [HD.out, if_pos (by decide)])
          go_wp2_with fail
          go_ret2
          rw [HE.out]
          exact ⟨_, rfl, World.ownsRow_nil _ _ _ _, HB2.out⟩
        · rw [Nat.zero_add] at ho
          subst ho
          obtain ⟨z0, z1, z2, z3, z4, z5, z6, z7, z8, z9, z10, z11, z12⟩ := (HL.out.below HB2.out).row hj rfl
          clear z3 z4 z6 z7 z8 z9 z10 z11 z12 z0
          rw [if_neg (by omega), Int.toNat_natCast] at HD
          generalize l.getD j default = r at z1 z2 z5 HD
          unfold fitsB at HD
          dsimp only at HD
          generalize r.link = rl at *
          generalize r.kind = rk at *
          generalize r.carrier = rc at *
          have k0 : ∀ x : KeptW w2, x.v.cell? ⟨b, off + k * 13, none⟩ = _ := fun x => x.cell y0
          have k1 : ∀ x : KeptW w2, x.v.cell? ⟨b, off + k * 13 + 1, none⟩ = _ := fun x => x.cell y1
          have k2 : ∀ x : KeptW w2, x.v.cell? ⟨b, off + k * 13 + 2, none⟩ = _ := fun x => x.cell y2
          have k5 : ∀ x : KeptW w2, x.v.cell? ⟨b, off + k * 13 + 5, none⟩ = _ := fun x => x.cell y5
          have j1 : ∀ x : KeptW w2, x.v.cell? ⟨b, off + j * 13 + 1, none⟩ = _ := fun x => x.cell z1
          have j2 : ∀ x : KeptW w2, x.v.cell? ⟨b, off + j * 13 + 2, none⟩ = _ := fun x => x.cell z2
          have j5 : ∀ x : KeptW w2, x.v.cell? ⟨b, off + j * 13 + 5, none⟩ = _ := fun x => x.cell z5
          have hne : Nonempty (KeptW w2) := ⟨⟨w2, Below.refl _ _⟩⟩
          clear y0 y1 y2 y5 z1 z2 z5
          have hbad : ((rl.toList == qa.toList) && (!(rk.toList == qc.toList) && (rc.toList == qb.toList))) = false → P = ([], 32) := fun h => by rw [HD.out, if_pos h]
          have hok : ((rl.toList == qa.toList) && (!(rk.toList == qc.toList) && (rc.toList == qb.toList))) = true → P = if (qc.toList == [65]) = true then pairsGo l (l.drop (k + 1)) (k + 1) (acc ++ [((k : Int), (j : Int))]) else pairsGo l (l.drop (k + 1)) (k + 1) acc := fun h => by rw [HD.out, if_neg (by simp [h])]
          cases h1 : (rl.toList == qa.toList)
          · have HE := Lib.hid (hbad (by rw [h1]; rfl))
            clear hbad hok HD
            go_wp2_with fail
            refine region_kept (by kernel_rfl) (by kernel_rfl) ?_
            iterate 37 (go_big_quiet_step (fail))
            refine wpQuiet_nil ?_
            rintro _ ⟨x, rfl⟩
            go_wp2_with fail
            go_ret2
            rw [HE.out]
            exact ⟨_, rfl, World.ownsRow_nil _ _ _ _, b_then HB2.out x.below⟩
          · cases h2 : (rk.toList == qc.toList)
            · cases h3 : (rc.toList == qb.toList)
              · have HE := Lib.hid (hbad (by rw [h1, h2, h3]; rfl))
                clear hbad hok HD
                go_wp2_with fail
                refine region_kept (by kernel_rfl) (by kernel_rfl) ?_
                iterate 37 (go_big_quiet_step (fail))
                refine wpQuiet_nil ?_
                rintro _ ⟨x, rfl⟩
                go_wp2_with fail
                go_ret2
                rw [HE.out]
                exact ⟨_, rfl, World.ownsRow_nil _ _ _ _, b_then HB2.out x.below⟩
              · have HE := Lib.hid (hok (by rw [h1, h2, h3]; rfl))
                clear hbad hok HD
                go_wp2_with fail
                refine region_kept (by kernel_rfl) (by kernel_rfl) ?_
                iterate 37 (go_big_quiet_step (fail))
                refine wpQuiet_nil ?_
                rintro _ ⟨x, rfl⟩
                have hownx := pr_below hown2 x.below
                have HBx : Hid (Below w.heap.size w x.v) := Lib.hid (b_then HB2.out x.below)
                have z2 := k2 x
                clear k0 k1 k2 k5 j1 j2 j5 hown2 HB2 hne
                cases hkd : (qc.toList == [65])
                · have HD := Lib.hid (HE.out.trans (by rw [hkd, if_neg (by simp)]))
                  clear HE
                  go_wp2_with fail
                  refine ⟨⟨k + 1, acc, by omega, by go_num, HD, by omega, hownx, HBx⟩, by simp [intOf]; omega⟩
                · have HD := Lib.hid (HE.out.trans (by rw [hkd, if_pos rfl]))
                  clear HE
                  go_wp2_with (at_builtin; refine Hid.out ?_)
                  refine Lib.hid ?_
                  have hsx := HBx.out.size
                  refine wpList_append_own _ rfl _ _ 30 rfl w.heap.size 77 i0 (.agg #[.int .i64 0, .int .i64 0]) 2 16 Tryz.underlying30 hi hz0 hz1 hz2 rfl (by decide) _ acc.length _ rfl (hownx.alloc _) ⟨x.v.heap.size, 0, none⟩ 1 1 [.int .i64 k, .int .i64 j] rfl rfl
                    (World.news_of_block (cs := #[.int .i64 k, .int .i64 j]) (t := 77) (fr := (0, 0)) (heap_new x.v _)) (by simp [Value.oneCell']) (by unfold maxLen; omega) (by omega) (by simp; omega) ?_
                  intro v' w4 hown' hgrow _
                  have hgrow2 : (x.v.alloc (.cells #[.int .i64 k, .int .i64 j] 77)).grownBy w4 u4.ownBlock := hgrow
                  have hb4 : Below w.heap.size w w4 := HBx.out.trans (((Below.refl _ x.v).alloc hsx _).grown hgrow2 (by simp; omega) (pr_blk hownx))
                  clear hgrow hgrow2 hownx
                  rw [← prFlat_snoc] at hown'
                  go_wp2_with fail
                  refine ⟨⟨k + 1, acc ++ [((k : Int), (j : Int))], by omega, by go_num, HD, by simp; omega, by simpa using hown', Lib.hid hb4⟩, by simp [intOf]; omega⟩
            · have HE := Lib.hid (hbad (by rw [h1, h2]; rfl))
              clear hbad hok HD
              go_wp2_with fail
              refine region_kept (by kernel_rfl) (by kernel_rfl) ?_
              iterate 37 (go_big_quiet_step (fail))
              refine wpQuiet_nil ?_
              rintro _ ⟨x, rfl⟩
              go_wp2_with fail
              go_ret2
              rw [HE.out]
              exact ⟨_, rfl, World.ownsRow_nil _ _ _ _, b_then HB2.out x.below⟩
      · rw [hlk, if_pos rfl] at HD
        clear hatq hix
        go_wp2_with fail
        refine ⟨⟨k + 1, acc, by omega, by go_num, HD, by omega, hown, HB⟩, by simp [intOf]; omega⟩
    · have HE := Lib.hid (show P = (acc, 0) by rw [HF.out, List.drop_of_length_le (by omega)]; rfl)
      go_wp2_with fail
      go_ret2
      rw [HE.out]
      exact ⟨_, rfl, hown, HB.out⟩
end Go.Proofs.YtnakmgeompjhpaaGreat
