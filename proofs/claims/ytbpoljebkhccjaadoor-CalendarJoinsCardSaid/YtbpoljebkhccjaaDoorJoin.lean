/- calendar.Join. -/
import Derived.Test.YtbpoljebkhccjaaDoorJoinMath
import Derived.Test.YtbpoljebkhccjaaDoorStr
import Derived.Test.YtbpoljebkhccjaaDoorTailMv
import Derived.Test.YtbpoljebkhccjaaDoorIntsC
namespace Go.Proofs.YtbpoljebkhccjaaDoor
open Go Go.RowKit Go.ChangeMaps Go.MapKept
theorem infoPer : (Tryd.prog.info? 23).map (fun i => (i.zero, i.size, i.bytes)) = some (some (.agg #[.int .i64 0, .int .i64 0, .int .i64 0]), 3, 24) := by kernel_rfl
set_option maxRecDepth 100000 in
set_option maxHeartbeats 4000000 in
theorem Join_ok (b off cap : Nat) (ds : List Int) (w : World) (hb : b < w.heap.size) (hc : ∀ j, j < ds.length → w.cell? ⟨b, off + j, none⟩ = some (.int .i64 (ds.getD j 0))) (hf : ∀ j, j < ds.length → w.frozen? ⟨b, off + j, none⟩ = false)
    (he : ascErr ds = 0) (hcap : ds.length ≤ cap) :
    Calls Tryd.prog 20 #[.slice (some ⟨b, off, none⟩) ds.length cap] w fun r w' =>
      ∃ v j l, r = .returned (.tuple #[v, .int .i64 0]) ∧ JoinTo ds (wkF ds) j ds.length l ∧ w'.ownsRow w.heap.size 23 3 v l.length (flat3 l) ∧ Below w.heap.size w w' := by
  obtain ⟨hasc, hn⟩ := asc_of he
  have HASC := Lib.hid hasc
  have HE := Lib.hid he
  have HC := Lib.hid hc
  have HF := Lib.hid hf
  obtain ⟨i0, hi, hz0, hz1, hz2⟩ := info_parts infoPer
  clear hc hasc hf he
  go_enter Tryd.func20, Tryd.ntmps20
  go_wp2_with fail
  refine (checkAscending_v b off cap ds _ hb HC.out (by omega)).mono ?_
  rintro e w1 ⟨rfl, hb1⟩
  rw [HE.out]
  go_wp2_with fail
  refine (weekMasks_v b off cap ds w1 (Nat.lt_of_lt_of_le hb hb1.size) (fun j hj => ?_) (fun j hj => (hb1.frozen (by exact hb)).trans (HF.out j hj)) (fun d hd => ?_) hn).mono ?_
  · have := (hb1.cell (by exact hb)).trans (HC.out j hj)
    rw [this]; simp [hj]
  · have := HASC.out.bd d hd; omega
  rintro e w2 ⟨rfl, hM, hb2⟩
  obtain ⟨M, hMM⟩ : ∃ M, w1.heap.size = M := ⟨_, rfl⟩
  have hb12 : Below w.heap.size w w2 := b_then hb1 hb2
  have hs12 : w.heap.size ≤ w2.heap.size := hb12.size
  rw [hMM] at hM ⊢
  clear hMM hb1 hb2
  go_wp2_with fail
  go_loopw [0, 6] (fun v0 v6 wr => ∃ (j k : Nat) (l : List (Int × Int × Int)) (a : Option Addr), k ≤ ds.length ∧ v0 = .slice a (ds.length - k) (cap - k) ∧ (k < ds.length → a = some ⟨b, off + k, none⟩) ∧ l.length ≤ k ∧ Hid (JoinTo ds (wkF ds) j k l) ∧ Hid (Bd ds k) ∧
      wr.ownsRow w2.heap.size 23 3 v6 l.length (flat3 l) ∧ Below w2.heap.size w2 wr) (fun v0 _ _ => match v0 with | .slice _ n _ => n | _ => 0)
  case atStart => exact ⟨0, 0, [], _, Nat.zero_le _, rfl, fun _ => rfl, Nat.le_refl _, Lib.hid .zero, Lib.hid (Bd.zero HASC.out), World.ownsRow_nil _ _ _ _, Below.refl _ _⟩
  case round =>
    obtain ⟨j, k, l, a, hk, rfl, ha, hlk, HJ, HB, hown, hbr⟩ := hrel
    by_cases hlt : k < ds.length
    · have ha := ha hlt
      subst ha
      have hMr := hM.below hbr
      obtain ⟨x, hx⟩ : ∃ x, ds.getD k 0 = x := ⟨_, rfl⟩
      have hxb : 0 ≤ x ∧ x ≤ 99999 := by rw [← hx]; exact HASC.out.bd _ (getD_mem hlt)
      have hbw2 : b < w2.heap.size := Nat.lt_of_lt_of_le hb hs12
      have hcell : ∀ i, i < ds.length → wr.cell? ⟨b, off + i, none⟩ = some (.int .i64 (ds.getD i 0)) := fun i hi => (hbr.cell (by exact hbw2)).trans ((hb12.cell (by exact hb)).trans (HC.out i hi))
      have hc0 := hcell k hlt
      rw [hx] at hc0
      obtain ⟨m, hm7, hm, hpm⟩ := wkF_all HASC.out (wk x)
      go_wp2_with fail
      refine (runLength_v b (off + k) (ds.length - k) (cap - k) M ds.length m x (wkF ds) wr hc0 (by omega) (by omega) hMr hm hm7).mono ?_
      rintro e w3 ⟨⟨n, hRun, rfl⟩, rfl⟩
      have hRun' : RunOf (wkF ds) (wk (ds.getD k 0)) n := by rw [hx]; exact hRun
      obtain ⟨r1, r2, r3⟩ := run_end HASC.out hlt HB.out hRun' (by rw [hx]; exact hm)
      have HS : Hid (JStep ds (wkF ds) k l (k + n * popc m) (l ++ [(x, ds.getD (k + n * popc m - 1) 0, (m : Int))])) := Lib.hid ⟨hlt, n, hRun', by rw [hx, hm]; simp, by rw [hx, hm]⟩
      have HB' := Lib.hid r3
      obtain ⟨c, hcd⟩ : ∃ c, n * popc m = c := ⟨_, rfl⟩
      rw [hcd] at r1 r2 HB' HS ⊢
      have hc1 := hcell (k + c - 1) (by omega)
      obtain ⟨y, hy⟩ : ∃ y, ds.getD (k + c - 1) 0 = y := ⟨_, rfl⟩
      rw [hy] at hc1 HS
      have hc1' : w3.cell? ⟨b, off + k + (c - 1), none⟩ = some (.int .i64 y) := by rw [show off + k + (c - 1) = off + (k + c - 1) by omega]; exact hc1
      have hlook : ∀ q, (Instr.lookup 101 (.map (some M)) (.int .i64 ((x + 5) / 7)) false).run Tryd.prog (w3.drewN q) = .ok (.int .i64 m) (w3.drewN q) := fun q => by
        have := (hMr.below (show Below w3.heap.size w3 (w3.drewN q) from ⟨rfl, rfl, rfl, Nat.le_refl _, fun _ _ => rfl⟩)).look (wf_small (x := (x + 5) / 7) (by omega) (by omega))
        rwa [show wkF ds ((x + 5) / 7) = (m : Int) from hm] at this
      clear hRun hRun' hcd hx hy r3 hpm hcell hM hc1
      go_wp2_with fail
      refine quiet_tail_mv (v0 := u6) 16 (by kernel_rfl) (by kernel_rfl) rfl (Or.inl ⟨by rfl, fun w => by go_simp⟩) (fun _ _ _ h => h) ?_
      simp only [List.take_succ_cons, List.take_zero, List.drop_succ_cons, List.drop_zero]
      simp only [Act.put, List.setIfInBounds_toArray, List.set_cons_succ, List.set_cons_zero]
      repeat (first
        | go_big_quiet_step ((first
          | (go_at_call 63; exact Calls.quiet_of_same (week_any _ _ (by omega) (by omega))))))
      refine wpQuiet_nil ?_
      intro V hV
      have hbV : Below w3.heap.size w3 V := by obtain ⟨q, rfl⟩ := hV; exact ⟨rfl, rfl, rfl, Nat.le_refl _, fun _ _ => rfl⟩
      have hownV := own_below hown hbV
      have hsV : w2.heap.size ≤ V.heap.size := Nat.le_trans hbr.size hbV.size
      have hbr2 : Below w2.heap.size w2 V := b_then hbr hbV
      clear hV hlook hown hbr hMr hc0 hc1' hm hbV
      have hkk : l.length + 1 ≤ maxLen := by unfold maxLen; omega
      iterate 3 go_step
      refine wpList_append_own _ rfl _ _ 37 rfl w2.heap.size 23 i0 (.agg #[.int .i64 0, .int .i64 0, .int .i64 0]) 3 24 Tryd.underlying37 hi hz0 hz1 hz2 rfl (by decide) _ l.length _ rfl (hownV.alloc _) ⟨V.heap.size, 0, none⟩ 1 1 [.int .i64 x, .int .i64 y, .int .i64 m] rfl rfl
        (World.news_of_block (cs := #[.int .i64 x, .int .i64 y, .int .i64 m]) (t := 23) (fr := (0, 0)) (heap_alloc_new V _)) (by simp [Value.oneCell']) hkk (by omega) (by simp; omega) ?_
      intro v' w4 hown' hgrow _
      have hgrow2 : (V.alloc (.cells #[.int .i64 x, .int .i64 y, .int .i64 m] 23)).grownBy w4 u6.ownBlock := hgrow
      have hbr4 : Below w2.heap.size w2 w4 := hbr2.trans (((Below.refl _ V).alloc hsV _).grown hgrow2 (by simp; omega) (own_block hownV))
      clear hgrow hgrow2 hownV hbr2
      rw [← flat3_snoc] at hown'
      go_wp2_with fail
      refine ⟨⟨j + 1, k + c, l ++ [(x, y, (m : Int))], _, r2, by rw [Nat.sub_sub, Nat.sub_sub], fun hlt2 => ?_, by simp; omega, Lib.hid (.step HJ.out HS.out), HB', by simpa using hown', hbr4⟩, by show ds.length - k - c < ds.length - k; omega⟩
      rw [if_neg (by omega), Nat.add_assoc]
    · have hkn : k = ds.length := by omega
      subst hkn
      rw [Nat.sub_self]
      go_wp2_with fail
      go_ret2
      exact ⟨_, j, l, rfl, HJ.out, own_down hown hs12, b_then hb12 hbr⟩
end Go.Proofs.YtbpoljebkhccjaaDoor
