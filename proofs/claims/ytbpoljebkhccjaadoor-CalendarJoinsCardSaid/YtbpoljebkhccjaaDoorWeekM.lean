/- calendar.weekMasks. -/
import Derived.Test.YtbpoljebkhccjaaDoorMapF
import Derived.Test.YtbpoljebkhccjaaDoorCal3
import Derived.OwnWalk
namespace Go.Proofs.YtbpoljebkhccjaaDoor
open Go Go.RowKit Go.ChangeMaps Go.MapKept
/-- A day's bit in a mask. -/
def orDay (m d : Int) : Int := bits BinOp.or IntKind.i64 m (IntKind.i64.wrap (2 ^ (Cal.wd d).toNat))
def wkStep (F : Int → Int) (d : Int) : Int → Int := fun z => if z = (d + 5) / 7 then orDay (F ((d + 5) / 7)) d else F z
def wkF (ds : List Int) : Int → Int := ds.foldl wkStep (fun _ => 0)
theorem wkF_take (ds : List Int) (k : Nat) (h : k < ds.length) : wkF (ds.take (k + 1)) = wkStep (wkF (ds.take k)) ds[k] := by
  unfold wkF
  rw [← List.take_append_getElem h, List.foldl_append]
  rfl
set_option maxRecDepth 100000 in
set_option maxHeartbeats 2000000 in
theorem weekMasks_v (b off cap : Nat) (ds : List Int) (w : World) (hb : b < w.heap.size) (hc : ∀ j (h : j < ds.length), w.cell? ⟨b, off + j, none⟩ = some (.int .i64 ds[j])) (hf : ∀ j, j < ds.length → w.frozen? ⟨b, off + j, none⟩ = false)
    (hd : ∀ d ∈ ds, 0 ≤ d ∧ d ≤ 1000000) (hl : ds.length ≤ 512) :
    Calls Tryd.prog 61 #[.slice (some ⟨b, off, none⟩) ds.length cap] w fun r w' => r = .returned (.map (some w.heap.size)) ∧ MapF w' w.heap.size ds.length (wkF ds) ∧ Below w.heap.size w w' := by
  have hmm := @run_makeMap Tryd.prog
  go_enter Tryd.func61, Tryd.ntmps61
  go_wp2
  go_loopw [9] (fun i wr => ∃ k : Nat, k ≤ ds.length ∧ i = .int .i64 k ∧ MapF wr w.heap.size k (wkF (ds.take k)) ∧ Below w.heap.size w wr)
    (fun i _ => ds.length - (intOf i).toNat)
  case atStart => exact ⟨0, Nat.zero_le _, rfl, MapF.made w, (Below.refl _ _).alloc (Nat.le_refl _) _⟩
  case round =>
    obtain ⟨k, hk, rfl, hown, hnx⟩ := hrel
    by_cases hlt : k < ds.length
    · obtain ⟨x, hx⟩ : ∃ x, x = ds[k] := ⟨_, rfl⟩
      have hbd := hd ds[k] (List.getElem_mem hlt)
      have hcx : wr.cell? ⟨b, off + k, none⟩ = some (.int .i64 x) := by rw [hx]; exact (hnx.cell (by exact hb)).trans (hc k hlt)
      have hfx : wr.frozen? ⟨b, off + k, none⟩ = false := by rw [hnx.frozen hb]; exact hf k hlt
      rw [← hx] at hbd
      have hT := wkF_take ds k hlt
      rw [← hx] at hT
      clear hx
      have hl2 := hown.below (below_drew wr)
      have hrun := hl2.look (wf_small (x := (x + 5) / 7) (by omega) (by omega))
      have hw1 : 0 ≤ Cal.wd x := by unfold Cal.wd; omega
      have hw2 : Cal.wd x ≤ 64 := by unfold Cal.wd; omega
      go_wp2_with fail
      refine still_tail 8 (by kernel_rfl) (by kernel_rfl) ?_
      simp only [List.take_succ_cons, List.take_zero, List.drop_succ_cons, List.drop_zero]
      repeat (refine wpStill_step (fun K hK => ?_); go_simp; (first | (with_reducible refine hK _ ?_) | (with_reducible refine ⟨_, week_any _ _ (by omega) (by omega), hK _ ?_⟩) | (with_reducible refine ⟨_, weekday_any _ _ (by omega) (by omega), hK _ ?_⟩)); clear hK K)
      refine wpStill_nil ?_
      obtain ⟨D, hmap, hat⟩ := hl2
      have hnx2 := hnx.drew
      obtain ⟨V, hV⟩ : ∃ V, wr.drew = V := ⟨_, rfl⟩
      rw [hV] at hmap hnx2 ⊢
      clear hV hrun hown hnx hcx hfx
      go_wp2_with (first
        | (at_mapUpdate; refine wpList_mapUpdate_own _ rfl _ _ _ 101 rfl 3 3 keyInt Tryd.underlying101 _ w.heap.size k _ rfl hmap (by unfold maxLen; omega) _ _ _ rfl rfl (Go.Maps.keyOf_int_mk Tryd.underlying3 (wf_small (by omega) (by omega))) _ [] (plainElem_int Tryd.underlying3 (wf_bits _ _ _ _)) ?_)
        | fail)
      intro w1 hown1 hgrow1
      have R1 : MapF w1 w.heap.size (k + 1) (wkF (ds.take (k + 1))) := by
        rw [hT]
        exact MapF.put hat hmap.isMap hown1
      have R2 := hnx2.grown hgrow1 hnx2.size (fun j hj => by cases hj; exact Nat.le_refl _)
      clear hown1 hgrow1 hmap hat hT
      go_wp2_with fail
      go_roundw
      case rel => exact ⟨k + 1, by omega, by go_num, R1, R2⟩
      case measure => simp [intOf]; omega
    · have : k = ds.length := by omega
      subst this
      rw [List.take_length] at hown
      go_wp2
      go_ret
      exact ⟨rfl, hown, hnx⟩
end Go.Proofs.YtbpoljebkhccjaaDoor
