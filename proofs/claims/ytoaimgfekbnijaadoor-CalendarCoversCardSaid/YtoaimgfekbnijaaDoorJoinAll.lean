/- Maps from integers to integers that a call owns, as functions. calendar.weekMasks. math/bits.OnesCount of a mask. calendar.runLength. calendar.checkAscending. The weeks of a list of days that ascends: masks, counts, runs. The reference's way of joining days, day by day: where a run ends. A run's period has exactly the run's days. The days of joined periods, one period after the other, are the list's. Every period of a join is valid. As quiet_tail, for a region whose first operation is a move that only the tail waits for: it is taken first. calendar.Join. calendar.Join: the error's side, and no days. -/
import Derived.Test.YtoaimgfekbnijaaDoorHeap
import Derived.Maps.Own
import Derived.Maps.Views
import Derived.Maps.OwnSet
import Derived.OpenShut
import Derived.Test.YtoaimgfekbnijaaDoorCal3
import Derived.OwnWalk
import Derived.WalkKit
import Derived.WalkMore
import Derived.Test.YtoaimgfekbnijaaDoorIter
import Derived.Test.YtoaimgfekbnijaaDoorTail
import Derived.Test.YtoaimgfekbnijaaDoorStr
import Derived.Test.YtoaimgfekbnijaaDoorIntsC
namespace Go.Proofs.YtoaimgfekbnijaaDoor
open Go Go.RowKit Go.ChangeMaps Go.MapKept
open Go.Maps (Keyed)
theorem keyInt : Keyed Tryd.prog 3 := Go.Maps.int_keyed Tryd.underlying3
theorem zero3 (w : World) : (zeroValue 3).run Tryd.prog w = .ok (.int .i64 0) w := by kernel_rfl
theorem wf_small {x : Int} (h1 : -1000000000 ≤ x) (h2 : x ≤ 1000000000) : (Lit.int .i64 x).wf = true := by
  have a : IntKind.min .i64 = -9223372036854775808 := by decide
  have b : IntKind.max .i64 = 9223372036854775807 := by decide
  simp only [Lit.wf, a, b, Bool.and_eq_true, decide_eq_true_eq]
  omega
/-- Block b is a map of at most n entries that has the value F x at each x. -/
def MapF (w : World) (b n : Nat) (F : Int → Int) : Prop :=
  ∃ D : DataW Unit, w.ownsMap Tryd.prog 3 (plainElem Tryd.prog 3) b n D ∧ ∀ x : Int, (Lit.int .i64 x).wf = true → D.atKey (.int .i64 x) (.lit (.int .i64 0)) = .lit (.int .i64 (F x))
theorem MapF.made (w : World) : MapF (w.alloc (.map #[] 0)) w.heap.size 0 (fun _ => 0) :=
  ⟨.map [], World.ownsMap_made w _ _ _, fun _ _ => rfl⟩
theorem MapF.below {w w' : World} {b n : Nat} {F : Int → Int} (h : MapF w b n F) (hb : Below w.heap.size w w') : MapF w' b n F := by
  obtain ⟨D, hown, hat⟩ := h
  exact ⟨D, hown.kept (show w.grownBy w' none from ⟨hb.os, hb.tape, hb.output, hb.size, fun i hi _ => hb.block i hi⟩) (by simp), hat⟩
theorem MapF.look {w : World} {b n : Nat} {F : Int → Int} (h : MapF w b n F) {x : Int} (hx : (Lit.int .i64 x).wf = true) :
    (Instr.lookup 101 (.map (some b)) (.int .i64 x) false).run Tryd.prog w = .ok (.int .i64 (F x)) w := by
  obtain ⟨D, hown, hat⟩ := h
  obtain ⟨c, hrun, h2, -⟩ := hown.lookup_int keyInt Tryd.underlying101 Tryd.underlying3 (zero3 _) (key := .int .i64 x) (Go.Maps.keyOf_int_mk Tryd.underlying3 hx)
  rw [hat x hx] at h2
  have e : F x = c := by
    simp only [DataW.lit.injEq, Lit.int.injEq, true_and] at h2
    exact h2
  rw [e]
  exact hrun
theorem MapF.put {w' : World} {b n : Nat} {F : Int → Int} {D : DataW Unit} {x v : Int} (hat : ∀ x : Int, (Lit.int .i64 x).wf = true → D.atKey (.int .i64 x) (.lit (.int .i64 0)) = .lit (.int .i64 (F x))) (hm : Go.Maps.IsMap D)
    (h : w'.ownsMap Tryd.prog 3 (plainElem Tryd.prog 3) b n (D.put (.int .i64 x) (.lit (.int .i64 v)))) : MapF w' b n (fun z => if z = x then v else F z) := by
  refine ⟨_, h, fun z hz => ?_⟩
  by_cases e : z = x
  · subst e
    show _ = DataW.lit (.int .i64 (if z = z then v else F z))
    rw [if_pos rfl]
    exact Go.Maps.atKey_put_same hm (by simp [WideAt.IsKeyLit]) _ _
  · show _ = DataW.lit (.int .i64 (if z = x then v else F z))
    rw [if_neg e, Go.Maps.atKey_put_other (fun h => e (by injection h))]
    exact hat z hz
end Go.Proofs.YtoaimgfekbnijaaDoor
namespace Go.Proofs.YtoaimgfekbnijaaDoor
open Go Go.RowKit Go.ChangeMaps Go.MapKept
/-- A day's bit in a mask. -/
def orDay (m d : Int) : Int := bits BinOp.or IntKind.i64 m (IntKind.i64.wrap (2 ^ (Cal.wd d).toNat))
def wkStep (F : Int → Int) (d : Int) : Int → Int := fun z => if z = (d + 5) / 7 then orDay (F ((d + 5) / 7)) d else F z
def wkF (ds : List Int) : Int → Int := ds.foldl wkStep (fun _ => 0)
theorem wkF_take (ds : List Int) (k : Nat) (h : k < ds.length) : wkF (ds.take (k + 1)) = wkStep (wkF (ds.take k)) ds[k] := by
  unfold wkF
  rw [← List.take_append_getElem h, List.foldl_append]
  rfl
set_option maxRecDepth 100000 in
set_option maxHeartbeats 2000000 in
theorem weekMasks_v (b off cap : Nat) (ds : List Int) (w : World) (hb : b < w.heap.size) (hc : ∀ j (h : j < ds.length), w.cell? ⟨b, off + j, none⟩ = some (.int .i64 ds[j])) (hf : ∀ j, j < ds.length → w.frozen? ⟨b, off + j, none⟩ = false)
    (hd : ∀ d ∈ ds, 0 ≤ d ∧ d ≤ 1000000) (hl : ds.length ≤ 512) :
    Calls Tryd.prog 61 #[.slice (some ⟨b, off, none⟩) ds.length cap] w fun r w' => r = .returned (.map (some w.heap.size)) ∧ MapF w' w.heap.size ds.length (wkF ds) ∧ Below w.heap.size w w' := by
  have hmm := @run_makeMap Tryd.prog
  go_enter Tryd.func61, Tryd.ntmps61
  go_wp2
  go_loopw [9] (fun i wr => ∃ k : Nat, k ≤ ds.length ∧ i = .int .i64 k ∧ MapF wr w.heap.size k (wkF (ds.take k)) ∧ Below w.heap.size w wr)
    (fun i _ => ds.length - (intOf i).toNat)
  case atStart => exact ⟨0, Nat.zero_le _, rfl, MapF.made w, (Below.refl _ _).alloc (Nat.le_refl _) _⟩
  case round =>
    obtain ⟨k, hk, rfl, hown, hnx⟩ := hrel
    by_cases hlt : k < ds.length
    · obtain ⟨x, hx⟩ : ∃ x, x = ds[k] := ⟨_, rfl⟩
      have hbd := hd ds[k] (List.getElem_mem hlt)
      have hcx : wr.cell? ⟨b, off + k, none⟩ = some (.int .i64 x) := by rw [hx]; exact (hnx.cell (by exact hb)).trans (hc k hlt)
      have hfx : wr.frozen? ⟨b, off + k, none⟩ = false := by rw [hnx.frozen hb]; exact hf k hlt
      rw [← hx] at hbd
      have hT := wkF_take ds k hlt
      rw [← hx] at hT
      clear hx
      have hl2 := hown.below (below_drew wr)
      have hrun := hl2.look (wf_small (x := (x + 5) / 7) (by omega) (by omega))
      have hw1 : 0 ≤ Cal.wd x := by unfold Cal.wd; omega
      have hw2 : Cal.wd x ≤ 64 := by unfold Cal.wd; omega
      go_wp2_with fail
      refine still_tail 8 (by kernel_rfl) (by kernel_rfl) ?_
      simp only [List.take_succ_cons, List.take_zero, List.drop_succ_cons, List.drop_zero]
      repeat (refine wpStill_step (fun K hK => ?_); go_simp; (first | (with_reducible refine hK _ ?_) | (with_reducible refine ⟨_, week_any _ _ (by omega) (by omega), hK _ ?_⟩) | (with_reducible refine ⟨_, weekday_any _ _ (by omega) (by omega), hK _ ?_⟩)); clear hK K)
      refine wpStill_nil ?_
      obtain ⟨D, hmap, hat⟩ := hl2
      have hnx2 := hnx.drew
      obtain ⟨V, hV⟩ : ∃ V, wr.drew = V := ⟨_, rfl⟩
      rw [hV] at hmap hnx2 ⊢
      clear hV hrun hown hnx hcx hfx
      go_wp2_with (first
        | (at_mapUpdate; refine wpList_mapUpdate_own _ rfl _ _ _ 101 rfl 3 3 keyInt Tryd.underlying101 _ w.heap.size k _ rfl hmap (by unfold maxLen; omega) _ _ _ rfl rfl (Go.Maps.keyOf_int_mk Tryd.underlying3 (wf_small (by omega) (by omega))) _ [] (plainElem_int Tryd.underlying3 (wf_bits _ _ _ _)) ?_)
        | fail)
      intro w1 hown1 hgrow1
      have R1 : MapF w1 w.heap.size (k + 1) (wkF (ds.take (k + 1))) := by
        rw [hT]
        exact MapF.put hat hmap.isMap hown1
      have R2 := hnx2.grown hgrow1 hnx2.size (fun j hj => by cases hj; exact Nat.le_refl _)
      clear hown1 hgrow1 hmap hat hT
      go_wp2_with fail
      go_roundw
      case rel => exact ⟨k + 1, by omega, by go_num, R1, R2⟩
      case measure => simp [intOf]; omega
    · have : k = ds.length := by omega
      subst this
      rw [List.take_length] at hown
      go_wp2
      go_ret
      exact ⟨rfl, hown, hnx⟩
end Go.Proofs.YtoaimgfekbnijaaDoor
namespace Go.Proofs.YtoaimgfekbnijaaDoor
open Go Go.RowKit
/-- How many weekdays a mask has. -/
def popc (m : Nat) : Nat := (List.range 7).countP (fun i => m / 2 ^ i % 2 == 1)
set_option maxRecDepth 100000 in
set_option maxHeartbeats 2000000 in
theorem ones64 (m : Nat) (h : m < 128) (w : World) :
    Calls Tryd.prog 100 #[.int .u64 m] w fun r w' => r = .returned (.int .i64 (popc m)) ∧ w' = w := by
  go_enter Tryd.func100, Tryd.ntmps100
  go_wp2_with fail
  go_ret
  refine ⟨ret_int ?_, rfl⟩
  clear w
  revert m
  decide +kernel
set_option maxRecDepth 100000 in
theorem ones (m : Nat) (h : m < 128) (w : World) :
    Calls Tryd.prog 91 #[.int .u64 m] w fun r w' => r = .returned (.int .i64 (popc m)) ∧ w' = w := by
  go_enter Tryd.func91, Tryd.ntmps91
  go_wp2_with fail
  refine (ones64 m h _).mono ?_
  rintro e w1 ⟨rfl, rfl⟩
  go_wp2_with fail
  go_ret
  exact ⟨rfl, rfl⟩
end Go.Proofs.YtoaimgfekbnijaaDoor
namespace Go.Proofs.YtoaimgfekbnijaaDoor
open Go Go.RowKit Go.ChangeMaps Go.MapKept
/-- n weeks from the week f on have f's mask, and the next has not. -/
def RunOf (F : Int → Int) (f : Int) (n : Nat) : Prop := n ≤ 57 ∧ (∀ i : Nat, i < n → F (f + i) = F f) ∧ (n = 57 ∨ F (f + n) ≠ F f)
set_option maxRecDepth 100000 in
set_option maxHeartbeats 2000000 in
theorem runLength_v (b off len cap B N m : Nat) (x : Int) (F : Int → Int) (w : World) (hc : w.cell? ⟨b, off, none⟩ = some (.int .i64 x)) (hlen : 0 < len)
    (hx : 0 ≤ x ∧ x ≤ 1000000) (hF : MapF w B N F) (hm : F ((x + 5) / 7) = m) (hm7 : m < 128) :
    Calls Tryd.prog 62 #[.slice (some ⟨b, off, none⟩) len cap, .map (some B)] w fun r w' => (∃ n, RunOf F ((x + 5) / 7) n ∧ r = .returned (.int .i64 ((n * popc m : Nat) : Int))) ∧ w' = w := by
  have hc0 : w.cell? ⟨b, off + 0, none⟩ = some (.int .i64 x) := hc
  have hl0 : (0 : Int) < (len : Int) := by omega
  have hl1 : ((0 : Int).toNat) < len := by simpa using hlen
  go_enter Tryd.func62, Tryd.ntmps62
  go_wp2_with fail
  go_step3
  go_wp2_with fail
  refine (week_any x _ (by omega) (by omega)).mono ?_
  rintro e w1 ⟨rfl, rfl⟩
  obtain ⟨f, hf⟩ : ∃ f, f = (x + 5) / 7 := ⟨_, rfl⟩
  have hfb : 0 ≤ f ∧ f ≤ 200000 := by omega
  rw [← hf] at hm ⊢
  have HF : Hid ((x + 5) / 7 = f) := Lib.hid hf.symm
  clear hf
  have hrun0 := hF.look (wf_small (x := f) (by omega) (by omega))
  rw [hm] at hrun0
  have hp : popc m ≤ 7 := by unfold popc; exact Nat.le_trans (List.countP_le_length ..) (by simp)
  go_wp2_with fail
  go_step3
  go_wp2_with fail
  go_loopw [6, 12] (fun l i wr => ∃ n : Nat, n ≤ 57 ∧ i = .int .i64 n ∧ l = .int .i64 ((n * popc m : Nat) : Int) ∧ (∀ i : Nat, i < n → F (f + i) = F f) ∧ wr = w1)
    (fun _ i _ => 57 - (intOf i).toNat)
  case atStart => exact ⟨0, by omega, rfl, by simp, fun i hi => absurd hi (by omega), rfl⟩
  case round =>
    obtain ⟨n, hn, rfl, rfl, hall, rfl⟩ := hrel
    by_cases hlt : n < 57
    · have hrun1 := hF.look (wf_small (x := f + n) (by omega) (by omega))
      obtain ⟨v, hv⟩ : ∃ v, F (f + n) = v := ⟨_, rfl⟩
      rw [hv] at hrun1
      have hmul : n * popc m ≤ 399 := Nat.le_trans (Nat.mul_le_mul (by omega) hp) (by decide)
      by_cases hvm : v = m
      · subst hvm
        obtain ⟨q, hq⟩ : ∃ q, n * popc m = q := ⟨_, rfl⟩
        rw [hq] at hmul ⊢
        go_wp2_with fail
        refine (ones m hm7 _).mono ?_
        rintro e w2 ⟨rfl, rfl⟩
        go_wp2_with fail
        go_roundw
        case rel => exact ⟨n + 1, by omega, by go_num, by rw [Nat.add_mul, hq]; go_num, fun i hi => by
          by_cases e : i = n
          · rw [e, hv, hm]
          · exact hall i (by omega), by first | rfl | trivial⟩
        case measure => simp [intOf]; omega
      · have hvb : (v == (m : Int)) = false := by simpa using hvm
        go_wp2_with fail
        simp only [Exit.noGoto]
        go_ret
        rw [HF.out]
        exact ⟨⟨n, ⟨hn, hall, .inr (by rw [hv, hm]; exact hvm)⟩, rfl⟩, rfl⟩
    · have hn57 : n = 57 := by omega
      subst hn57
      go_wp2_with fail
      simp only [Exit.noGoto]
      go_ret
      rw [HF.out]
      exact ⟨⟨57, ⟨hn, hall, .inl rfl⟩, rfl⟩, rfl⟩
end Go.Proofs.YtoaimgfekbnijaaDoor
namespace Go.Proofs.YtoaimgfekbnijaaDoor
open Go Go.RowKit
/-- The error at a place of a list of days that is to ascend. -/
def ascAt (ds : List Int) (k : Nat) : Int := fst [rng (ds.getD k 0) 0 99999, unl (decide (k = 0) || decide (ds.getD (k - 1) 0 < ds.getD k 0)) 11]
def ascL (ds : List Int) : List Int := (List.range ds.length).map (ascAt ds)
def ascErr (ds : List Int) : Int := if 512 < ds.length then 5 else fst (ascL ds)
theorem ascL_drop (ds : List Int) (k : Nat) (h : k < ds.length) : fst ((ascL ds).drop k) = if ascAt ds k = 0 then fst ((ascL ds).drop (k + 1)) else ascAt ds k := by
  rw [fst_drop _ _ (by simpa [ascL] using h)]
  simp [ascL, h]
set_option maxRecDepth 100000 in
theorem checkAscending_zero (A : Option Addr) (cap : Nat) (w : World) :
    Calls Tryd.prog 60 #[.slice A 0 cap] w fun r w' => r = .returned (.int .i64 0) ∧ w' = w := by
  go_enter Tryd.func60, Tryd.ntmps60
  go_wp2_with fail
  go_loopw [11] (fun i wr => i = .int .i64 0 ∧ wr = w) (fun _ _ => 0)
  case atStart => exact ⟨rfl, rfl⟩
  case round =>
    obtain ⟨rfl, rfl⟩ := hrel
    go_wp2_with fail
    go_ret
    exact ⟨rfl, rfl⟩
set_option maxRecDepth 100000 in
set_option maxHeartbeats 2000000 in
theorem checkAscending_v (b off cap : Nat) (ds : List Int) (w : World) (hb : b < w.heap.size) (hc : ∀ j, j < ds.length → w.cell? ⟨b, off + j, none⟩ = some (.int .i64 (ds.getD j 0))) (hn : ds.length ≤ 100000) :
    Calls Tryd.prog 60 #[.slice (some ⟨b, off, none⟩) ds.length cap] w fun r w' => r = .returned (.int .i64 (ascErr ds)) ∧ Below w.heap.size w w' := by
  by_cases hl : 512 < ds.length
  · have HE : Hid (ascErr ds = 5) := Lib.hid (by unfold ascErr; rw [if_pos hl])
    clear hc
    go_enter Tryd.func60, Tryd.ntmps60
    go_wp2_with fail
    go_ret
    exact ⟨by rw [HE.out]; rfl, Below.refl _ _⟩
  · have HE : Hid (ascErr ds = fst (ascL ds)) := Lib.hid (by unfold ascErr; rw [if_neg hl])
    have HC := Lib.hid hc
    clear hc
    go_enter Tryd.func60, Tryd.ntmps60
    go_wp2_with fail
    go_loopw [11] (fun i wr => ∃ k : Nat, k ≤ ds.length ∧ i = .int .i64 k ∧ Hid (fst (ascL ds) = fst ((ascL ds).drop k)) ∧ Below w.heap.size w wr) (fun i _ => ds.length - (intOf i).toNat)
    case atStart => exact ⟨0, Nat.zero_le _, rfl, Lib.hid (by simp), Below.refl _ _⟩
    case round =>
      obtain ⟨k, hk, rfl, HF, hbr⟩ := hrel
      by_cases hlt : k < ds.length
      · have hcell := (hbr.cell (by exact hb)).trans (HC.out k hlt)
        have HD : Hid (fst (ascL ds) = if ascAt ds k = 0 then fst ((ascL ds).drop (k + 1)) else ascAt ds k) := Lib.hid (HF.out.trans (ascL_drop ds k hlt))
        have HA : Hid (∀ g, (decide (k = 0) || decide (ds.getD (k - 1) 0 < ds.getD k 0)) = g → fst [rng (ds.getD k 0) 0 99999, unl g 11] = ascAt ds k) := Lib.hid (fun g hg => by unfold ascAt; rw [hg])
        have HP : Hid (0 < k → wr.cell? ⟨b, off + (k - 1), none⟩ = some (.int .i64 (ds.getD (k - 1) 0))) := Lib.hid (fun h0 => (hbr.cell (by exact hb)).trans (HC.out (k - 1) (by omega)))
        generalize hE : ascAt ds k = E at HD HA
        clear hE
        generalize ds.getD (k - 1) 0 = y at HA HP
        generalize ds.getD k 0 = x at HA hcell
        clear HF
        cases k with
        | zero =>
          have HE1 := Lib.hid (HA.out true (by simp))
          clear HA
          simp only [Nat.add_zero] at hcell
          go_wp2_with (first
            | (go_at_call 66; refine (checkDay_any _ _).mono ?_; rintro e w' ⟨rfl, rfl⟩)
            | (go_at_call 55; refine (unless_any _ _ _).mono ?_; rintro e w' ⟨rfl, rfl⟩))
          refine (fe_new [_, _] _ _ _ _ _ rfl rfl (by simp)).mono ?_
          rintro e w2 ⟨rfl, hw⟩
          have hbw : Below w.heap.size w w2 := by rw [hw]; exact b_then hbr (below_alloc _ _)
          clear hw
          rw [HE1.out]
          by_cases hE0 : E = 0
          · subst hE0
            have HF2 : Hid (fst (ascL ds) = fst ((ascL ds).drop (0 + 1))) := Lib.hid (by rw [HD.out, if_pos rfl])
            clear HD HE1
            go_wp2_with fail
            go_roundw
            case rel => exact ⟨0 + 1, by omega, by go_num, HF2, hbw⟩
            case measure => simp [intOf]; omega
          · have hEb : (E != 0) = true := by simpa using hE0
            have HZ : Hid (ascErr ds = E) := Lib.hid (by rw [HE.out, HD.out, if_neg hE0])
            clear HD HE1
            go_wp2_with fail
            go_ret
            exact ⟨by rw [HZ.out]; rfl, hbw⟩
        | succ j =>
          have hp := HP.out (by omega)
          have HE1 : Hid (fst [rng x 0 99999, unl (((j : Int) + 1 == 0) || decide (y < x)) 11] = E) := Lib.hid (HA.out _ (by
            have e : ((j : Int) + 1 == 0) = false := by rw [beq_eq_false_iff_ne]; omega
            rw [e]; simp))
          clear HP HA
          rw [Nat.add_sub_cancel] at hp
          go_wp2_with (first
            | (go_at_call 66; refine (checkDay_any _ _).mono ?_; rintro e w' ⟨rfl, rfl⟩)
            | (go_at_call 55; refine (unless_any _ _ _).mono ?_; rintro e w' ⟨rfl, rfl⟩))
          refine (fe_new [_, _] _ _ _ _ _ rfl rfl (by simp)).mono ?_
          rintro e w2 ⟨rfl, hw⟩
          have hbw : Below w.heap.size w w2 := by rw [hw]; exact b_then hbr (below_alloc _ _)
          clear hw
          rw [HE1.out]
          by_cases hE0 : E = 0
          · subst hE0
            have HF2 : Hid (fst (ascL ds) = fst ((ascL ds).drop (j + 1 + 1))) := Lib.hid (by rw [HD.out, if_pos rfl])
            clear HD HE1
            go_wp2_with fail
            go_roundw
            case rel => exact ⟨j + 1 + 1, by omega, by go_num, HF2, hbw⟩
            case measure => simp [intOf]; omega
          · have hEb : (E != 0) = true := by simpa using hE0
            have HZ : Hid (ascErr ds = E) := Lib.hid (by rw [HE.out, HD.out, if_neg hE0])
            clear HD HE1
            go_wp2_with fail
            go_ret
            exact ⟨by rw [HZ.out]; rfl, hbw⟩
      · have hkn : k = ds.length := by omega
        subst hkn
        have HZ : Hid (ascErr ds = 0) := Lib.hid (by rw [HE.out, HF.out, List.drop_of_length_le (by simp [ascL])]; rfl)
        clear HF HC
        go_wp2_with fail
        go_ret
        exact ⟨by rw [HZ.out]; rfl, hbr⟩
end Go.Proofs.YtoaimgfekbnijaaDoor
namespace Go.Proofs.YtoaimgfekbnijaaDoor
open Go Go.RowKit
def wk (d : Int) : Int := (d + 5) / 7
def nW (ds : List Int) (z : Int) : Nat := ds.countP (fun d => decide (wk d = z))
def nB (ds : List Int) (z : Int) : Nat := ds.countP (fun d => decide (wk d < z))
/-- Days that ascend. -/
structure Asc (ds : List Int) : Prop where
  lt : ∀ i j, i < j → j < ds.length → ds.getD i 0 < ds.getD j 0
  bd : ∀ d ∈ ds, 0 ≤ d ∧ d ≤ 99999
theorem getD_mem {ds : List Int} {i : Nat} (h : i < ds.length) : ds.getD i 0 ∈ ds := by
  simp [h]
theorem asc_of {ds : List Int} (h : ascErr ds = 0) : Asc ds ∧ ds.length ≤ 512 := by
  unfold ascErr at h
  by_cases hl : 512 < ds.length
  · rw [if_pos hl] at h; omega
  · rw [if_neg hl] at h
    have key : ∀ k, k ≤ ds.length → fst ((ascL ds).drop k) = 0 ∧ ∀ i, i < k → ascAt ds i = 0 := by
      intro k
      induction k with
      | zero => intro _; exact ⟨by simpa using h, fun i hi => absurd hi (by omega)⟩
      | succ k ih =>
        intro hk
        obtain ⟨h1, h2⟩ := ih (by omega)
        rw [ascL_drop ds k (by omega)] at h1
        by_cases e : ascAt ds k = 0
        · rw [if_pos e] at h1
          exact ⟨h1, fun i hi => by
            by_cases e2 : i = k
            · rw [e2]; exact e
            · exact h2 i (by omega)⟩
        · rw [if_neg e] at h1; exact absurd h1 e
    have hall := (key ds.length (Nat.le_refl _)).2
    have hone : ∀ i, i < ds.length → (0 ≤ ds.getD i 0 ∧ ds.getD i 0 ≤ 99999) ∧ (0 < i → ds.getD (i - 1) 0 < ds.getD i 0) := by
      intro i hi
      have e := hall i hi
      unfold ascAt at e
      obtain ⟨e1, e2⟩ := fst_cons_zero e
      obtain ⟨e2, -⟩ := fst_cons_zero e2
      refine ⟨?_, fun h0 => ?_⟩
      · unfold rng at e1
        split at e1
        · assumption
        · omega
      · unfold unl at e2
        split at e2
        · rename_i hh
          have : ¬ (i = 0) := by omega
          simpa [this] using hh
        · omega
    have hlt : ∀ n i, i + n + 1 < ds.length → ds.getD i 0 < ds.getD (i + n + 1) 0 := by
      intro n
      induction n with
      | zero => intro i hi; exact (hone (i + 1) hi).2 (by omega)
      | succ n ih =>
        intro i hi
        have a := ih i (by omega)
        have b := (hone (i + (n + 1) + 1) hi).2 (by omega)
        rw [show i + (n + 1) + 1 - 1 = i + n + 1 by omega] at b
        omega
    refine ⟨⟨fun i j hij hj => ?_, fun d hd => ?_⟩, by omega⟩
    · have := hlt (j - i - 1) i (by omega)
      rwa [show i + (j - i - 1) + 1 = j by omega] at this
    · obtain ⟨i, hi, rfl⟩ := List.getElem_of_mem hd
      have := (hone i hi).1
      simpa [hi] using this
theorem wk_mono {a b : Int} (h : a ≤ b) : wk a ≤ wk b := by unfold wk; omega
theorem Asc.le {ds : List Int} (h : Asc ds) {i j : Nat} (hij : i ≤ j) (hj : j < ds.length) : wk (ds.getD i 0) ≤ wk (ds.getD j 0) := by
  rcases Nat.lt_or_eq_of_le hij with e | e
  · exact wk_mono (Int.le_of_lt (h.lt i j e hj))
  · rw [e]; exact Int.le_refl _
/-- A list of which just the first n have q has n of them. -/
theorem countP_first (q : Int → Bool) : ∀ (L : List Int) (n : Nat), n ≤ L.length → (∀ j, j < L.length → (q (L.getD j 0) = true ↔ j < n)) → L.countP q = n
  | [], n, hn, _ => by simp at hn; simp [hn]
  | a :: t, n, hn, h => by
    cases n with
    | zero =>
      rw [List.countP_eq_zero]
      intro x hx
      obtain ⟨j, hj, rfl⟩ := List.getElem_of_mem hx
      have h1 := h j hj
      have h2 : (a :: t).getD j 0 = (a :: t)[j] := by simp only [List.getD_eq_getElem?_getD, List.getElem?_eq_getElem hj, Option.getD_some]
      rw [h2] at h1
      exact fun hq => absurd (h1.1 hq) (by omega)
    | succ n =>
      have ha : q a = true := (h 0 (by simp)).2 (by omega)
      rw [List.countP_cons_of_pos ha, countP_first q t n (by simpa using hn) (fun j hj => by
        have := h (j + 1) (by simpa using hj)
        simp only [List.getD_cons_succ] at this
        rw [this]; omega)]
/-- Which of the days lie before a week. -/
theorem nB_iff {ds : List Int} (h : Asc ds) (z : Int) : ∀ j, j < ds.length → (wk (ds.getD j 0) < z ↔ j < nB ds z) := by
  -- the number of the days before z
  have hex : ∃ n, n ≤ ds.length ∧ ∀ j, j < ds.length → (wk (ds.getD j 0) < z ↔ j < n) := by
    have key : ∀ m, m ≤ ds.length → ∃ n, n ≤ m ∧ ∀ j, j < m → (wk (ds.getD j 0) < z ↔ j < n) := by
      intro m
      induction m with
      | zero => intro _; exact ⟨0, Nat.le_refl _, fun j hj => absurd hj (by omega)⟩
      | succ m ih =>
        intro hm
        obtain ⟨n, hn, hj⟩ := ih (by omega)
        by_cases e : wk (ds.getD m 0) < z
        · refine ⟨m + 1, Nat.le_refl _, fun j hjm => ⟨fun _ => hjm, fun _ => ?_⟩⟩
          exact Int.lt_of_le_of_lt (h.le (by omega) (by omega)) e
        · refine ⟨n, by omega, fun j hjm => ?_⟩
          by_cases e2 : j = m
          · subst e2; exact ⟨fun x => absurd x e, fun x => absurd x (by omega)⟩
          · exact hj j (by omega)
    exact key ds.length (Nat.le_refl _)
  obtain ⟨n, hn, hj⟩ := hex
  have : nB ds z = n := countP_first _ ds n hn (fun j hjl => by rw [decide_eq_true_eq]; exact hj j hjl)
  rw [this]; exact hj
theorem nB_of {ds : List Int} {z : Int} {k : Nat} (hk : k ≤ ds.length) (h : ∀ j, j < ds.length → (wk (ds.getD j 0) < z ↔ j < k)) : nB ds z = k :=
  countP_first _ ds k hk (fun j hj => by rw [decide_eq_true_eq]; exact h j hj)
theorem nB_succ (ds : List Int) (z : Int) : nB ds (z + 1) = nB ds z + nW ds z := by
  unfold nB nW
  induction ds with
  | nil => rfl
  | cons a t ih =>
    simp only [List.countP_cons, decide_eq_true_eq]
    rw [ih]
    by_cases e1 : wk a < z
    · rw [if_pos (show wk a < z + 1 by omega), if_pos e1, if_neg (show ¬ wk a = z by omega)]; omega
    · by_cases e2 : wk a = z
      · rw [if_pos (show wk a < z + 1 by omega), if_neg e1, if_pos e2]; omega
      · rw [if_neg (show ¬ wk a < z + 1 by omega), if_neg e1, if_neg e2]; omega
theorem nB_run (ds : List Int) (f : Int) (p n : Nat) (h : ∀ i : Nat, i < n → nW ds (f + i) = p) : nB ds (f + n) = nB ds f + n * p := by
  induction n with
  | zero => simp
  | succ n ih =>
    have e : f + ((n + 1 : Nat) : Int) = (f + n) + 1 := by omega
    rw [e, nB_succ, ih (fun i hi => h i (by omega)), h n (by omega), Nat.add_mul]
    omega
theorem nB_le (ds : List Int) (z : Int) : nB ds z ≤ ds.length := List.countP_le_length ..
theorem or_popc : ∀ m, m < 128 → ∀ i, i < 7 → (m / 2 ^ i % 2 = 0 → popc (m ||| 2 ^ i) = popc m + 1) ∧ m ||| 2 ^ i < 128 ∧ (∀ j, j < 7 → ((m ||| 2 ^ i) / 2 ^ j % 2 = 1 ↔ (m / 2 ^ j % 2 = 1 ∨ i = j))) := by decide +kernel
theorem or_nat : ∀ m, m < 128 → ∀ i, i < 7 → bits BinOp.or IntKind.i64 ((m : Nat) : Int) (IntKind.i64.wrap (2 ^ i)) = ((m ||| 2 ^ i : Nat) : Int) := by decide +kernel
theorem popc_zero : ∀ m, m < 128 → popc m = 0 → m = 0 := by decide +kernel
theorem wd_lt (d : Int) : (Cal.wd d).toNat < 7 := by unfold Cal.wd; omega
/-- A week's mask: its bits are the weekdays, and so many are its days. -/
theorem wkF_ok {ds : List Int} (h : Asc ds) (k : Nat) (hk : k ≤ ds.length) : ∀ z, ∃ m : Nat, m < 128 ∧ wkF (ds.take k) z = m ∧ popc m = nW (ds.take k) z ∧ ∀ i, i < 7 → (m / 2 ^ i % 2 = 1 ↔ ∃ d ∈ ds.take k, wk d = z ∧ (Cal.wd d).toNat = i) := by
  induction k with
  | zero => intro z; exact ⟨0, by decide, rfl, rfl, fun i _ => by simp⟩
  | succ k ih =>
    intro z
    have hlt : k < ds.length := by omega
    obtain ⟨m, hm, hF, hp, hb⟩ := ih (by omega) z
    have hT := wkF_take ds k hlt
    obtain ⟨x, hx⟩ : ∃ x, ds[k] = x := ⟨_, rfl⟩
    have htake : ds.take (k + 1) = ds.take k ++ [x] := by rw [← hx, List.take_append_getElem hlt]
    have hnW : nW (ds.take (k + 1)) z = nW (ds.take k) z + if wk x = z then 1 else 0 := by
      rw [htake]; unfold nW; rw [List.countP_append]; simp
    rw [hx] at hT
    by_cases e : wk x = z
    · have hw := wd_lt x
      have hor := or_popc m hm _ hw
      have hno : m / 2 ^ (Cal.wd x).toNat % 2 = 0 := by
        rcases Nat.mod_two_eq_zero_or_one (m / 2 ^ (Cal.wd x).toNat) with h0 | h1
        · exact h0
        · obtain ⟨d, hd, hdz, hdw⟩ := (hb _ hw).1 h1
          obtain ⟨j, hj, rfl⟩ := List.getElem_of_mem hd
          have hj2 : j < k := by simp at hj; omega
          have hl := h.lt j k hj2 hlt
          have e1 : (ds.take k)[j] = ds.getD j 0 := by simp [show j < ds.length by omega]
          have e2 : x = ds.getD k 0 := by rw [← hx]; simp [hlt]
          rw [e1] at hdz hdw
          rw [← e2] at hl
          unfold wk at e hdz
          unfold Cal.wd at hdw
          omega
      refine ⟨m ||| 2 ^ (Cal.wd x).toNat, hor.2.1, ?_, by rw [hor.1 hno, hnW, if_pos e, hp], fun i hi => ?_⟩
      · rw [hT]
        unfold wkStep orDay
        rw [show ((x + 5) / 7) = z from e, if_pos rfl, hF]
        exact or_nat m hm _ hw
      · rw [hor.2.2 i hi, hb i hi, htake]
        constructor
        · rintro (⟨d, hd, h1, h2⟩ | h1)
          · exact ⟨d, by simp [hd], h1, h2⟩
          · exact ⟨x, by simp, e, h1⟩
        · rintro ⟨d, hd, h1, h2⟩
          rw [List.mem_append] at hd
          rcases hd with hd | hd
          · exact .inl ⟨d, hd, h1, h2⟩
          · rw [List.mem_singleton] at hd; subst hd; exact .inr h2
    · refine ⟨m, hm, ?_, by rw [hnW, if_neg e, hp]; rfl, fun i hi => ?_⟩
      · rw [hT]
        unfold wkStep
        rw [if_neg (fun e2 => e (by rw [e2]; rfl))]
        exact hF
      · rw [hb i hi, htake]
        constructor
        · rintro ⟨d, hd, h1, h2⟩; exact ⟨d, by simp [hd], h1, h2⟩
        · rintro ⟨d, hd, h1, h2⟩
          rw [List.mem_append] at hd
          rcases hd with hd | hd
          · exact ⟨d, hd, h1, h2⟩
          · rw [List.mem_singleton] at hd; subst hd; exact absurd h1 e
theorem RunOf.uniq {F : Int → Int} {f : Int} {n n' : Nat} (h : RunOf F f n) (h' : RunOf F f n') : n = n' := by
  obtain ⟨a1, a2, a3⟩ := h
  obtain ⟨b1, b2, b3⟩ := h'
  rcases Nat.lt_trichotomy n n' with e | e | e
  · rcases a3 with a3 | a3
    · omega
    · exact absurd (b2 n e) a3
  · exact e
  · rcases b3 with b3 | b3
    · omega
    · exact absurd (a2 n' e) b3
/-- One run more. -/
def JStep (ds : List Int) (F : Int → Int) (k : Nat) (l : List (Int × Int × Int)) (k' : Nat) (l' : List (Int × Int × Int)) : Prop :=
  k < ds.length ∧ ∃ n, RunOf F (wk (ds.getD k 0)) n ∧ k' = k + n * popc (F (wk (ds.getD k 0))).toNat ∧ l' = l ++ [(ds.getD k 0, ds.getD (k' - 1) 0, F (wk (ds.getD k 0)))]
inductive JoinTo (ds : List Int) (F : Int → Int) : Nat → Nat → List (Int × Int × Int) → Prop
  | zero : JoinTo ds F 0 0 []
  | step {j k k' : Nat} {l l' : List (Int × Int × Int)} : JoinTo ds F j k l → JStep ds F k l k' l' → JoinTo ds F (j + 1) k' l'
theorem JStep.uniq {ds : List Int} {F : Int → Int} {k k1 k2 : Nat} {l l1 l2 : List (Int × Int × Int)} (h1 : JStep ds F k l k1 l1) (h2 : JStep ds F k l k2 l2) : k1 = k2 ∧ l1 = l2 := by
  obtain ⟨_, n, hn, rfl, rfl⟩ := h1
  obtain ⟨_, n', hn', rfl, rfl⟩ := h2
  have := hn.uniq hn'
  subst this
  exact ⟨rfl, rfl⟩
theorem JoinTo.uniq {ds : List Int} {F : Int → Int} {j : Nat} : ∀ {k1 k2 : Nat} {l1 l2 : List (Int × Int × Int)}, JoinTo ds F j k1 l1 → JoinTo ds F j k2 l2 → k1 = k2 ∧ l1 = l2 := by
  induction j with
  | zero => intro _ _ _ _ h1 h2; cases h1; cases h2; exact ⟨rfl, rfl⟩
  | succ j ih =>
    intro _ _ _ _ h1 h2
    cases h1 with
    | step a1 s1 =>
      cases h2 with
      | step a2 s2 =>
        obtain ⟨rfl, rfl⟩ := ih a1 a2
        exact s1.uniq s2
theorem JoinTo.back {ds : List Int} {F : Int → Int} {i n : Nat} : ∀ {k : Nat} {l : List (Int × Int × Int)}, JoinTo ds F (i + n + 1) k l → ∃ k' l', JoinTo ds F i k' l' ∧ k' < ds.length := by
  induction n with
  | zero => intro _ _ h; cases h with | step a s => exact ⟨_, _, a, s.1⟩
  | succ n ih => intro _ _ h; cases h with | step a s => exact ih a
/-- All the days joined: there is but one way. -/
theorem JoinTo.end {ds : List Int} {F : Int → Int} {j1 j2 : Nat} {l1 l2 : List (Int × Int × Int)} (h1 : JoinTo ds F j1 ds.length l1) (h2 : JoinTo ds F j2 ds.length l2) : l1 = l2 := by
  rcases Nat.lt_trichotomy j1 j2 with e | e | e
  · rw [show j2 = j1 + (j2 - j1 - 1) + 1 by omega] at h2
    obtain ⟨k', l', h3, h4⟩ := h2.back
    have := (h1.uniq h3).1
    omega
  · subst e; exact (h1.uniq h2).2
  · rw [show j1 = j2 + (j1 - j2 - 1) + 1 by omega] at h1
    obtain ⟨k', l', h3, h4⟩ := h1.back
    have := (h2.uniq h3).1
    omega
/-- k is where a week begins, or the end. -/
def Bd (ds : List Int) (k : Nat) : Prop := k ≤ ds.length ∧ (k < ds.length → nB ds (wk (ds.getD k 0)) = k)
theorem Bd.zero {ds : List Int} (h : Asc ds) : Bd ds 0 := ⟨Nat.zero_le _, fun h0 => nB_of (Nat.zero_le _) (fun j hj => ⟨fun e => absurd (h.le (Nat.zero_le j) hj) (by omega), fun e => absurd e (by omega)⟩)⟩
theorem wkF_all {ds : List Int} (h : Asc ds) (z : Int) : ∃ m : Nat, m < 128 ∧ wkF ds z = m ∧ popc m = nW ds z := by
  obtain ⟨m, h1, h2, h3, _⟩ := wkF_ok h ds.length (Nat.le_refl _) z
  rw [List.take_length] at h2 h3
  exact ⟨m, h1, h2, h3⟩
theorem run_end {ds : List Int} (h : Asc ds) {k n m : Nat} (hk : k < ds.length) (hB : Bd ds k) (hR : RunOf (wkF ds) (wk (ds.getD k 0)) n) (hm : wkF ds (wk (ds.getD k 0)) = m) :
    1 ≤ n * popc m ∧ k + n * popc m ≤ ds.length ∧ Bd ds (k + n * popc m) := by
  obtain ⟨f, hf⟩ : ∃ f, f = wk (ds.getD k 0) := ⟨_, rfl⟩
  have hBk := hB.2 hk
  rw [← hf] at hR hm hBk
  have hp : ∀ z, wkF ds z = m → nW ds z = popc m := by
    intro z hz
    obtain ⟨m2, h1, h2, h3⟩ := wkF_all h z
    have : m2 = m := by rw [hz] at h2; omega
    rw [← h3, this]
  have hn1 : 1 ≤ n := by
    rcases Nat.eq_zero_or_pos n with e | e
    · subst e
      rcases hR.2.2 with x | x
      · omega
      · exact absurd (by simp) x
    · exact e
  have hp1 : 1 ≤ popc m := by
    rw [← hp f hm]
    unfold nW
    have hin := getD_mem hk
    have : 0 < ds.countP (fun d => decide (wk d = f)) := by
      rw [List.countP_pos_iff]
      exact ⟨_, hin, by simp [hf]⟩
    omega
  have hrun := nB_run ds f (popc m) n (fun i hi => hp _ ((hR.2.1 i hi).trans hm))
  rw [hBk] at hrun
  have hle := nB_le ds (f + n)
  rw [hrun] at hle
  refine ⟨Nat.mul_pos hn1 hp1, hle, hle, fun hlt => ?_⟩
  refine nB_of hle fun j hj => ?_
  have i1 := nB_iff h (f + n) j hj
  have i2 := nB_iff h (f + n) (k + n * popc m) hlt
  rw [hrun] at i1 i2
  have i3 : ¬ wk (ds.getD (k + n * popc m) 0) < f + n := fun e => absurd (i2.1 e) (by omega)
  constructor
  · intro e
    rcases Nat.lt_or_ge j (k + n * popc m) with e2 | e2
    · exact e2
    · exact absurd (h.le e2 hj) (by omega)
  · intro e
    have := i1.2 e
    omega
end Go.Proofs.YtoaimgfekbnijaaDoor
namespace Go.Proofs.YtoaimgfekbnijaaDoor
open Go Go.RowKit
/-- The days before number i: the periods l for the first k of them, and a run of n weeks from day k on that may go on. -/
structure Open (ds : List Int) (j k n : Nat) (l : List (Int × Int × Int)) (i : Nat) : Prop where
  done : JoinTo ds (wkF ds) j k l
  bd : Bd ds k
  lt : k < i
  le : i ≤ ds.length
  one : 1 ≤ n
  max : n ≤ 57
  last : wk (ds.getD (i - 1) 0) = wk (ds.getD k 0) + n - 1
  same : ∀ t : Nat, t < n → wkF ds (wk (ds.getD k 0) + t) = wkF ds (wk (ds.getD k 0))
theorem nW_zero {ds : List Int} {z : Int} (h : ∀ j, j < ds.length → wk (ds.getD j 0) ≠ z) : nW ds z = 0 := by
  unfold nW
  rw [List.countP_eq_zero]
  intro d hd
  obtain ⟨j, hj, rfl⟩ := List.getElem_of_mem hd
  have := h j hj
  simpa [hj] using this
/-- The run ends: at the last day, or where the next day's week is no neighbour, has another mask, or would be number 58. -/
theorem Open.close {ds : List Int} (h : Asc ds) {j k n i : Nat} {l : List (Int × Int × Int)} (o : Open ds j k n l i)
    (hlt : i < ds.length → wk (ds.getD (i - 1) 0) < wk (ds.getD i 0))
    (hs : n = 57 ∨ ∀ _ : i < ds.length, wk (ds.getD i 0) ≠ wk (ds.getD k 0) + n ∨ wkF ds (wk (ds.getD i 0)) ≠ wkF ds (wk (ds.getD k 0))) :
    JStep ds (wkF ds) k l i (l ++ [(ds.getD k 0, ds.getD (i - 1) 0, wkF ds (wk (ds.getD k 0)))]) := by
  have hk : k < ds.length := Nat.lt_of_lt_of_le o.lt o.le
  obtain ⟨m, hm7, hm, hp⟩ := wkF_all h (wk (ds.getD k 0))
  have hin : 1 ≤ popc m := by
    rw [hp]
    unfold nW
    have : 0 < ds.countP (fun d => decide (wk d = wk (ds.getD k 0))) := by
      rw [List.countP_pos_iff]
      exact ⟨_, getD_mem hk, by simp⟩
    omega
  -- which days lie before week f + n
  have hiff : ∀ t, t < ds.length → (wk (ds.getD t 0) < wk (ds.getD k 0) + n ↔ t < i) := fun t ht => by
    have hl := o.last
    have hlt0 := o.lt
    constructor
    · intro e
      rcases Nat.lt_or_ge t i with e2 | e2
      · exact e2
      · have hi : i < ds.length := by omega
        have h1 := hlt hi
        have h2 := h.le e2 ht
        omega
    · intro e
      have := h.le (show t ≤ i - 1 by omega) (by have := o.le; omega)
      omega
  have hnB := nB_of o.le hiff
  have hR : RunOf (wkF ds) (wk (ds.getD k 0)) n := by
    refine ⟨o.max, o.same, ?_⟩
    rcases hs with e | e
    · exact .inl e
    · right
      by_cases hi : i < ds.length
      · rcases e hi with e2 | e2
        · -- no day in week f + n
          obtain ⟨m2, h1, h2, h3⟩ := wkF_all h (wk (ds.getD k 0) + n)
          have hz : nW ds (wk (ds.getD k 0) + n) = 0 := nW_zero fun t ht => by
            have hl := hlt hi
            have hla := o.last
            rcases Nat.lt_or_ge t i with e3 | e3
            · have := (hiff t ht).2 e3; omega
            · have h4 := h.le e3 ht
              rcases Nat.lt_trichotomy t i with e5 | e5 | e5
              · omega
              · rw [e5]; exact e2
              · have : ¬ wk (ds.getD i 0) < wk (ds.getD k 0) + n := fun x => absurd ((hiff i hi).1 x) (by omega)
                omega
          rw [h2, hm]
          intro e6
          have : m2 = m := by omega
          rw [this, hz] at h3
          omega
        · by_cases e3 : wk (ds.getD i 0) = wk (ds.getD k 0) + n
          · rw [← e3]; exact e2
          · obtain ⟨m2, h1, h2, h3⟩ := wkF_all h (wk (ds.getD k 0) + n)
            have hz : nW ds (wk (ds.getD k 0) + n) = 0 := nW_zero fun t ht => by
              have h5 : ¬ wk (ds.getD i 0) < wk (ds.getD k 0) + n := fun x => absurd ((hiff i hi).1 x) (by omega)
              rcases Nat.lt_or_ge t i with e4 | e4
              · have := (hiff t ht).2 e4; omega
              · have h4 := h.le e4 ht; omega
            rw [h2, hm]
            intro e6
            have : m2 = m := by omega
            rw [this, hz] at h3
            omega
      · obtain ⟨m2, h1, h2, h3⟩ := wkF_all h (wk (ds.getD k 0) + n)
        have hz : nW ds (wk (ds.getD k 0) + n) = 0 := nW_zero fun t ht => by
          have := (hiff t ht).2 (by omega)
          omega
        rw [h2, hm]
        intro e6
        have : m2 = m := by omega
        rw [this, hz] at h3
        omega
  refine ⟨hk, n, hR, ?_, rfl⟩
  have hrun := nB_run ds (wk (ds.getD k 0)) (popc m) n (fun t ht => by
    obtain ⟨m2, h1, h2, h3⟩ := wkF_all h (wk (ds.getD k 0) + t)
    have := o.same t ht
    rw [h2, hm] at this
    rw [← h3, show m2 = m by omega])
  rw [hnB, o.bd.2 hk] at hrun
  rw [hrun, hm]
  simp
/-- The run goes on in the same week. -/
theorem Open.day {ds : List Int} {j k n i : Nat} {l : List (Int × Int × Int)} (o : Open ds j k n l i) (hi : i < ds.length) (e : wk (ds.getD (i - 1) 0) = wk (ds.getD i 0)) : Open ds j k n l (i + 1) :=
  ⟨o.done, o.bd, by have := o.lt; omega, hi, o.one, o.max, by rw [Nat.add_sub_cancel, ← e]; exact o.last, o.same⟩
/-- .. in the next week. -/
theorem Open.week {ds : List Int} {j k n i : Nat} {l : List (Int × Int × Int)} (o : Open ds j k n l i) (hi : i < ds.length) (e : wk (ds.getD (i - 1) 0) = wk (ds.getD i 0) - 1) (hm : wkF ds (wk (ds.getD i 0)) = wkF ds (wk (ds.getD k 0))) (hn : n < 57) : Open ds j k (n + 1) l (i + 1) := by
  have hl := o.last
  refine ⟨o.done, o.bd, by have := o.lt; omega, hi, by omega, by omega, by rw [Nat.add_sub_cancel]; omega, fun t ht => ?_⟩
  by_cases e2 : t = n
  · subst e2
    rw [← hm]
    congr 1
    omega
  · exact o.same t (by omega)
/-- A new run. -/
theorem Open.new {ds : List Int} {j k : Nat} {l : List (Int × Int × Int)} (h : JoinTo ds (wkF ds) j k l) (hb : Bd ds k) (hk : k < ds.length) : Open ds j k 1 l (k + 1) :=
  ⟨h, hb, by omega, hk, Nat.le_refl _, by omega, by rw [Nat.add_sub_cancel]; omega, fun t ht => by rw [show t = 0 by omega]; simp⟩
theorem JStep.bd {ds : List Int} (h : Asc ds) {k i : Nat} {l l' : List (Int × Int × Int)} (hB : Bd ds k) (s : JStep ds (wkF ds) k l i l') : Bd ds i := by
  obtain ⟨hk, n, hR, rfl, rfl⟩ := s
  obtain ⟨m, _, hm, _⟩ := wkF_all h (wk (ds.getD k 0))
  have := (run_end h hk hB hR hm).2.2
  rw [hm]
  simpa using this
theorem JoinTo.len {ds : List Int} (h : Asc ds) {j k : Nat} {l : List (Int × Int × Int)} (hj : JoinTo ds (wkF ds) j k l) : l.length ≤ ds.length := by
  have key : Bd ds k ∧ l.length ≤ k ∧ k ≤ ds.length := by
    induction hj with
    | zero => exact ⟨Bd.zero h, Nat.le_refl _, Nat.zero_le _⟩
    | step a s ih =>
      obtain ⟨b1, b2, b3⟩ := ih
      have b4 := s.bd h b1
      obtain ⟨hk, n, hR, rfl, rfl⟩ := s
      obtain ⟨m, _, hm, _⟩ := wkF_all h (wk (ds.getD _ 0))
      have := (run_end h hk b1 hR hm).1
      refine ⟨b4, ?_, b4.1⟩
      rw [List.length_append, hm]
      simp only [Int.toNat_natCast, List.length_cons, List.length_nil]
      omega
  omega
end Go.Proofs.YtoaimgfekbnijaaDoor
namespace Go.Proofs.YtoaimgfekbnijaaDoor
open Go Go.RowKit
theorem Asc.lt_iff {ds : List Int} (h : Asc ds) {i j : Nat} (hi : i < ds.length) (hj : j < ds.length) : ds.getD i 0 < ds.getD j 0 ↔ i < j := by
  constructor
  · intro e
    rcases Nat.lt_trichotomy i j with e2 | e2 | e2
    · exact e2
    · subst e2; omega
    · have := h.lt j i e2 hi; omega
  · intro e; exact h.lt i j e hj
/-- Of the days from the run's first to its last, those on a weekday of its mask are the list's. -/
theorem run_days {ds : List Int} (h : Asc ds) {k n m c : Nat} (hk : k < ds.length) (hB : Bd ds k) (hR : RunOf (wkF ds) (wk (ds.getD k 0)) n) (hm : wkF ds (wk (ds.getD k 0)) = m) (hc : c = n * popc m) (d : Int) :
    (ds.getD k 0 ≤ d ∧ d ≤ ds.getD (k + c - 1) 0 ∧ m / 2 ^ (Cal.wd d).toNat % 2 = 1) ↔ ∃ t, k ≤ t ∧ t < k + c ∧ ds.getD t 0 = d := by
  obtain ⟨h1, h2, h3⟩ := run_end h hk hB hR hm
  rw [← hc] at h1 h2 h3
  have hnB : nB ds (wk (ds.getD k 0) + n) = k + c := by
    have hrun := nB_run ds (wk (ds.getD k 0)) (popc m) n (fun t ht => by
      obtain ⟨m2, _, e2, e3⟩ := wkF_all h (wk (ds.getD k 0) + t)
      have := hR.2.1 t ht
      rw [e2, hm] at this
      rw [← e3, show m2 = m by omega])
    rw [hB.2 hk] at hrun
    rw [hrun, hc]
  have hF : ∀ z, wk (ds.getD k 0) ≤ z → z < wk (ds.getD k 0) + n → wkF ds z = m := fun z z1 z2 => by
    have := hR.2.1 (z - wk (ds.getD k 0)).toNat (by omega)
    rw [show wk (ds.getD k 0) + ((z - wk (ds.getD k 0)).toNat : Int) = z by omega] at this
    rw [this, hm]
  have hbit : ∀ z, wkF ds z = m → ∀ i, i < 7 → (m / 2 ^ i % 2 = 1 ↔ ∃ d ∈ ds, wk d = z ∧ (Cal.wd d).toNat = i) := fun z hz => by
    obtain ⟨m2, _, e2, _, e4⟩ := wkF_ok h ds.length (Nat.le_refl _) z
    rw [List.take_length] at e2 e4
    rw [hz] at e2
    rw [show m = m2 by omega]
    exact e4
  have hlast : wk (ds.getD (k + c - 1) 0) < wk (ds.getD k 0) + n := (nB_iff h _ _ (by omega)).2 (by rw [hnB]; omega)
  constructor
  · rintro ⟨d1, d2, d3⟩
    have z1 := wk_mono d1
    have z2 := wk_mono d2
    obtain ⟨d', hd', e1, e2⟩ := (hbit _ (hF (wk d) z1 (by omega)) _ (wd_lt d)).1 d3
    have hdd : d' = d := by
      unfold wk at e1
      unfold Cal.wd at e2
      omega
    subst hdd
    obtain ⟨t, ht, rfl⟩ := List.getElem_of_mem hd'
    have hg : ds[t] = ds.getD t 0 := by simp [ht]
    rw [hg] at d1 d2
    refine ⟨t, ?_, ?_, hg.symm⟩
    · rcases Nat.lt_or_ge t k with e | e
      · have := h.lt t k e hk; omega
      · exact e
    · rcases Nat.lt_or_ge t (k + c) with e | e
      · exact e
      · have := h.lt (k + c - 1) t (by omega) ht; omega
  · rintro ⟨t, t1, t2, rfl⟩
    have ht : t < ds.length := by omega
    refine ⟨?_, ?_, ?_⟩
    · rcases Nat.lt_or_eq_of_le t1 with e | e
      · exact Int.le_of_lt (h.lt k t e ht)
      · rw [e]; exact Int.le_refl _
    · rcases Nat.lt_or_eq_of_le (show t ≤ k + c - 1 by omega) with e | e
      · exact Int.le_of_lt (h.lt t (k + c - 1) e (by omega))
      · rw [e]; exact Int.le_refl _
    · have z1 := h.le t1 ht
      have z2 := h.le (show t ≤ k + c - 1 by omega) (by omega)
      exact (hbit _ (hF _ z1 (by omega)) _ (wd_lt _)).2 ⟨_, getD_mem ht, rfl, rfl⟩
end Go.Proofs.YtoaimgfekbnijaaDoor
namespace Go.Proofs.YtoaimgfekbnijaaDoor
open Go Go.RowKit
theorem pair_ext : ∀ (l1 l2 : List Int), l1.Pairwise (· < ·) → l2.Pairwise (· < ·) → (∀ x, x ∈ l1 ↔ x ∈ l2) → l1 = l2
  | [], [], _, _, _ => rfl
  | [], b :: t, _, _, h => by have := (h b).2 (by simp); simp at this
  | a :: t, [], _, _, h => by have := (h a).1 (by simp); simp at this
  | a :: t1, b :: t2, h1, h2, h => by
    rw [List.pairwise_cons] at h1 h2
    have hab : a = b := by
      have e1 := (h a).1 (by simp)
      have e2 := (h b).2 (by simp)
      rw [List.mem_cons] at e1 e2
      rcases e1 with e1 | e1
      · exact e1
      · rcases e2 with e2 | e2
        · exact e2.symm
        · have := h1.1 b e2; have := h2.1 a e1; omega
    subst hab
    rw [pair_ext t1 t2 h1.2 h2.2 fun x => ⟨fun hx => ?_, fun hx => ?_⟩]
    · have e := (h x).1 (by simp [hx])
      rw [List.mem_cons] at e
      rcases e with e | e
      · subst e; have := h1.1 x hx; omega
      · exact e
    · have e := (h x).2 (by simp [hx])
      rw [List.mem_cons] at e
      rcases e with e | e
      · subst e; have := h2.1 x hx; omega
      · exact e
theorem daysL_mem (a b m d : Int) : d ∈ daysL a b m ↔ a ≤ d ∧ d ≤ b ∧ inM m d = true := by
  unfold daysL upto
  simp only [List.mem_filter, List.mem_map, List.mem_range, hasB, Bool.and_eq_true, decide_eq_true_eq]
  constructor
  · rintro ⟨-, ⟨h1, h2⟩, h3⟩; exact ⟨h1, h2, h3⟩
  · rintro ⟨h1, h2, h3⟩; exact ⟨⟨(d - a).toNat, by omega, by omega⟩, ⟨h1, h2⟩, h3⟩
theorem daysL_pair (a b m : Int) : (daysL a b m).Pairwise (· < ·) := by
  unfold daysL upto
  refine List.Pairwise.filter _ ?_
  rw [List.pairwise_map]
  exact List.pairwise_lt_range.imp fun h => by omega
theorem Asc.pair {ds : List Int} (h : Asc ds) : ds.Pairwise (· < ·) := by
  rw [List.pairwise_iff_getElem]
  intro i j hi hj hij
  have := h.lt i j hij hj
  simpa [hi, hj] using this
theorem seg_mem {ds : List Int} {k c : Nat} (hc : k + c ≤ ds.length) (x : Int) : x ∈ (ds.drop k).take c ↔ ∃ t, k ≤ t ∧ t < k + c ∧ ds.getD t 0 = x := by
  constructor
  · intro hx
    obtain ⟨i, hi, rfl⟩ := List.getElem_of_mem hx
    have hi2 : i < c := by simp at hi; omega
    exact ⟨k + i, by omega, by omega, by simp [show k + i < ds.length by omega]⟩
  · rintro ⟨t, t1, t2, rfl⟩
    rw [List.mem_iff_getElem]
    exact ⟨t - k, by simp; omega, by simp [show k + (t - k) = t by omega, show t < ds.length by omega]⟩
theorem inM_nat (m : Nat) (d : Int) : inM (m : Int) d = true ↔ m / 2 ^ (Cal.wd d).toNat % 2 = 1 := by
  unfold inM
  rw [decide_eq_true_eq]
  have : ((m : Int) / 2 ^ (Cal.wd d).toNat % 2) = ((m / 2 ^ (Cal.wd d).toNat % 2 : Nat) : Int) := by simp
  rw [this]
  omega
/-- The days of the periods, in order. -/
def allDays (l : List (Int × Int × Int)) : List Int := (l.map fun p => daysL p.1 p.2.1 p.2.2).flatten
theorem JStep.days {ds : List Int} (h : Asc ds) {k i : Nat} {l l' : List (Int × Int × Int)} (hB : Bd ds k) (s : JStep ds (wkF ds) k l i l') (ih : allDays l = ds.take k) : allDays l' = ds.take i := by
  obtain ⟨hk, n, hR, rfl, rfl⟩ := s
  obtain ⟨m, _, hm, _⟩ := wkF_all h (wk (ds.getD k 0))
  obtain ⟨c, hc⟩ : ∃ c, c = n * popc m := ⟨_, rfl⟩
  have hd := run_days h hk hB hR hm hc
  have hle := (run_end h hk hB hR hm).2.1
  rw [hm]
  simp only [Int.toNat_natCast]
  rw [← hc] at hle ⊢
  have hseg : daysL (ds.getD k 0) (ds.getD (k + c - 1) 0) m = (ds.drop k).take c := by
    refine pair_ext _ _ (daysL_pair _ _ _) ((h.pair.drop).take) fun x => ?_
    rw [daysL_mem, inM_nat, hd x, seg_mem hle]
  unfold allDays at *
  rw [List.map_append, List.flatten_append, ih]
  simp only [List.map_cons, List.map_nil, List.flatten_cons, List.flatten_nil, List.append_nil]
  rw [hseg, List.take_add]
theorem JoinTo.days {ds : List Int} (h : Asc ds) {j k : Nat} {l : List (Int × Int × Int)} (hj : JoinTo ds (wkF ds) j k l) : Bd ds k ∧ allDays l = ds.take k := by
  induction hj with
  | zero => exact ⟨Bd.zero h, by simp [allDays]⟩
  | step a s ih => exact ⟨s.bd h ih.1, s.days h ih.1 ih.2⟩
end Go.Proofs.YtoaimgfekbnijaaDoor
namespace Go.Proofs.YtoaimgfekbnijaaDoor
open Go Go.RowKit
/-- Every period of a join is valid. -/
theorem JoinTo.valid {ds : List Int} (h : Asc ds) {j k : Nat} {l : List (Int × Int × Int)} (hj : JoinTo ds (wkF ds) j k l) : ∀ p ∈ l, 0 ≤ p.1 ∧ p.1 ≤ p.2.1 ∧ p.2.1 ≤ 99999 ∧ p.2.1 - p.1 ≤ 400 ∧ 1 ≤ p.2.2 ∧ p.2.2 ≤ 127 := by
  induction hj with
  | zero => intro p hp; cases hp
  | @step j k k' l l' a s ih =>
    have hB := (a.days h).1
    obtain ⟨hk, n, hR, rfl, rfl⟩ := s
    obtain ⟨m, hm7, hm, hp⟩ := wkF_all h (wk (ds.getD k 0))
    obtain ⟨c, hc⟩ : ∃ c, c = n * popc m := ⟨_, rfl⟩
    have hre := run_end h hk hB hR hm
    rw [hm]
    simp only [Int.toNat_natCast]
    rw [← hc] at hre ⊢
    intro p hpm
    rw [List.mem_append] at hpm
    rcases hpm with hpm | hpm
    · exact ih p hpm
    · rw [List.mem_singleton] at hpm
      subst hpm
      have b1 := h.bd _ (getD_mem hk)
      have b2 := h.bd _ (getD_mem (show k + c - 1 < ds.length by omega))
      have hle : ds.getD k 0 ≤ ds.getD (k + c - 1) 0 := ((run_days h hk hB hR hm hc (ds.getD k 0)).2 ⟨k, Nat.le_refl _, by omega, rfl⟩).2.1
      have hm1 : m ≠ 0 := by
        intro e
        rw [e, show popc 0 = 0 from rfl, Nat.mul_zero] at hc
        omega
      have hnB : wk (ds.getD (k + c - 1) 0) < wk (ds.getD k 0) + n := by
        have hrun := nB_run ds (wk (ds.getD k 0)) (popc m) n (fun t ht => by
          obtain ⟨m2, _, e2, e3⟩ := wkF_all h (wk (ds.getD k 0) + t)
          have := hR.2.1 t ht
          rw [e2, hm] at this
          rw [← e3, show m2 = m by omega])
        rw [hB.2 hk, ← hc] at hrun
        exact (nB_iff h _ _ (by omega)).2 (by rw [hrun]; omega)
      have hn := hR.1
      refine ⟨b1.1, hle, b2.2, ?_, by show (1 : Int) ≤ m; omega, by show (m : Int) ≤ 127; omega⟩
      show ds.getD (k + c - 1) 0 - ds.getD k 0 ≤ 400
      unfold wk at hnB
      omega
end Go.Proofs.YtoaimgfekbnijaaDoor
namespace Go.Proofs.YtoaimgfekbnijaaDoor
open Go
section
variable {P : Program} {ops : Array Oper} {md : Region.Mode} {C : World → Prop}
def sink1B (md : Region.Mode) (ops : Array Oper) (n : Nat) : Bool :=
  (List.range n).all fun i => i == 0 || (List.range (n + 1)).any fun j => decide (i < j) && Region.waitsFor md ops j i
/-- No operation of the tail is ready while one of the head is not done, but for number 0. -/
theorem tail_waits1 {n : Nat} {listed : Array Bool} (hs : sink1B md ops n = true) (hc : Region.chainB md ops n = true) (hn : n < ops.size) (inv : HeadInv md ops n listed) :
    ∀ (d i : Nat), n - i ≤ d → 0 < i → i < n → listed.getD i true = false → ∀ t, n ≤ t → t ∉ Region.ready md ops listed := by
  intro d
  induction d with
  | zero => intro i hd _ hi _ _ _; omega
  | succ d ih =>
    intro i hd hi0 hi hun t ht hr
    obtain ⟨_, ot, hot, hall⟩ := mem_ready.1 hr
    have htlt : t < ops.size := (Array.getElem?_eq_some_iff.1 hot).1
    have hone := List.all_eq_true.1 hs i (List.mem_range.2 hi)
    simp only [Bool.or_eq_true, beq_iff_eq, List.any_eq_true, List.mem_range, Bool.and_eq_true, decide_eq_true_eq] at hone
    rcases hone with h0 | ⟨j, hj, hij, hw⟩
    · omega
    obtain ⟨oj, hoj, e, he, hb, hon⟩ := Region.waitsFor_spec hw
    by_cases hjn : j = n
    · by_cases htn : t = n
      · subst htn
        rw [hjn] at hoj
        rw [hot] at hoj
        cases hoj
        have := hall e he hb
        rw [hon, getD_both hun] at this
        cases this
      · have h1 := List.all_eq_true.1 hc t (List.mem_range.2 htlt)
        simp only [Bool.or_eq_true, decide_eq_true_eq] at h1
        rcases h1 with h1 | h1
        · omega
        · obtain ⟨ot', hot', e', he', hb', hon'⟩ := Region.waitsFor_spec h1
          rw [hot] at hot'
          cases hot'
          have h2 := hall e' he' hb'
          rw [hon', getD_both (inv.tail (t - 1) (by omega) (by omega))] at h2
          cases h2
    · have hjun : listed.getD j true = false := by
        have hjs : j < ops.size := (Array.getElem?_eq_some_iff.1 hoj).1
        refine getD_in (by rw [inv.size]; exact hjs) ?_
        cases hl : listed.getD j false with
        | false => rfl
        | true =>
          have := inv.closed j oj hoj hl e he hb
          rw [hon, getD_both hun] at this
          cases this
      exact ih j (by omega) (by omega) (by omega) hjun t ht hr
theorem HeadQ.first1 {n i : Nat} {oi : Oper} {v : Value} {L : Array Bool → Act → Prop} (hi : ops[i]? = some oi) (hsel : ∀ (j : Nat) (o : Oper) cs b, ops[j]? = some o → o.op ≠ .select cs b)
    (hs : sink1B md ops n = true) (hc : Region.chainB md ops n = true) (hn : n < ops.size) (hi0 : 0 < i) (hin : i < n) (hdone : ∀ listed a, L listed a → ∀ j ∈ Region.ready md ops listed, n ≤ j) (f : Nat) :
    ∀ (listed : Array Bool) (a : Act), HeadInv md ops n listed →
      (∀ j oj, ops[j]? = some oj → j ≠ i → listed.getD j true = false → (∀ e ∈ oj.after, Region.binds md e = true → e.on ≠ i) → oi.apart ops oj = true) →
      i ∈ Region.ready md ops listed → YieldsIn P ops C oi v a → HeadQ P md ops C n L f (listed.setIfInBounds i true) (a.put oi.dst v) → HeadQ P md ops C n L (f + 1) listed a := by
  induction f with
  | zero =>
    intro listed a inv _ hr hy H
    refine ⟨List.ne_nil_of_mem hr, fun j hj => ?_⟩
    have hjn : j < n := Nat.lt_of_not_le fun h => tail_waits1 hs hc hn inv _ i (Nat.le_refl _) hi0 hin (mem_ready.1 hr).1 j h hj
    refine ⟨hjn, ?_⟩
    rcases Nat.decEq j i with hji | hji
    · exact absurd (hdone _ _ H j (ready_mono hj hji)) (by omega)
    · subst hji; exact hy.qOp hi H
  | succ f ih =>
    intro listed a inv hfree hr hy H
    refine ⟨List.ne_nil_of_mem hr, fun j hj => ?_⟩
    have hjn : j < n := Nat.lt_of_not_le fun h => tail_waits1 hs hc hn inv _ i (Nat.le_refl _) hi0 hin (mem_ready.1 hr).1 j h hj
    refine ⟨hjn, ?_⟩
    rcases Nat.decEq j i with hji | hji
    · obtain ⟨hun, oj, hoj, hall⟩ := mem_ready.1 hj
      have hnot : ∀ e ∈ oj.after, Region.binds md e = true → e.on ≠ i := fun e he hb heq => by
        have h1 := hall e he hb
        rw [heq, getD_both (mem_ready.1 hr).1] at h1
        cases h1
      have h2 := qOp_put hoj (hfree j oj hoj hji hun hnot) (fun cs b => hsel i oi cs b hi) (fun cs b => hsel j oj cs b hoj) hy (H.2 j (ready_mono hj hji)).2
      refine qOp_mono (fun a' h3 => ih (listed.setIfInBounds j true) a' (inv.set hj hjn) (fun k ok hk hki hk2 hno => hfree k ok hk hki ?_ hno) (ready_mono hr (Ne.symm hji)) h3.1 ?_) h2
      · rcases Nat.decEq j k with hjk | hjk
        · rwa [getD_set_ne true hjk] at hk2
        · subst hjk; exact hun
      · rw [Array.setIfInBounds_comm _ _ hji]; exact h3.2
    · subst hji; exact hy.qOp hi H
theorem HeadQ.lex1 {n g : Nat} {Lq : Act → Prop} (hsel : Region.noSelect ops = true) (hs : sink1B md ops n = true) (hc : Region.chainB md ops n = true) (hn : n < ops.size) (l : List Oper) :
    ∀ (k : Nat) (listed : Array Bool) (a : Act), 0 < k → (∀ j, j < l.length → l[j]? = ops[k + j]?) → k + l.length = n → HeadInv md ops n listed → Region.lexHead md ops g l.length k listed = true → wpQuiet P ops C Lq l a →
    HeadQ P md ops C n (fun listed' a' => Region.seqB md ops g n listed' = true ∧ Lq a') l.length listed a := by
  induction l with
  | nil =>
    intro k listed a _ _ hk _ hB h
    obtain rfl : k = n := by simpa using hk
    exact ⟨by simpa [Region.lexHead] using hB, h⟩
  | cons o l ih =>
    intro k listed a hk0 hl hk inv hB h
    have h0 : ops[k]? = some o := by simpa using (hl 0 (by simp)).symm
    simp only [List.length_cons, Region.lexHead, Bool.and_eq_true, List.contains_iff_mem] at hB
    have hkn : k < n := by simp only [List.length_cons] at hk; omega
    obtain ⟨v, hy, hK⟩ := yieldsIn_of_qOp (K := wpQuiet P ops C Lq l) h0 (by unfold qOp; simp only [h0]; exact h)
    exact HeadQ.first1 h0 (Region.noSelect_spec hsel) hs hc hn hk0 hkn (fun _ _ hL => seqB_ready hL.1) l.length listed a inv (Region.free_spec h0 hB.1.2) hB.1.1 hy
      (ih (k + 1) _ _ (by omega) (fun j hj => by have := hl (j + 1) (by simp; omega); simpa [Nat.add_assoc, Nat.add_comm 1 j] using this) (by simp only [List.length_cons] at hk; omega) (inv.set hB.1.1 hkn) hB.2 hK)
/-- What the order must be like. -/
def tail1B (md : Region.Mode) (ops : Array Oper) (n : Nat) : Bool :=
  Region.noSelect ops && decide (n < ops.size) && decide (0 < n) && sink1B md ops n && Region.chainB md ops n && Region.free md ops (Array.replicate ops.size false) 0 && (Region.ready md ops (Array.replicate ops.size false)).contains 0 &&
    Region.lexHead md ops (ops.size - n) (n - 1) 1 ((Array.replicate ops.size false).setIfInBounds 0 true)
theorem quiet_tail_mv {id : Nat} {Q : Exit → Act → World → Prop} {a : Act} {w : World} {l : List Oper} {o0 : Oper} {v0 : Value} (n : Nat) (hm : P.follows .mixedOrders = true) (hB : tail1B .any l.toArray n = true) (h0 : l[0]? = some o0) (hy : Yields P l.toArray o0 v0 a)
    (hQ : ∀ c a w, Q (.panic c) (a.put o0.dst v0) w → Q (.panic c) a w)
    (h : wpQuiet P l.toArray (fun w' => ∃ m, w' = w.drewN m) (fun a' => ∀ w', (∃ m, w' = w.drewN m) → wpList P l.toArray Q (l.drop n) a' w') ((l.take n).drop 1) (a.put o0.dst v0)) : (Code.region id l.toArray true).wp P Q a w := by
  simp only [tail1B, Bool.and_eq_true, decide_eq_true_eq, List.contains_iff_mem] at hB
  obtain ⟨⟨⟨⟨⟨⟨⟨hsel, hn⟩, hn0⟩, hs⟩, hc⟩, hf⟩, hr⟩, hlex⟩ := hB
  have hlen : n < l.length := by simpa using hn
  have hln : ((l.take n).drop 1).length = n - 1 := by simp; omega
  have hdl : (l.drop n).length = l.toArray.size - n := by simp
  have h0' : l.toArray[0]? = some o0 := by simpa using h0
  have inv0 : HeadInv .any l.toArray n (Array.replicate l.toArray.size false) :=
    ⟨by simp, fun j oj _ hl => (by rw [getD_replicate_false] at hl; cases hl), fun t _ ht => getD_in (by simpa using ht) (getD_replicate_false _ _)⟩
  have H := HeadQ.lex1 (md := .any) (g := l.toArray.size - n) (C := fun w' => ∃ m, w' = w.drewN m) hsel hs hc hn ((l.take n).drop 1) 1 _ (a.put o0.dst v0) (by omega) (fun j hj => by
    rw [hln] at hj
    rw [List.getElem?_drop, List.getElem?_take_of_lt (by omega)]
    simp) (by rw [hln]; omega) (inv0.set hr hn0) (by rw [hln]; exact hlex) h
  have T := HeadQ.any (Q' := Q) (g := l.toArray.size - n) (fun listed a' w' hw' hL => by
    have := wpAny_of_seq (md := .any) (Q' := Q) (l.drop n) n listed a' w' (fun j => by simp [List.getElem?_drop]) (by rw [hdl]; exact hL.1) (hL.2 w' hw')
    rwa [hdl] at this) _ _ _ w.drew ⟨1, rfl⟩ H
  rw [hln] at T
  refine wp_region_any hm ?_
  have he : l.toArray.size = (n - 1 + (l.toArray.size - n)) + 1 := by omega
  have := wpAny_first h0' (Region.noSelect_spec hsel) hQ _ _ a w.drew (Region.free_spec h0' hf) hr hy T
  rw [← he] at this
  exact this
end
end Go.Proofs.YtoaimgfekbnijaaDoor
namespace Go.Proofs.YtoaimgfekbnijaaDoor
open Go Go.RowKit Go.ChangeMaps Go.MapKept
theorem infoPer : (Tryd.prog.info? 23).map (fun i => (i.zero, i.size, i.bytes)) = some (some (.agg #[.int .i64 0, .int .i64 0, .int .i64 0]), 3, 24) := by kernel_rfl
set_option maxRecDepth 100000 in
set_option maxHeartbeats 4000000 in
theorem Join_ok (b off cap : Nat) (ds : List Int) (w : World) (hb : b < w.heap.size) (hc : ∀ j, j < ds.length → w.cell? ⟨b, off + j, none⟩ = some (.int .i64 (ds.getD j 0))) (hf : ∀ j, j < ds.length → w.frozen? ⟨b, off + j, none⟩ = false)
    (he : ascErr ds = 0) (hcap : ds.length ≤ cap) :
    Calls Tryd.prog 20 #[.slice (some ⟨b, off, none⟩) ds.length cap] w fun r w' =>
      ∃ v j l, r = .returned (.tuple #[v, .int .i64 0]) ∧ JoinTo ds (wkF ds) j ds.length l ∧ w'.ownsRow w.heap.size 23 3 v l.length (flat3 l) ∧ Below w.heap.size w w' := by
  obtain ⟨hasc, hn⟩ := asc_of he
  have HASC := Lib.hid hasc
  have HE := Lib.hid he
  have HC := Lib.hid hc
  have HF := Lib.hid hf
  obtain ⟨i0, hi, hz0, hz1, hz2⟩ := info_parts infoPer
  clear hc hasc hf he
  go_enter Tryd.func20, Tryd.ntmps20
  go_wp2_with fail
  refine (checkAscending_v b off cap ds _ hb HC.out (by omega)).mono ?_
  rintro e w1 ⟨rfl, hb1⟩
  rw [HE.out]
  go_wp2_with fail
  refine (weekMasks_v b off cap ds w1 (Nat.lt_of_lt_of_le hb hb1.size) (fun j hj => ?_) (fun j hj => (hb1.frozen (by exact hb)).trans (HF.out j hj)) (fun d hd => ?_) hn).mono ?_
  · have := (hb1.cell (by exact hb)).trans (HC.out j hj)
    rw [this]; simp [hj]
  · have := HASC.out.bd d hd; omega
  rintro e w2 ⟨rfl, hM, hb2⟩
  obtain ⟨M, hMM⟩ : ∃ M, w1.heap.size = M := ⟨_, rfl⟩
  have hb12 : Below w.heap.size w w2 := b_then hb1 hb2
  have hs12 : w.heap.size ≤ w2.heap.size := hb12.size
  rw [hMM] at hM ⊢
  clear hMM hb1 hb2
  go_wp2_with fail
  go_loopw [0, 6] (fun v0 v6 wr => ∃ (j k : Nat) (l : List (Int × Int × Int)) (a : Option Addr), k ≤ ds.length ∧ v0 = .slice a (ds.length - k) (cap - k) ∧ (k < ds.length → a = some ⟨b, off + k, none⟩) ∧ l.length ≤ k ∧ Hid (JoinTo ds (wkF ds) j k l) ∧ Hid (Bd ds k) ∧
      wr.ownsRow w2.heap.size 23 3 v6 l.length (flat3 l) ∧ Below w2.heap.size w2 wr) (fun v0 _ _ => match v0 with | .slice _ n _ => n | _ => 0)
  case atStart => exact ⟨0, 0, [], _, Nat.zero_le _, rfl, fun _ => rfl, Nat.le_refl _, Lib.hid .zero, Lib.hid (Bd.zero HASC.out), World.ownsRow_nil _ _ _ _, Below.refl _ _⟩
  case round =>
    obtain ⟨j, k, l, a, hk, rfl, ha, hlk, HJ, HB, hown, hbr⟩ := hrel
    by_cases hlt : k < ds.length
    · have ha := ha hlt
      subst ha
      have hMr := hM.below hbr
      obtain ⟨x, hx⟩ : ∃ x, ds.getD k 0 = x := ⟨_, rfl⟩
      have hxb : 0 ≤ x ∧ x ≤ 99999 := by rw [← hx]; exact HASC.out.bd _ (getD_mem hlt)
      have hbw2 : b < w2.heap.size := Nat.lt_of_lt_of_le hb hs12
      have hcell : ∀ i, i < ds.length → wr.cell? ⟨b, off + i, none⟩ = some (.int .i64 (ds.getD i 0)) := fun i hi => (hbr.cell (by exact hbw2)).trans ((hb12.cell (by exact hb)).trans (HC.out i hi))
      have hc0 := hcell k hlt
      rw [hx] at hc0
      obtain ⟨m, hm7, hm, hpm⟩ := wkF_all HASC.out (wk x)
      go_wp2_with fail
      refine (runLength_v b (off + k) (ds.length - k) (cap - k) M ds.length m x (wkF ds) wr hc0 (by omega) (by omega) hMr hm hm7).mono ?_
      rintro e w3 ⟨⟨n, hRun, rfl⟩, rfl⟩
      have hRun' : RunOf (wkF ds) (wk (ds.getD k 0)) n := by rw [hx]; exact hRun
      obtain ⟨r1, r2, r3⟩ := run_end HASC.out hlt HB.out hRun' (by rw [hx]; exact hm)
      have HS : Hid (JStep ds (wkF ds) k l (k + n * popc m) (l ++ [(x, ds.getD (k + n * popc m - 1) 0, (m : Int))])) := Lib.hid ⟨hlt, n, hRun', by rw [hx, hm]; simp, by rw [hx, hm]⟩
      have HB' := Lib.hid r3
      obtain ⟨c, hcd⟩ : ∃ c, n * popc m = c := ⟨_, rfl⟩
      rw [hcd] at r1 r2 HB' HS ⊢
      have hc1 := hcell (k + c - 1) (by omega)
      obtain ⟨y, hy⟩ : ∃ y, ds.getD (k + c - 1) 0 = y := ⟨_, rfl⟩
      rw [hy] at hc1 HS
      have hc1' : w3.cell? ⟨b, off + k + (c - 1), none⟩ = some (.int .i64 y) := by rw [show off + k + (c - 1) = off + (k + c - 1) by omega]; exact hc1
      have hlook : ∀ q, (Instr.lookup 101 (.map (some M)) (.int .i64 ((x + 5) / 7)) false).run Tryd.prog (w3.drewN q) = .ok (.int .i64 m) (w3.drewN q) := fun q => by
        have := (hMr.below (show Below w3.heap.size w3 (w3.drewN q) from ⟨rfl, rfl, rfl, Nat.le_refl _, fun _ _ => rfl⟩)).look (wf_small (x := (x + 5) / 7) (by omega) (by omega))
        rwa [show wkF ds ((x + 5) / 7) = (m : Int) from hm] at this
      clear hRun hRun' hcd hx hy r3 hpm hcell hM hc1
      go_wp2_with fail
      refine quiet_tail_mv (v0 := u6) 16 (by kernel_rfl) (by kernel_rfl) rfl (Or.inl ⟨by rfl, fun w => by go_simp⟩) (fun _ _ _ h => h) ?_
      simp only [List.take_succ_cons, List.take_zero, List.drop_succ_cons, List.drop_zero]
      simp only [Act.put, List.setIfInBounds_toArray, List.set_cons_succ, List.set_cons_zero]
      repeat (first
        | go_big_quiet_step ((first
          | (go_at_call 63; exact Calls.quiet_of_same (week_any _ _ (by omega) (by omega))))))
      refine wpQuiet_nil ?_
      intro V hV
      have hbV : Below w3.heap.size w3 V := by obtain ⟨q, rfl⟩ := hV; exact ⟨rfl, rfl, rfl, Nat.le_refl _, fun _ _ => rfl⟩
      have hownV := own_below hown hbV
      have hsV : w2.heap.size ≤ V.heap.size := Nat.le_trans hbr.size hbV.size
      have hbr2 : Below w2.heap.size w2 V := b_then hbr hbV
      clear hV hlook hown hbr hMr hc0 hc1' hm hbV
      have hkk : l.length + 1 ≤ maxLen := by unfold maxLen; omega
      iterate 3 go_step
      refine wpList_append_own _ rfl _ _ 37 rfl w2.heap.size 23 i0 (.agg #[.int .i64 0, .int .i64 0, .int .i64 0]) 3 24 Tryd.underlying37 hi hz0 hz1 hz2 rfl (by decide) _ l.length _ rfl (hownV.alloc _) ⟨V.heap.size, 0, none⟩ 1 1 [.int .i64 x, .int .i64 y, .int .i64 m] rfl rfl
        (World.news_of_block (cs := #[.int .i64 x, .int .i64 y, .int .i64 m]) (t := 23) (fr := (0, 0)) (heap_alloc_new V _)) (by simp [Value.oneCell']) hkk (by omega) (by simp; omega) ?_
      intro v' w4 hown' hgrow _
      have hgrow2 : (V.alloc (.cells #[.int .i64 x, .int .i64 y, .int .i64 m] 23)).grownBy w4 u6.ownBlock := hgrow
      have hbr4 : Below w2.heap.size w2 w4 := hbr2.trans (((Below.refl _ V).alloc hsV _).grown hgrow2 (by simp; omega) (own_block hownV))
      clear hgrow hgrow2 hownV hbr2
      rw [← flat3_snoc] at hown'
      go_wp2_with fail
      refine ⟨⟨j + 1, k + c, l ++ [(x, y, (m : Int))], _, r2, by rw [Nat.sub_sub, Nat.sub_sub], fun hlt2 => ?_, by simp; omega, Lib.hid (.step HJ.out HS.out), HB', by simpa using hown', hbr4⟩, by show ds.length - k - c < ds.length - k; omega⟩
      rw [if_neg (by omega), Nat.add_assoc]
    · have hkn : k = ds.length := by omega
      subst hkn
      rw [Nat.sub_self]
      go_wp2_with fail
      go_ret2
      exact ⟨_, j, l, rfl, HJ.out, own_down hown hs12, b_then hb12 hbr⟩
end Go.Proofs.YtoaimgfekbnijaaDoor
namespace Go.Proofs.YtoaimgfekbnijaaDoor
open Go Go.RowKit
set_option maxRecDepth 100000 in
theorem Join_err (b off cap : Nat) (ds : List Int) (w : World) (hb : b < w.heap.size) (hc : ∀ j, j < ds.length → w.cell? ⟨b, off + j, none⟩ = some (.int .i64 (ds.getD j 0))) (hn : ds.length ≤ 100000) (he : ascErr ds ≠ 0) :
    Calls Tryd.prog 20 #[.slice (some ⟨b, off, none⟩) ds.length cap] w fun r w' => r = .returned (.tuple #[.slice none 0 0, .int .i64 (ascErr ds)]) ∧ Below w.heap.size w w' := by
  have HEb : Hid ((ascErr ds != 0) = true) := Lib.hid (by simpa using he)
  have HC := Lib.hid hc
  clear hc he
  go_enter Tryd.func20, Tryd.ntmps20
  go_wp2_with fail
  refine (checkAscending_v b off cap ds _ hb HC.out hn).mono ?_
  rintro e w1 ⟨rfl, hb1⟩
  obtain ⟨E, hE⟩ : ∃ E, ascErr ds = E := ⟨_, rfl⟩
  have HQ := Lib.hid hE
  rw [hE]
  have hEb := HEb.out
  rw [hE] at hEb
  clear hE HEb
  go_wp2_with fail
  go_ret2
  exact ⟨by rw [HQ.out]; rfl, hb1⟩
set_option maxRecDepth 100000 in
theorem weekMasks_zero (A : Option Addr) (cap : Nat) (w : World) :
    Calls Tryd.prog 61 #[.slice A 0 cap] w fun r w' => (∃ v, r = .returned v) ∧ Below w.heap.size w w' := by
  have hmm := @run_makeMap Tryd.prog
  go_enter Tryd.func61, Tryd.ntmps61
  go_wp2
  go_loopw [9] (fun i wr => i = .int .i64 0 ∧ Below w.heap.size w wr) (fun _ _ => 0)
  case atStart => exact ⟨rfl, (Below.refl _ _).alloc (Nat.le_refl _) _⟩
  case round =>
    obtain ⟨rfl, hnx⟩ := hrel
    go_wp2
    go_ret
    exact ⟨⟨_, rfl⟩, hnx⟩
set_option maxRecDepth 100000 in
theorem Join_zero (A : Option Addr) (cap : Nat) (w : World) :
    Calls Tryd.prog 20 #[.slice A 0 cap] w fun r w' => r = .returned (.tuple #[.slice none 0 0, .int .i64 0]) ∧ Below w.heap.size w w' := by
  go_enter Tryd.func20, Tryd.ntmps20
  go_wp2_with fail
  refine (checkAscending_zero A cap _).mono ?_
  rintro e w1 ⟨rfl, rfl⟩
  go_wp2_with fail
  refine (weekMasks_zero A cap _).mono ?_
  rintro e w2 ⟨⟨v, rfl⟩, hb2⟩
  go_wp2_with fail
  go_loopw [0, 6] (fun v0 v6 wr => v0 = .slice A 0 cap ∧ v6 = .slice none 0 0 ∧ wr = w2) (fun _ _ _ => 0)
  case atStart => exact ⟨rfl, rfl, rfl⟩
  case round =>
    obtain ⟨rfl, rfl, rfl⟩ := hrel
    go_wp2_with fail
    go_ret2
    exact ⟨rfl, hb2⟩
end Go.Proofs.YtoaimgfekbnijaaDoor
