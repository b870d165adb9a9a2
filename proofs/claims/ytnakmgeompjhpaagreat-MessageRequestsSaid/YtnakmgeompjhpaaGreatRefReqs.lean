/- Contract of the reference's CheckRequests. -/
import Derived.Test.YtnakmgeompjhpaaGreatRefReq2
namespace Go.Proofs.YtnakmgeompjhpaaGreat
open Go Go.RowKit
theorem findIx_mem (s : ByteArray) : ∀ (l : List ReqV) (i : Nat), 0 ≤ findIx s l i ↔ ∃ q ∈ l, (q.name.toList == s.toList) = true
  | [], i => by simp [findIx]
  | q :: r, i => by
    unfold findIx
    split
    · rename_i h; exact ⟨fun _ => ⟨q, by simp, h⟩, fun _ => by omega⟩
    · rename_i h
      rw [findIx_mem s r (i + 1)]
      constructor
      · rintro ⟨p, hp, e⟩; exact ⟨p, by simp [hp], e⟩
      · rintro ⟨p, hp, e⟩
        rcases List.mem_cons.1 hp with rfl | hp
        · exact absurd e h
        · exact ⟨p, hp, e⟩
/-- The names of the first k requests. -/
def seenT (l : List ReqV) (k : Nat) : ByteArray → Bool := fun s => decide (0 ≤ findIx s (l.take k) 0)
theorem seenT_zero (l : List ReqV) : seenT l 0 = fun _ => false := by
  funext s; simp [seenT, findIx]
theorem toList_inj' {a b : ByteArray} (h : a.toList = b.toList) : a = b := ByteArray.ext (Array.toList_inj.1 (by rw [← ByteArray.toList_eq, ← ByteArray.toList_eq]; exact h))
theorem seenT_succ (l : List ReqV) (k : Nat) (h : k < l.length) (q : ReqV) (hq : l.getD k default = q) : seenT l (k + 1) = onceStep (seenT l k) q.name := by
  subst hq
  funext s
  unfold onceStep seenT
  have ht : l.take (k + 1) = l.take k ++ [l.getD k default] := by
    rw [List.take_succ_eq_append_getElem h]; simp [List.getD_eq_getElem?_getD, List.getElem?_eq_getElem h]
  by_cases e : s = (l.getD k default).name
  · rw [if_pos e, decide_eq_true_iff, findIx_mem, ht]
    exact ⟨_, List.mem_append_right _ (List.mem_singleton.2 rfl), by rw [e]; simp⟩
  · rw [if_neg e]
    refine decide_eq_decide.2 ?_
    rw [findIx_mem, findIx_mem, ht]
    constructor
    · rintro ⟨p, hp, h2⟩
      rcases List.mem_append.1 hp with hp | hp
      · exact ⟨p, hp, h2⟩
      · rw [List.mem_singleton.1 hp] at h2
        exact absurd (toList_inj' (eq_of_beq h2)).symm e
    · rintro ⟨p, hp, h2⟩; exact ⟨p, List.mem_append_left _ hp, h2⟩
theorem namedErr_ref (l : List ReqV) (k : Nat) (h : k < l.length) (q : ReqV) (hq : l.getD k default = q) :
    namedErr (l.drop k) (seenT l k) = if fst [reqErr q, unl (!(decide (0 ≤ findIx q.name (l.take k) 0))) 9] ≠ 0 then fst [reqErr q, unl (!(decide (0 ≤ findIx q.name (l.take k) 0))) 9] else namedErr (l.drop (k + 1)) (seenT l (k + 1)) := by
  rw [namedErr_drop l k h _ q hq, seenT_succ l k h q hq]
  rfl
set_option maxRecDepth 100000 in
set_option maxHeartbeats 4000000 in
theorem refReqs_any (l : List ReqV) (b off cap : Nat) (w : World) (hl : RqsAt w b off l) (hcap : l.length ≤ cap) (h9 : l.length ≤ 900) :
    Calls Tryz.prog 9 #[.slice (some ⟨b, off, none⟩) l.length cap] w fun e w' => e = .returned (.int .i64 (reqsErr l)) ∧ Below w.heap.size w w' := by
  have HL := Lib.hid hl
  clear hl
  by_cases hm : 64 < l.length
  · have HE : Hid (reqsErr l = 5) := Lib.hid (by unfold reqsErr; rw [if_pos hm])
    go_enter Tryz.func9, Tryz.ntmps9
    go_wp2_with fail
    go_ret
    exact ⟨by rw [HE.out]; rfl, Below.refl _ _⟩
  have HE : Hid (reqsErr l = namedErr l (seenT l 0)) := Lib.hid (by unfold reqsErr; rw [if_neg hm, seenT_zero])
  go_enter Tryz.func9, Tryz.ntmps9
  go_wp2_with fail
  go_loopw [3] (fun i wr => ∃ (k : Nat), k ≤ l.length ∧ i = .int .i64 k ∧ Hid (reqsErr l = namedErr (l.drop k) (seenT l k)) ∧ Hid (RqsAt wr b off l) ∧ Hid (Below w.heap.size w wr)) (fun i _ => l.length - (intOf i).toNat)
  case atStart => exact ⟨0, Nat.zero_le _, rfl, Lib.hid (by rw [HE.out]; simp), HL, Lib.hid (Below.refl _ _)⟩
  case round =>
    obtain ⟨k, hk, rfl, HF, HQ, HB⟩ := hrel
    by_cases hlt : k < l.length
    · have hd := namedErr_ref l k hlt _ rfl
      have hrow := HQ.out.row hlt rfl
      generalize l.getD k default = q at hd hrow
      have hcall := refReq_any q
      have hat := fun w h => refAt_any q.name l k b off cap w h hk h9
      generalize reqErr q = e at hd hcall
      generalize findIx q.name (l.take k) 0 = f at hd hat
      have HD := Lib.hid (HF.out.trans hd)
      clear hd HF
      obtain ⟨qa, qb, qc, qd, qe, qf, qg, qh, qi, qj, qk, ql, qm⟩ := q
      dsimp only [ReqV.cells] at hcall hrow hat
      obtain ⟨x0, x1, x2, x3, x4, x5, x6, x7, x8, x9, x10, x11, x12⟩ := hrow
      go_wp2_with fail
      refine (hcall _).mono ?_
      rintro e1 w1 ⟨rfl, hb1⟩
      have HB1 : Hid (Below w.heap.size w w1) := Lib.hid (b_then HB.out hb1)
      have HQ1 : Hid (RqsAt w1 b off l) := Lib.hid (HQ.out.below hb1)
      have k0 : ∀ x : KeptW w1, x.v.cell? ⟨b, off + k * 13, none⟩ = some (.string qa) := fun x => x.cell (b_old hb1 x0)
      have hne : Nonempty (KeptW w1) := ⟨⟨w1, Below.refl _ _⟩⟩
      have hat1 : ∀ x : KeptW w1, Calls Tryz.prog 29 #[.slice (some ⟨b, off, none⟩) k cap, .string qa] x.v fun e w' => e = .returned (.int .i64 f) ∧ Below x.v.heap.size x.v w' := fun x =>
        (hat x.v (HQ1.out.below x.below)).mono fun e w' ⟨h1, m, h2⟩ => ⟨h1, by rw [h2]; exact ⟨rfl, rfl, rfl, Nat.le_refl _, fun _ _ => rfl⟩⟩
      clear x0 x1 x2 x3 x4 x5 x6 x7 x8 x9 x10 x11 x12 hcall hat hb1
      by_cases he : e = 0
      · subst he
        go_wp2_with fail
        refine region_kept (by kernel_rfl) (by kernel_rfl) ?_
        iterate 11 (go_big_quiet_step (fail))
        go_big_quiet_step (exact KeptW.calls (hat1 _))
        iterate 2 (go_big_quiet_step (fail))
        refine wpQuiet_nil ?_
        rintro _ ⟨x, rfl⟩
        have HBx : Hid (Below w.heap.size w x.v) := Lib.hid (b_then HB1.out x.below)
        have HQx : Hid (RqsAt x.v b off l) := Lib.hid (HQ1.out.below x.below)
        clear k0 hne hat1
        by_cases hf : 0 ≤ f
        · have HZ := Lib.hid (show reqsErr l = 9 by rw [HD.out]; simp [fst, unl, hf])
          go_wp2_with fail
          go_ret
          exact ⟨by rw [HZ.out]; rfl, HBx.out⟩
        · have HZ := Lib.hid (show reqsErr l = namedErr (l.drop (k + 1)) (seenT l (k + 1)) by rw [HD.out]; simp [fst, unl, hf])
          go_wp2_with fail
          go_round
          case rel => exact ⟨k + 1, by omega, by go_num, HZ, HQx, HBx⟩
          case measure => simp [intOf]; omega
      · have hb : (e == 0) = false := by simpa using he
        have hb' : (e != 0) = true := by simpa using he
        have HZ := Lib.hid (show reqsErr l = e by rw [HD.out]; simp [fst, he])
        clear he
        go_wp2_with fail
        refine region_kept (by kernel_rfl) (by kernel_rfl) ?_
        iterate 14 (go_big_quiet_step (fail))
        refine wpQuiet_nil ?_
        rintro _ ⟨x, rfl⟩
        go_wp2_with fail
        go_ret
        exact ⟨by rw [HZ.out]; rfl, b_then HB1.out x.below⟩
    · have HZ := Lib.hid (show reqsErr l = 0 by rw [HF.out, List.drop_of_length_le (by omega)]; rfl)
      go_wp2_with fail
      go_ret
      exact ⟨by rw [HZ.out]; rfl, HB.out⟩
end Go.Proofs.YtnakmgeompjhpaaGreat
