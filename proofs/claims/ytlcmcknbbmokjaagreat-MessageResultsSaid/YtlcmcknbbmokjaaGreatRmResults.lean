/- Contract of message.Results, for every message. -/
import Derived.Test.YtlcmcknbbmokjaaGreatRmRefRes
namespace Go.Proofs.YtlcmcknbbmokjaaGreat
open Go Go.RowKit Ev Go.ChangeMaps Go.MapKept
set_option maxRecDepth 100000 in
theorem resList_zero (A : Option Addr) (cap : Nat) (most : Int) (f : Value) (w : World) (h : 0 ≤ most) :
    Calls Tryz.prog 212 #[.slice A 0 cap, .int .i64 most, f] w fun e w' => e = .returned (.int .i64 0) ∧ w' = w := by
  have hgt : ¬ (most < 0) := by omega
  go_enter Tryz.func212, Tryz.ntmps212
  go_wp2_with fail
  go_loopw [16] (fun i wr => i = .int .i64 0 ∧ wr = w) (fun _ _ => 0)
  case atStart => exact ⟨rfl, rfl⟩
  case round =>
    obtain ⟨rfl, rfl⟩ := hrel
    go_wp2_with fail
    go_ret
    exact ⟨rfl, rfl⟩
set_option maxRecDepth 100000 in
theorem resNamed_zero (A : Option Addr) (cap : Nat) (most : Int) (w : World) (h : 0 ≤ most) :
    Calls Tryz.prog 176 #[.slice A 0 cap, .int .i64 most, .func (.func 177) #[] #[], .func (.func 178) #[] #[]] w
      fun e w' => e = .returned (.int .i64 0) ∧ Below w.heap.size w w' := by
  go_enter Tryz.func176, Tryz.ntmps176
  go_wp2_with fail
  obtain ⟨W2, HW2, hb2⟩ : ∃ W2, (w.alloc (.cells #[.func (.func 177) #[] #[]] 237)).alloc (.cells #[.func (.func 178) #[] #[]] 238) = W2 ∧
      Below w.heap.size w W2 := ⟨_, rfl, below_alloc2 _ _ _⟩
  rw [HW2]
  clear HW2
  refine (Once_new W2).mono ?_
  rintro e1 w1 ⟨rfl, hS1, hcm, hb1, hs1⟩
  have hB1 := b_then hb2 hb1
  have hsf := store_func
  clear hS1 hcm hb1 hb2 hs1
  go_wp2_with fail
  have hB3 := b_then hB1 (below_alloc w1 (.cells #[.func (.func 222) #[] #[.pointer (some ⟨W2.heap.size + 1, 0, none⟩)]] 215))
  refine (resList_zero _ _ _ _ _ h).mono ?_
  rintro e2 w2 ⟨rfl, rfl⟩
  go_wp2_with fail
  go_ret
  exact ⟨rfl, hB3⟩
theorem checkRess_zero (A : Option Addr) (cap : Nat) (w : World) :
    Calls Tryz.prog 112 #[.slice A 0 cap] w fun e w' => e = .returned (.int .i64 0) ∧ Below w.heap.size w w' := by
  go_enter Tryz.func112, Tryz.ntmps112
  go_wp2_with fail
  refine (resNamed_zero _ _ _ _ (by decide)).mono ?_
  rintro e2 w2 ⟨rfl, hb⟩
  go_wp2_with fail
  go_ret
  exact ⟨rfl, hb⟩
theorem checkRess_arg (l : List ResV) (v : Value) (w0 w : World) (hv : SlArg ResV.cells 3 w0 v l) (hb : Below w0.heap.size w0 w) (hs : ∀ k, k < l.length → (l.getD k default).name.size ≤ maxLen) :
    Calls Tryz.prog 112 #[v] w fun e w' => e = .returned (.int .i64 (ressErr l)) ∧ Below w.heap.size w w' := by
  rcases hv with ⟨rfl, A, c, rfl⟩ | ⟨h0, b, off, cap, rfl, hl, hc, hg⟩
  · exact checkRess_zero A c w
  · exact checkRess_any l b off cap w (hl.below hb) (Nat.lt_of_lt_of_le hg hb.size) hs
theorem name_len {s : ByteArray} (h : isName s) : s.size ≤ maxLen := Nat.le_trans h.2.1 (by decide)
set_option maxRecDepth 100000 in
set_option maxHeartbeats 4000000 in
theorem Results_any (h : HeadV) (L : List LineV) (v : Value) (w w' : World) (hv : LnArg w v L) (hb : Below w.heap.size w w') :
    Calls Tryz.prog 49 #[.agg (h.cells v)] w' fun e w'' => ResEr e w'' (resultsOf h L) ∧ Below w'.heap.size w' w'' := by
  have HS : Hid (resultsOf h L = if msgErr h L ≠ 0 then ([], msgErr h L) else if (h.kind.toList == [65, 78, 83]) = false then ([], 13) else if Apart (L.map resOf) then (L.map resOf, 0) else ([], 9)) := Lib.hid rfl
  have HM : Hid (msgErr h L = 0 → L.length ≤ 64 ∧ (∀ k, k < (L.map resOf).length → ((L.map resOf).getD k default).name.size ≤ maxLen) ∧ ressErr (L.map resOf) = if Apart (L.map resOf) then 0 else 9) := Lib.hid fun he => by
    have ok := msg_ok he
    have hln : ∀ k, k < L.length → lineErr (L.getD k default) = 0 := by
      unfold msgErr at he
      split at he
      · rename_i hne; exact absurd he hne
      · exact wlGo_ok _ _ _ _ he
    have hz : ∀ x ∈ L.map resOf, resErr x = 0 := by
      intro x hx
      obtain ⟨l, hl, rfl⟩ := List.mem_map.1 hx
      obtain ⟨k, hk, rfl⟩ := List.getElem_of_mem hl
      have := hln k hk
      rw [List.getD_eq_getElem?_getD, List.getElem?_eq_getElem hk] at this
      exact resOf_ok this
    refine ⟨ok.len, fun k hk => ?_, ?_⟩
    · simp only [List.length_map] at hk
      rw [getD_map resOf L k hk, resOf_name]
      exact name_len (ok.lines k hk).name
    · by_cases hA : Apart (L.map resOf)
      · rw [if_pos hA]; exact ress_apart (by simpa using ok.len) hz hA
      · rw [if_neg hA]; exact ress_twice (by simpa using ok.len) hz hA
  have hcm := fun W hW => CheckMessage_any h L v w W hv hW
  have htr := fun W hW hn => transRes_any L v w W hv hW hn
  obtain ⟨A, c, hve⟩ := hv.len
  obtain ⟨W, HW, hb0, R⟩ := head_new w' h v 44
  have HBX : Hid (∀ x : KeptW W, Below w.heap.size w x.v) := Lib.hid fun x => b_then (b_then hb hb0) x.below
  have HCM := Lib.hid (fun x : KeptW W => hcm x.v (HBX.out x))
  have HTR := Lib.hid (fun (x : KeptW W) hn => htr x.v (HBX.out x) hn)
  generalize resultsOf h L = rs at HS ⊢
  generalize msgErr h L = er at *
  obtain ⟨kind, airport, season, day⟩ := h
  simp only [HeadV.cells] at *
  subst hve
  obtain ⟨r0, r1, r2, r3, r4⟩ := R
  have k0 : ∀ x : KeptW W, x.v.cell? ⟨w'.heap.size, 0, none⟩ = _ := fun x => x.cell r0
  have k1 : ∀ x : KeptW W, x.v.cell? ⟨w'.heap.size, 1, none⟩ = _ := fun x => x.cell r1
  have k2 : ∀ x : KeptW W, x.v.cell? ⟨w'.heap.size, 2, none⟩ = _ := fun x => x.cell r2
  have k3 : ∀ x : KeptW W, x.v.cell? ⟨w'.heap.size, 3, none⟩ = _ := fun x => x.cell r3
  have k4 : ∀ x : KeptW W, x.v.cell? ⟨w'.heap.size, 4, none⟩ = _ := fun x => x.cell r4
  have hne : Nonempty (KeptW W) := ⟨⟨W, Below.refl _ _⟩⟩
  clear r0 r1 r2 r3 r4 hv hb hcm htr
  have fin : ∀ (kb : Bool), (kind.toList == [65, 78, 83]) = kb → Calls Tryz.prog 49 #[.agg #[.string kind, .string airport, .string season, .int .i64 day, .slice A L.length c]] w' fun e w'' => ResEr e w'' rs ∧ Below w'.heap.size w' w'' := by
    intro kb hkb
    go_enter Tryz.func49, Tryz.ntmps49
    go_wp2_with fail
    rw [HW.out]
    clear HW
    refine tail_kept 6 (by kernel_rfl) (by kernel_rfl) ?_
    simp only [List.take_succ_cons, List.take_zero, List.drop_succ_cons, List.drop_zero]
    go_big_quiet_step (fail)
    go_big_quiet_step (exact KeptW.calls (HCM.out _))
    iterate 3 (go_big_quiet_step (fail))
    go_big_quiet_step (exact KeptW.calls_same (unless_any _ _ _))
    refine wpQuiet_nil ?_
    rintro _ ⟨x, rfl⟩
    have q4 := k4 x
    clear k0 k1 k2 k3 k4 hne
    go_wp2_with fail
    refine (fe_new [_, _] _ _ _ _ _ rfl rfl (by simp)).mono ?_
    rintro e2 w2 ⟨rfl, hw⟩
    obtain ⟨x2, rfl⟩ : ∃ x2 : KeptW W, w2 = x2.v := ⟨⟨w2, by rw [hw]; exact b_then x.below (below_alloc _ _)⟩, rfl⟩
    have q4 : x2.v.cell? ⟨w'.heap.size, 4, none⟩ = some (.slice A L.length c) := by rw [hw]; exact b_old (below_alloc _ _) q4
    clear hw
    by_cases he : er = 0
    · obtain ⟨hn, hsz, hre⟩ := HM.out he
      subst he
      clear HM HCM
      cases kb
      · have HE : Hid (rs = ([], 13)) := Lib.hid (by rw [HS.out, hkb]; rfl)
        have h1 : fst [0, unl false 13] = 13 := rfl
        rw [h1]
        clear HS
        go_wp2_with fail
        go_ret2
        rw [HE.out]
        exact ⟨⟨_, rfl, slNil _ _ _⟩, b_then hb0 x2.below⟩
      · have HE : Hid (rs = if Apart (L.map resOf) then (L.map resOf, 0) else ([], 9)) := Lib.hid (by rw [HS.out, hkb]; rfl)
        have h1 : fst [0, unl true 13] = 0 := rfl
        rw [h1]
        clear HS
        go_wp2_with fail
        refine (HTR.out x2 (by omega)).mono ?_
        rintro e3 w3 ⟨⟨v3, rfl, hs3⟩, hb3⟩
        obtain ⟨x3, rfl⟩ : ∃ x3 : KeptW W, w3 = x3.v := ⟨⟨w3, b_then x2.below hb3⟩, rfl⟩
        have hck := checkRess_arg _ _ _ x3.v hs3 (Below.refl _ _) hsz
        rw [hre] at hck
        have HS3 := Lib.hid hs3
        obtain ⟨A3, c3, rfl⟩ := hs3.len
        rw [List.length_map] at hck HS3
        clear HTR hb3 q4 hsz hre hs3
        by_cases hA : Apart (L.map resOf)
        · have HE2 : Hid (rs = (L.map resOf, 0)) := Lib.hid (by rw [HE.out, if_pos hA])
          rw [if_pos hA] at hck
          clear HE
          go_wp2_with fail
          refine hck.mono ?_
          rintro e4 w4 ⟨rfl, hb4⟩
          have HS4 : Hid (SlArg ResV.cells 3 w4 (.slice A3 L.length c3) (L.map resOf)) := Lib.hid (HS3.out.below hb4)
          clear hck
          go_wp2_with fail
          go_ret2
          rw [HE2.out]
          exact ⟨⟨_, rfl, HS4.out⟩, b_then (b_then hb0 x3.below) hb4⟩
        · have HE2 : Hid (rs = ([], 9)) := Lib.hid (by rw [HE.out, if_neg hA])
          rw [if_neg hA] at hck
          clear HE
          go_wp2_with fail
          refine hck.mono ?_
          rintro e4 w4 ⟨rfl, hb4⟩
          clear hck
          go_wp2_with fail
          go_ret2
          rw [HE2.out]
          exact ⟨⟨_, rfl, slNil _ _ _⟩, b_then (b_then hb0 x3.below) hb4⟩
    · have HE : Hid (rs = ([], er)) := Lib.hid (by rw [HS.out, if_pos he])
      have h1 : fst [er, unl kb 13] = er := by unfold fst; rw [if_neg he]
      have hb2 : (er != 0) = true := by simpa using he
      rw [h1]
      clear HS HM HCM HTR he
      go_wp2_with fail
      go_ret2
      rw [HE.out]
      exact ⟨⟨_, rfl, slNil _ _ _⟩, b_then hb0 x2.below⟩
  exact fin _ rfl
end Go.Proofs.YtlcmcknbbmokjaaGreat
