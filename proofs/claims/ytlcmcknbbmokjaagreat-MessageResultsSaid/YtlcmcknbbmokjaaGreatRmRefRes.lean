/- Contract of the reference's Results. -/
import Derived.Test.YtlcmcknbbmokjaaGreatRmTransR
import Derived.Test.YtlcmcknbbmokjaaGreatPm24
import Derived.Test.YtlcmcknbbmokjaaGreatRmOwnRes
import Derived.Laws.AppendOwn
import Derived.OwnWalk
namespace Go.Proofs.YtlcmcknbbmokjaaGreat
open Go Go.RowKit Ev
instance (l : List ResV) : Decidable (Apart l) := by unfold Apart; infer_instance
/-- What Results answers. -/
def resultsOf (h : HeadV) (L : List LineV) : List ResV × Int :=
  if msgErr h L ≠ 0 then ([], msgErr h L) else if (h.kind.toList == [65, 78, 83]) = false then ([], 13) else if Apart (L.map resOf) then (L.map resOf, 0) else ([], 9)
/-- A call that has returned results and an error. -/
structure ResEr (e : Ending) (w' : World) (p : List ResV × Int) : Prop where
  ex : ∃ v, e = .returned (.tuple #[v, .int .i64 p.2]) ∧ SlArg ResV.cells 3 w' v p.1
theorem slNil {α : Type} [Inhabited α] (f : α → Array Value) (k : Nat) (w : World) : SlArg f k w (.slice none 0 0) [] := .inl ⟨rfl, none, 0, rfl⟩
theorem gset (w : World) (b i : Nat) (v : Value) : w.grownBy (w.setCell ⟨b, i, none⟩ v) (some b) :=
  ⟨rfl, rfl, rfl, by simp [World.setCell], fun j _ hne => by
    simp only [World.setCell]
    rw [Array.getElem?_modify]
    rw [if_neg (by intro e; exact hne (by rw [e]))]⟩
set_option maxRecDepth 100000 in
set_option maxHeartbeats 8000000 in
theorem refRes_some (h : HeadV) (L : List LineV) (b off cap : Nat) (w : World) (hl : LnsAt w b off L)
    (hck : ∀ W, Below w.heap.size w W → Calls Tryz.prog 21 #[.agg (h.cells (.slice (some ⟨b, off, none⟩) L.length cap))] W fun e w'' => e = .returned (.int .i64 (msgErr h L)) ∧ Below W.heap.size W w'') :
    Calls Tryz.prog 50 #[.agg (h.cells (.slice (some ⟨b, off, none⟩) L.length cap))] w fun e w' => ResEr e w' (resultsOf h L) ∧ Below w.heap.size w w' := by
  have HS : Hid (resultsOf h L = if msgErr h L ≠ 0 then ([], msgErr h L) else if (h.kind.toList == [65, 78, 83]) = false then ([], 13) else if Apart (L.map resOf) then (L.map resOf, 0) else ([], 9)) := Lib.hid rfl
  have HLEN : Hid (msgErr h L = 0 → L.length ≤ 64) := Lib.hid fun he => (msg_ok he).len
  obtain ⟨W, HW, hb0, R⟩ := head_new w h (.slice (some ⟨b, off, none⟩) L.length cap) 38
  have HCK := Lib.hid (hck W hb0)
  have HL0 := Lib.hid (hl.below hb0)
  generalize resultsOf h L = rs at HS ⊢
  generalize msgErr h L = er at *
  obtain ⟨kind, airport, season, day⟩ := h
  simp only [HeadV.cells] at *
  obtain ⟨r0, r1, r2, r3, r4⟩ := R
  have HB0 := Lib.hid hb0
  obtain ⟨i0, hi, hz0, hz1, hz2⟩ := OwnRes_info
  clear hck hl hb0
  go_enter Tryz.func50, Tryz.ntmps50
  go_wp2_with fail
  rw [HW.out]
  clear HW
  go_wp2_with fail
  refine HCK.out.mono ?_
  rintro e1 w1 ⟨rfl, hb1⟩
  have q0 := b_old hb1 r0
  have q4 := b_old hb1 r4
  have HL1 := Lib.hid (HL0.out.below hb1)
  have HB1 := Lib.hid (b_then HB0.out hb1)
  clear HCK HL0 HB0 r0 r1 r2 r3 r4 hb1
  by_cases he : er = 0
  · have hn := HLEN.out he
    subst he
    clear HLEN
    cases hk : (kind.toList == [65, 78, 83])
    · have HE : Hid (rs = ([], 13)) := Lib.hid (by rw [HS.out, hk]; rfl)
      have hk2 : (kind.toList != [65, 78, 83]) = true := by simp [bne, hk]
      clear HS
      go_wp2_with fail
      go_ret2
      rw [HE.out]
      exact ⟨⟨_, rfl, slNil _ _ _⟩, HB1.out⟩
    · have HE : Hid (rs = if Apart (L.map resOf) then (L.map resOf, 0) else ([], 9)) := Lib.hid (by rw [HS.out, hk]; rfl)
      have hk2 : (kind.toList != [65, 78, 83]) = false := by simp [bne, hk]
      clear HS
      go_wp2_with fail
      clear hk hk2 q0
      go_loopw [2, 3, 5, 6, 7, 8, 9] (fun _ _ v5 v6 _ _ _ wr => ∃ i : Nat, i ≤ L.length ∧ v6 = .int .i64 i ∧ wr.ownsRow w1.heap.size 111 3 v5 i (flatG ResV.cells ((L.map resOf).take i)) ∧ Hid (∀ a k, a < i → k < a → (L.getD k default).q.name ≠ (L.getD a default).q.name) ∧ Hid (Below w1.heap.size w1 wr)) (fun _ _ _ v6 _ _ _ _ => L.length - (intOf v6).toNat)
      case atStart => exact ⟨0, Nat.zero_le _, rfl, World.ownsRow_nil _ _ _ _, Lib.hid (by intro a k ha; omega), Lib.hid (Below.refl _ _)⟩
      case round =>
        obtain ⟨i, hile, rfl, hown, HD, HB⟩ := hrel
        have q4r := b_old HB.out q4
        by_cases hlt : i < L.length
        · have hrow := (HL1.out.below HB.out).row hlt rfl
          have HF := Lib.hid (flatG_take (f := ResV.cells) (L.map resOf) i (by simpa using hlt))
          rw [getD_map resOf L i hlt] at HF
          obtain ⟨l, hlx⟩ : ∃ l, L.getD i default = l := ⟨_, rfl⟩
          rw [hlx] at hrow HF
          have HLX := Lib.hid hlx
          clear hlx
          obtain ⟨WX, HWX, hbX, RX⟩ := line_new wr l 32
          have HRO : Hid (resOf l = if (l.act.toList == [75] || l.act.toList == [79]) = true then ⟨l.q.name, true, l.q.minute⟩ else ⟨l.q.name, false, 0⟩) := Lib.hid rfl
          generalize resOf l = rv at HRO HF
          have HNM : Hid ((L.getD i default).q.name = l.q.name) := Lib.hid (by rw [HLX.out])
          obtain ⟨qact, ⟨qname, qcarrier, qkind, qterminal, qpartner, qlink, qa, qb, qd, qm, qs, qz, qn⟩⟩ := l
          simp only [LineV.cells] at HWX hrow
          obtain ⟨z0, z1, z2, z3, z4, z5, z6, z7, z8, z9, z10, z11, z12, z13⟩ := hrow
          obtain ⟨x0, x1, x2, x3, x4, x5, x6, x7, x8, x9, x10, x11, x12, x13⟩ := RX
          dsimp only at x0 x1 x2 x3 x4 x5 x6 x7 x8 x9 x10 x11 x12 x13 HNM HRO
          clear HLX
          go_wp2_with fail
          rw [HWX.out]
          have q4X := b_old hbX q4r
          have HLW := Lib.hid (HL1.out.below (b_then HB.out hbX))
          have hownX := pr_below hown hbX
          have HBX := Lib.hid (b_then HB.out hbX)
          clear z0 z1 z2 z3 z4 z5 z6 z7 z8 z9 z10 z11 z12 z13 hbX hown q4r
          go_wp2_with fail
          go_loopw [2, 3, 8] (fun _ _ v8 wy => ∃ k : Nat, k ≤ i ∧ v8 = .int .i64 k ∧ Hid (∀ a, a < k → (L.getD a default).q.name ≠ qname) ∧ ∃ q, wy = WX.drewN q) (fun _ _ v8 _ => i - (intOf v8).toNat)
          case atStart => exact ⟨0, Nat.zero_le _, rfl, Lib.hid (by intro a ha; omega), 0, rfl⟩
          case round =>
            obtain ⟨k, hk, rfl, HK, q, rfl⟩ := hrel
            by_cases hkl : k < i
            · obtain ⟨-, y1, -⟩ := HLW.out.row (show k < L.length by omega) rfl
              have HKN : Hid ((L.getD k default).q.name = (L.getD k default).q.name) := Lib.hid rfl
              generalize hkn : (L.getD k default).q.name = kn at y1 HKN
              cases hnm : (kn.toList == qname.toList)
              · go_wp2_with fail
                go_quiet (fail)
                go_wp2_with fail
                go_roundw
                case rel => exact ⟨k + 1, by omega, by go_num, Lib.hid (by
                  intro a ha
                  by_cases e : a = k
                  · subst e; rw [hkn]; intro e2; rw [e2] at hnm; simp at hnm
                  · exact HK.out a (by omega)), q + nq, by first | rfl | rw [World.drewN_drewN]⟩
                case measure => simp [intOf]; omega
              · have HE2 : Hid (rs = ([], 9)) := Lib.hid (by
                  rw [HE.out, if_neg]
                  rw [apart_map]
                  intro hA
                  refine hA i k hlt hkl ?_
                  rw [hkn, HNM.out]
                  exact toList_inj' (by simpa using hnm))
                go_wp2_with fail
                go_quiet (fail)
                go_wp2_with fail
                go_ret2
                rw [HE2.out]
                refine ⟨⟨_, rfl, slNil _ _ _⟩, ?_⟩
                exact b_then HB1.out (b_then HBX.out ⟨rfl, rfl, rfl, Nat.le_refl _, fun _ _ => rfl⟩)
            · obtain rfl : k = i := by omega
              have HDN : Hid (∀ a k_1, a < k + 1 → k_1 < a → (L.getD k_1 default).q.name ≠ (L.getD a default).q.name) := Lib.hid (by
                intro a k' ha hk'
                by_cases e : a = k
                · subst e; rw [HNM.out]; exact HK.out k' hk'
                · exact HD.out a k' (by omega) hk')
              obtain ⟨WY, hWY⟩ : ∃ WY, WX.drewN q = WY := ⟨_, rfl⟩
              have hbY : Below WX.heap.size WX WY := by rw [← hWY]; exact ⟨rfl, rfl, rfl, Nat.le_refl _, fun _ _ => rfl⟩
              rw [hWY]
              have u1 := b_old hbY x1
              have y0 := fun o => b_old (below_alloc WY o) (b_old hbY x0)
              have y1 := fun o => b_old (below_alloc WY o) (b_old hbY x1)
              have y10 := fun o => b_old (below_alloc WY o) (b_old hbY x10)
              have hownY := pr_below hownX hbY
              have HBY := Lib.hid (b_then HBX.out hbY)
              have q4Y := b_old hbY q4X
              have hsY := HBY.out.size
              clear x0 x1 x2 x3 x4 x5 x6 x7 x8 x9 x10 x11 x12 x13 hWY hbY hownX HK HD
              cases h1 : (qact.toList == [75])
              · cases h2 : (qact.toList == [79])
                · have hR : rv = ⟨qname, false, 0⟩ := by rw [HRO.out, h1, h2]; rfl
                  subst hR
                  have HA := Lib.hid ((hownY.alloc (.cells #[.string qname, .bool false, .int .i64 0] 111)).alloc (.cells #[.string qname, .bool false, .int .i64 0] 111))
                  have HNB : Hid (((WY.alloc (.cells #[.string qname, .bool false, .int .i64 0] 111)).alloc (.cells #[.string qname, .bool false, .int .i64 0] 111)).heap[WY.heap.size + 1]? = some (.cells #[.string qname, .bool false, .int .i64 0] 111 (0, 0))) := Lib.hid (by
                    have h1 := heap_new (WY.alloc (.cells #[.string qname, .bool false, .int .i64 0] 111)) (.cells #[.string qname, .bool false, .int .i64 0] 111)
                    rwa [show (WY.alloc (.cells #[.string qname, .bool false, .int .i64 0] 111)).heap.size = WY.heap.size + 1 by simp] at h1)
                  go_wp2_with (at_builtin; refine Hid.out ?_)
                  refine Lib.hid ?_
                  refine wpList_append_own _ rfl _ _ 81 rfl w1.heap.size 111 i0 (.agg #[.string ⟨#[]⟩, .bool false, .int .i64 0]) 3 32 Tryz.underlying81 hi hz0 hz1 hz2 rfl (by decide) _ k _ rfl HA.out ⟨WY.heap.size + 1, 0, none⟩ 1 1 [.string qname, .bool false, .int .i64 0] rfl rfl
                    (World.news_of_block (cs := #[.string qname, .bool false, .int .i64 0]) (t := 111) (fr := (0, 0)) HNB.out) (by simp [Value.oneCell']) (by unfold maxLen; omega) (by omega) (by simp; omega) ?_
                  intro v' w4 hown' hgrow _
                  have hb4 : Below w1.heap.size w1 w4 := ((HBY.out.alloc hsY _).alloc (by simp; omega) _).grown hgrow (by simp; omega) (pr_blk HA.out)
                  rw [show flatG ResV.cells (List.take k (List.map resOf L)) ++ [.string qname, .bool false, .int .i64 0] = flatG ResV.cells (List.take (k + 1) (List.map resOf L)) from HF.out.symm] at hown'
                  clear hgrow HA HNB y0 y1 y10 u1 hownY q4Y
                  go_wp2_with fail
                  refine ⟨⟨k + 1, by omega, by go_num, by simpa using hown', HDN, Lib.hid hb4⟩, by simp [intOf]; omega⟩
                · have hR : rv = ⟨qname, true, qm⟩ := by rw [HRO.out, h1, h2]; rfl
                  subst hR
                  have HA := Lib.hid ((hownY.alloc (.cells #[.string qname, .bool true, .int .i64 qm] 111)).alloc (.cells #[.string qname, .bool true, .int .i64 qm] 111))
                  have HNB : Hid (((WY.alloc (.cells #[.string qname, .bool true, .int .i64 qm] 111)).alloc (.cells #[.string qname, .bool true, .int .i64 qm] 111)).heap[WY.heap.size + 1]? = some (.cells #[.string qname, .bool true, .int .i64 qm] 111 (0, 0))) := Lib.hid (by
                    have h1 := heap_new (WY.alloc (.cells #[.string qname, .bool true, .int .i64 qm] 111)) (.cells #[.string qname, .bool true, .int .i64 qm] 111)
                    rwa [show (WY.alloc (.cells #[.string qname, .bool true, .int .i64 qm] 111)).heap.size = WY.heap.size + 1 by simp] at h1)
                  go_wp2_with (at_builtin; refine Hid.out ?_)
                  refine Lib.hid ?_
                  refine wpList_append_own _ rfl _ _ 81 rfl w1.heap.size 111 i0 (.agg #[.string ⟨#[]⟩, .bool false, .int .i64 0]) 3 32 Tryz.underlying81 hi hz0 hz1 hz2 rfl (by decide) _ k _ rfl HA.out ⟨WY.heap.size + 1, 0, none⟩ 1 1 [.string qname, .bool true, .int .i64 qm] rfl rfl
                    (World.news_of_block (cs := #[.string qname, .bool true, .int .i64 qm]) (t := 111) (fr := (0, 0)) HNB.out) (by simp [Value.oneCell']) (by unfold maxLen; omega) (by omega) (by simp; omega) ?_
                  intro v' w4 hown' hgrow _
                  have hb4 : Below w1.heap.size w1 w4 := ((HBY.out.alloc hsY _).alloc (by simp; omega) _).grown hgrow (by simp; omega) (pr_blk HA.out)
                  rw [show flatG ResV.cells (List.take k (List.map resOf L)) ++ [.string qname, .bool true, .int .i64 qm] = flatG ResV.cells (List.take (k + 1) (List.map resOf L)) from HF.out.symm] at hown'
                  clear hgrow HA HNB y0 y1 y10 u1 hownY q4Y
                  go_wp2_with fail
                  refine ⟨⟨k + 1, by omega, by go_num, by simpa using hown', HDN, Lib.hid hb4⟩, by simp [intOf]; omega⟩
              · have hR : rv = ⟨qname, true, qm⟩ := by rw [HRO.out, h1]; rfl
                subst hR
                have HA := Lib.hid ((hownY.alloc (.cells #[.string qname, .bool true, .int .i64 qm] 111)).alloc (.cells #[.string qname, .bool true, .int .i64 qm] 111))
                have HNB : Hid (((WY.alloc (.cells #[.string qname, .bool true, .int .i64 qm] 111)).alloc (.cells #[.string qname, .bool true, .int .i64 qm] 111)).heap[WY.heap.size + 1]? = some (.cells #[.string qname, .bool true, .int .i64 qm] 111 (0, 0))) := Lib.hid (by
                  have h1 := heap_new (WY.alloc (.cells #[.string qname, .bool true, .int .i64 qm] 111)) (.cells #[.string qname, .bool true, .int .i64 qm] 111)
                  rwa [show (WY.alloc (.cells #[.string qname, .bool true, .int .i64 qm] 111)).heap.size = WY.heap.size + 1 by simp] at h1)
                go_wp2_with (at_builtin; refine Hid.out ?_)
                refine Lib.hid ?_
                refine wpList_append_own _ rfl _ _ 81 rfl w1.heap.size 111 i0 (.agg #[.string ⟨#[]⟩, .bool false, .int .i64 0]) 3 32 Tryz.underlying81 hi hz0 hz1 hz2 rfl (by decide) _ k _ rfl HA.out ⟨WY.heap.size + 1, 0, none⟩ 1 1 [.string qname, .bool true, .int .i64 qm] rfl rfl
                  (World.news_of_block (cs := #[.string qname, .bool true, .int .i64 qm]) (t := 111) (fr := (0, 0)) HNB.out) (by simp [Value.oneCell']) (by unfold maxLen; omega) (by omega) (by simp; omega) ?_
                intro v' w4 hown' hgrow _
                have hb4 : Below w1.heap.size w1 w4 := ((HBY.out.alloc hsY _).alloc (by simp; omega) _).grown hgrow (by simp; omega) (pr_blk HA.out)
                rw [show flatG ResV.cells (List.take k (List.map resOf L)) ++ [.string qname, .bool true, .int .i64 qm] = flatG ResV.cells (List.take (k + 1) (List.map resOf L)) from HF.out.symm] at hown'
                clear hgrow HA HNB y0 y1 y10 u1 hownY q4Y
                go_wp2_with fail
                refine ⟨⟨k + 1, by omega, by go_num, by simpa using hown', HDN, Lib.hid hb4⟩, by simp [intOf]; omega⟩
        · obtain rfl : i = L.length := by omega
          have hlm : (L.map resOf).length = L.length := by simp
          rw [← hlm, List.take_length, hlm] at hown
          have HE2 : Hid (rs = (L.map resOf, 0)) := Lib.hid (by
            rw [HE.out, if_pos]
            rw [apart_map]
            exact fun a k ha hk => HD.out a k ha hk)
          go_wp2_with fail
          go_ret2
          rw [HE2.out]
          exact ⟨⟨_, rfl, slArg_own (f := ResV.cells) (k := 3) (fun _ => rfl) (by decide) (by rw [hlm]; exact hown)⟩, b_then HB1.out HB.out⟩
  · have hb : (er == 0) = false := by simpa using he
    have hb2 : (er != 0) = true := by simpa using he
    have HE : Hid (rs = ([], er)) := Lib.hid (by rw [HS.out, if_pos he])
    clear HS HLEN he
    go_wp2_with fail
    go_ret2
    rw [HE.out]
    exact ⟨⟨_, rfl, slNil _ _ _⟩, HB1.out⟩
set_option maxRecDepth 100000 in
set_option maxHeartbeats 4000000 in
theorem refRes_zero (h : HeadV) (A : Option Addr) (c : Nat) (w : World)
    (hck : ∀ W, Below w.heap.size w W → Calls Tryz.prog 21 #[.agg (h.cells (.slice A 0 c))] W fun e w'' => e = .returned (.int .i64 (msgErr h [])) ∧ Below W.heap.size W w'') :
    Calls Tryz.prog 50 #[.agg (h.cells (.slice A 0 c))] w fun e w' => ResEr e w' (resultsOf h []) ∧ Below w.heap.size w w' := by
  have HS : Hid (resultsOf h [] = if msgErr h [] ≠ 0 then ([], msgErr h []) else if (h.kind.toList == [65, 78, 83]) = false then ([], 13) else ([], 0)) := Lib.hid rfl
  obtain ⟨W, HW, hb0, R⟩ := head_new w h (.slice A 0 c) 38
  have HCK := Lib.hid (hck W hb0)
  generalize resultsOf h [] = rs at HS ⊢
  generalize msgErr h [] = er at *
  obtain ⟨kind, airport, season, day⟩ := h
  simp only [HeadV.cells] at *
  obtain ⟨r0, r1, r2, r3, r4⟩ := R
  have HB0 := Lib.hid hb0
  clear hck hb0
  go_enter Tryz.func50, Tryz.ntmps50
  go_wp2_with fail
  rw [HW.out]
  clear HW
  go_wp2_with fail
  refine HCK.out.mono ?_
  rintro e1 w1 ⟨rfl, hb1⟩
  have q0 := b_old hb1 r0
  have q4 := b_old hb1 r4
  have HB1 := Lib.hid (b_then HB0.out hb1)
  clear HCK HB0 r0 r1 r2 r3 r4 hb1
  by_cases he : er = 0
  · subst he
    cases hk : (kind.toList == [65, 78, 83])
    · have HE : Hid (rs = ([], 13)) := Lib.hid (by rw [HS.out, hk]; rfl)
      have hk2 : (kind.toList != [65, 78, 83]) = true := by simp [bne, hk]
      clear HS
      go_wp2_with fail
      go_ret2
      rw [HE.out]
      exact ⟨⟨_, rfl, slNil _ _ _⟩, HB1.out⟩
    · have HE : Hid (rs = ([], 0)) := Lib.hid (by rw [HS.out, hk]; rfl)
      have hk2 : (kind.toList != [65, 78, 83]) = false := by simp [bne, hk]
      clear HS
      go_wp2_with fail
      clear hk hk2 q0
      go_loopw [2, 3, 5, 6, 7, 8, 9] (fun _ _ v5 v6 _ _ _ wr => v6 = .int .i64 0 ∧ v5 = .slice none 0 0 ∧ wr = w1) (fun _ _ _ _ _ _ _ _ => 0)
      case atStart => exact ⟨rfl, rfl, rfl⟩
      case round =>
        obtain ⟨rfl, rfl, rfl⟩ := hrel
        go_wp2_with fail
        go_ret2
        rw [HE.out]
        exact ⟨⟨_, rfl, slNil _ _ _⟩, HB1.out⟩
  · have hb : (er == 0) = false := by simpa using he
    have hb2 : (er != 0) = true := by simpa using he
    have HE : Hid (rs = ([], er)) := Lib.hid (by rw [HS.out, if_pos he])
    clear HS he
    go_wp2_with fail
    go_ret2
    rw [HE.out]
    exact ⟨⟨_, rfl, slNil _ _ _⟩, HB1.out⟩
theorem refRes_any (h : HeadV) (L : List LineV) (v : Value) (w w' : World) (hv : LnArg w v L) (hb : Below w.heap.size w w') :
    Calls Tryz.prog 50 #[.agg (h.cells v)] w' fun e w'' => ResEr e w'' (resultsOf h L) ∧ Below w'.heap.size w' w'' := by
  have hck := fun W hW => refMessage_any h L v w W hv hW
  rcases hv with ⟨rfl, A, c, rfl⟩ | ⟨h0, b, off, cap, rfl, hl, hc, hs⟩
  · exact refRes_zero h A c w' fun W hW => hck W (b_then hb hW)
  · exact refRes_some h L b off cap w' (hl.below hb) fun W hW => hck W (b_then hb hW)
end Go.Proofs.YtlcmcknbbmokjaaGreat
