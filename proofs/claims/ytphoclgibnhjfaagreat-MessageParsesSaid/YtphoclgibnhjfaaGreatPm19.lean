/- Contract of the reference's ParseLine, for every text. -/
import Derived.Test.YtphoclgibnhjfaaGreatPm18
import Derived.Test.YtphoclgibnhjfaaGreatPm17
import Derived.Test.YtphoclgibnhjfaaGreatPm10
namespace Go.Proofs.YtphoclgibnhjfaaGreat
open Go Go.RowKit Ev Go.ChangeMaps Go.MapKept
theorem box14 {X w : World} {b N : Nat} {l : LineV} (h : LineBox X b l) (l' : LineV) (a0 a1 a2 a3 a4 a5 a6 a7 a8 a9 a10 a11 a12 a13 : Value) (ha : l'.cells.toList = [a0, a1, a2, a3, a4, a5, a6, a7, a8, a9, a10, a11, a12, a13]) (hN : N ≤ b) (hB : Below N w X) :
    ∃ Y, Hid (((((((((((((((X.setCell ⟨b, 0, none⟩ a0).setCell ⟨b, 1, none⟩ a1).setCell ⟨b, 2, none⟩ a2).setCell ⟨b, 3, none⟩ a3).setCell ⟨b, 4, none⟩ a4).setCell ⟨b, 5, none⟩ a5).setCell ⟨b, 6, none⟩ a6).setCell ⟨b, 7, none⟩ a7).setCell ⟨b, 8, none⟩ a8).setCell ⟨b, 9, none⟩ a9).setCell ⟨b, 10, none⟩ a10).setCell ⟨b, 11, none⟩ a11).setCell ⟨b, 12, none⟩ a12).setCell ⟨b, 13, none⟩ a13) = Y) ∧ LineBox Y b l' ∧ Below N w Y ∧ Off b X Y := by
  have e0 : ((((((((((((((X.setCell ⟨b, 0, none⟩ a0).setCell ⟨b, 1, none⟩ a1).setCell ⟨b, 2, none⟩ a2).setCell ⟨b, 3, none⟩ a3).setCell ⟨b, 4, none⟩ a4).setCell ⟨b, 5, none⟩ a5).setCell ⟨b, 6, none⟩ a6).setCell ⟨b, 7, none⟩ a7).setCell ⟨b, 8, none⟩ a8).setCell ⟨b, 9, none⟩ a9).setCell ⟨b, 10, none⟩ a10).setCell ⟨b, 11, none⟩ a11).setCell ⟨b, 12, none⟩ a12).setCell ⟨b, 13, none⟩ a13) = X.setCells b 0 l'.cells.toList := by rw [ha]; rfl
  exact ⟨_, Lib.hid e0, h.put, hB.trans ((below_cells X b 0 _).mono hN), Off.setCells _ _ _ _⟩
theorem qNumK_eq {t : ByteArray} {K : Nat} (h : decide (allK t K) = true) : qNumK t K = if allK t K then nv t K else 0 := by
  have h' := of_decide_eq_true h
  unfold qNumK; rw [if_pos h', if_pos h']
theorem qpm_eq {t : ByteArray} (h : decide (pmOk t) = true) : qpm t = if pmOk t then pmVal t else 0 := by
  have h' := of_decide_eq_true h
  unfold qpm; rw [if_pos h', if_pos h']
theorem blockG {w : World} {A : Nat} {T : TypeId} (cs : Array Value) (h : w.heap[A]? = some (.cells cs T)) (t : Nat) (v : Value) (hv : cs[t]? = some v) : w.cell? ⟨A, t, none⟩ = some v ∧ w.frozen? ⟨A, t, none⟩ = false := by
  constructor
  · simp only [World.cell?, h]
    simpa using hv
  · simp [World.frozen?, h]
theorem block14 {w : World} {A : Nat} {T : TypeId} (l : LineV) (h : w.heap[A]? = some (.cells l.cells T)) : LineBox w A l :=
  have hv : ∀ t, t < 14 → l.cells[t]? = some (l.cells.toList.getD t undef) := fun t ht => by
    rw [List.getD_eq_getElem?_getD, Array.getElem?_toList, Array.getElem?_eq_getElem (show t < l.cells.size from ht)]; rfl
  ⟨fun t ht => (blockG l.cells h t _ (hv t ht)).1, fun t ht => (blockG l.cells h t _ (hv t ht)).2⟩
theorem lq5 (s : ByteArray) (h : rdOk 5 (cwAt s 5) = true) : qNumK (cwAt s 5) 5 = (lineOf s).q.from_ := by
  have h1 : rdOk 5 (cwAt s 5) = decide (allK (cwAt s 5) 5) := rfl
  rw [h1] at h
  rw [qNumK_eq h]
  simp only [lineOf]
theorem ld5 (s : ByteArray) (h : rdOk 5 (cwAt s 5) = true) (W : World) : Calls Tryz.prog 59 #[.string (cwAt s 5), .int .i64 (5 : Nat)] W fun e w' => e = .returned (.int .i64 (lineOf s).q.from_) ∧ w' = W := by
  rw [← lq5 s h]
  exact qdigitsK_any (cwAt s 5) 5 (by decide) (by decide) W
theorem lq6 (s : ByteArray) (h : rdOk 6 (cwAt s 6) = true) : qNumK (cwAt s 6) 5 = (lineOf s).q.to := by
  have h1 : rdOk 6 (cwAt s 6) = decide (allK (cwAt s 6) 5) := rfl
  rw [h1] at h
  rw [qNumK_eq h]
  simp only [lineOf]
theorem ld6 (s : ByteArray) (h : rdOk 6 (cwAt s 6) = true) (W : World) : Calls Tryz.prog 59 #[.string (cwAt s 6), .int .i64 (5 : Nat)] W fun e w' => e = .returned (.int .i64 (lineOf s).q.to) ∧ w' = W := by
  rw [← lq6 s h]
  exact qdigitsK_any (cwAt s 6) 5 (by decide) (by decide) W
theorem lq9 (s : ByteArray) (h : rdOk 9 (cwAt s 9) = true) : qNumK (cwAt s 9) 3 = (lineOf s).q.seats := by
  have h1 : rdOk 9 (cwAt s 9) = decide (allK (cwAt s 9) 3) := rfl
  rw [h1] at h
  rw [qNumK_eq h]
  simp only [lineOf]
theorem ld9 (s : ByteArray) (h : rdOk 9 (cwAt s 9) = true) (W : World) : Calls Tryz.prog 59 #[.string (cwAt s 9), .int .i64 (3 : Nat)] W fun e w' => e = .returned (.int .i64 (lineOf s).q.seats) ∧ w' = W := by
  rw [← lq9 s h]
  exact qdigitsK_any (cwAt s 9) 3 (by decide) (by decide) W
theorem lq10 (s : ByteArray) (h : rdOk 10 (cwAt s 10) = true) : qNumK (cwAt s 10) 1 = (lineOf s).q.size := by
  have h1 : rdOk 10 (cwAt s 10) = decide (allK (cwAt s 10) 1) := rfl
  rw [h1] at h
  rw [qNumK_eq h]
  simp only [lineOf]
theorem ld10 (s : ByteArray) (h : rdOk 10 (cwAt s 10) = true) (W : World) : Calls Tryz.prog 59 #[.string (cwAt s 10), .int .i64 (1 : Nat)] W fun e w' => e = .returned (.int .i64 (lineOf s).q.size) ∧ w' = W := by
  rw [← lq10 s h]
  exact qdigitsK_any (cwAt s 10) 1 (by decide) (by decide) W
theorem lq11 (s : ByteArray) (h : rdOk 11 (cwAt s 11) = true) : qNumK (cwAt s 11) 2 = (lineOf s).q.noise := by
  have h1 : rdOk 11 (cwAt s 11) = decide (allK (cwAt s 11) 2) := rfl
  rw [h1] at h
  rw [qNumK_eq h]
  simp only [lineOf]
theorem ld11 (s : ByteArray) (h : rdOk 11 (cwAt s 11) = true) (W : World) : Calls Tryz.prog 59 #[.string (cwAt s 11), .int .i64 (2 : Nat)] W fun e w' => e = .returned (.int .i64 (lineOf s).q.noise) ∧ w' = W := by
  rw [← lq11 s h]
  exact qdigitsK_any (cwAt s 11) 2 (by decide) (by decide) W
theorem lq8 (s : ByteArray) (h : rdOk 8 (cwAt s 8) = true) : qpm (cwAt s 8) = (lineOf s).q.minute := by
  have h1 : rdOk 8 (cwAt s 8) = decide (pmOk (cwAt s 8)) := rfl
  rw [h1] at h
  rw [qpm_eq h]
  simp only [lineOf]
theorem ld8 (s : ByteArray) (h : rdOk 8 (cwAt s 8) = true) (W : World) : Calls Tryz.prog 116 #[.string (cwAt s 8)] W fun e w' => e = .returned (.int .i64 (lineOf s).q.minute) ∧ w' = W := by
  rw [← lq8 s h]
  exact qParseMinute_any (cwAt s 8) W
/-- The words of a line, in a row. -/
structure WsAt (w : World) (g : Nat) (s : ByteArray) : Prop where
  c : ∀ k, k < 14 → w.cell? ⟨g, k, none⟩ = some (.string (cwAt s k))
theorem WsAt.below {w w' : World} {g : Nat} {s : ByteArray} (h : WsAt w g s) (hb : Below w.heap.size w w') : WsAt w' g s := ⟨fun k hk => b_old hb (h.c k hk)⟩
theorem ws_of {w : World} {base : Nat} {v : Value} {s : ByteArray} (h14 : nWords s = 14) (h : w.ownsRow base 9 1 v (splits s).length (flatG strC (splits s))) : ∃ g c, v = .slice (some ⟨g, 0, none⟩) 14 c ∧ WsAt w g s := by
  have hl : (splits s).length = 13 + 1 := by simp [splits, h14]
  have h' := h
  rw [hl] at h'
  obtain ⟨g, c, rfl⟩ := ownsRow_succ h'
  refine ⟨g, c, rfl, ⟨fun k hk => ?_⟩⟩
  have e : w.cell? ⟨g, k * 1 + 0, none⟩ = (flatG strC (splits s))[k * 1 + 0]? := h'.cellAt _ (by omega)
  rw [flatG_at (k := 1) (fun _ => rfl) _ k 0 (by omega) (by decide)] at e
  rw [Nat.mul_one, Nat.add_zero] at e
  rw [e]
  simp [strC, splits, h14, hk, List.getD_eq_getElem?_getD]
set_option maxRecDepth 100000 in
set_option maxHeartbeats 4000000 in
theorem qParseLine_any (s : ByteArray) (hs : s.size ≤ 100000) (w : World) :
    Calls Tryz.prog 58 #[.string s] w fun e w' => e = .returned (.tuple #[.agg (lineIs s).1.cells, .int .i64 (lineIs s).2.1, .int .i64 (lineIs s).2.2]) ∧ Below w.heap.size w w' := by
  have hsp := fun w => split_any s hs w
  obtain ⟨W0, HW0, hb0, LB0⟩ : ∃ W0, Hid (w.alloc (.cells #[.string ⟨#[]⟩, .string ⟨#[]⟩, .string ⟨#[]⟩, .string ⟨#[]⟩, .string ⟨#[]⟩, .string ⟨#[]⟩, .string ⟨#[]⟩, .int .i64 0, .int .i64 0, .int .i64 0, .int .i64 0, .int .i64 0, .int .i64 0, .int .i64 0] 86) = W0) ∧ Below w.heap.size w W0 ∧ LineBox W0 w.heap.size zeroLine := ⟨_, Lib.hid rfl, below_alloc _ _, LineBox.new w zeroLine _⟩
  go_enter Tryz.func58, Tryz.ntmps58
  go_wp2_with fail
  rw [HW0.out]
  clear HW0
  go_wp2_with fail
  refine (hsp _).mono ?_
  rintro e1 W1 ⟨⟨v, rfl, hown⟩, hb1⟩
  have LB1 := LB0.below hb1
  have hB1 := b_then hb0 hb1
  clear hsp LB0 hb0 hb1
  by_cases h14 : nWords s = 14
  · obtain ⟨g, c, rfl, hws⟩ := ws_of h14 hown
    have HF := Lib.hid (fun k hk W => fitsK_any k hk (cwAt s k) W)
    have HBAD : Hid (∀ k, k < 14 → (∀ j, j < k → rdOk j (cwAt s j) = true) → rdOk k (cwAt s k) = false → lineIs s = (zeroLine, ((k : Nat) : Int), 25)) := Lib.hid fun k hk h1 h2 => by unfold lineIs; rw [if_neg (by simp [h14]), badK_some hk h1 h2]
    have HGOOD : Hid ((∀ k, k < 14 → rdOk k (cwAt s k) = true) → lineIs s = if lineErr (lineOf s) ≠ 0 then (zeroLine, 14, lineErr (lineOf s)) else (lineOf s, 0, 0)) := Lib.hid fun h => by unfold lineIs; rw [if_neg (by simp [h14]), badK_none h]
    have HWS : Hid (∀ x : KeptW W1, WsAt x.v g s) := Lib.hid fun x => hws.below x.below
    have HLB : Hid (∀ x : KeptW W1, LineBox x.v w.heap.size zeroLine) := Lib.hid fun x => LB1.below x.below
    have HB1 : Hid (∀ x : KeptW W1, Below w.heap.size w x.v) := Lib.hid fun x => b_then hB1 x.below
    obtain ⟨x1, hx1⟩ : ∃ x1 : KeptW W1, W1 = x1.v := ⟨⟨W1, Below.refl _ _⟩, rfl⟩
    have HX1 := Lib.hid hx1
    clear hown hws LB1 hB1 hx1
    go_wp2_with fail
    go_loopw [3, 4, 6] (fun _ _ i wr => ∃ k : Nat, k ≤ 14 ∧ i = .int .i64 k ∧ Hid (∀ j, j < k → rdOk j (cwAt s j) = true) ∧ ∃ x : KeptW W1, wr = x.v) (fun _ _ i _ => 14 - (intOf i).toNat)
    case atStart => exact ⟨0, Nat.zero_le _, rfl, Lib.hid (by intro j h; omega), x1, HX1.out⟩
    case round =>
      obtain ⟨k, hk, rfl, HOK, x, rfl⟩ := hrel
      by_cases hlt : k < 14
      · have hc := (HWS.out x).c k hlt
        have hf := HF.out k hlt
        have HNX : Hid (rdOk k (cwAt s k) = true → ∀ j, j < k + 1 → rdOk j (cwAt s j) = true) := Lib.hid fun h j hj => by
          rcases Nat.lt_or_ge j k with h1 | h1
          · exact HOK.out j h1
          · obtain rfl : j = k := by omega
            exact h
        have HBK : Hid (rdOk k (cwAt s k) = false → lineIs s = (zeroLine, ((k : Nat) : Int), 25)) := Lib.hid fun h => HBAD.out k hlt HOK.out h
        generalize cwAt s k = t at *
        generalize rdOk k t = ok at *
        go_wp2_with fail
        refine (KeptW.calls (hf x.v)).mono ?_
        rintro e2 _ ⟨rfl, x2, rfl⟩
        cases ok
        · have LB := HLB.out x2
          have hBB := HB1.out x2
          obtain ⟨q0, q1, q2, q3, q4, q5, q6, q7, q8, q9, q10, q11, q12, q13⟩ := LB.line
          have f0 := LB.f 0 (by decide)
          have f1 := LB.f 1 (by decide)
          have f2 := LB.f 2 (by decide)
          have f3 := LB.f 3 (by decide)
          have f4 := LB.f 4 (by decide)
          have f5 := LB.f 5 (by decide)
          have f6 := LB.f 6 (by decide)
          have f7 := LB.f 7 (by decide)
          have f8 := LB.f 8 (by decide)
          have f9 := LB.f 9 (by decide)
          have f10 := LB.f 10 (by decide)
          have f11 := LB.f 11 (by decide)
          have f12 := LB.f 12 (by decide)
          have f13 := LB.f 13 (by decide)

          simp only [zeroLine, zeroReq] at q0 q1 q2 q3 q4 q5 q6 q7 q8 q9 q10 q11 q12 q13
          clear hc hf
          go_wp2_with fail
          obtain ⟨Y, HY, hLY, hBY, -⟩ := box14 LB zeroLine (.string ⟨#[]⟩) (.string ⟨#[]⟩) (.string ⟨#[]⟩) (.string ⟨#[]⟩) (.string ⟨#[]⟩) (.string ⟨#[]⟩) (.string ⟨#[]⟩) (.int .i64 0) (.int .i64 0) (.int .i64 0) (.int .i64 0) (.int .i64 0) (.int .i64 0) (.int .i64 0) rfl (Nat.le_refl _) hBB
          rw [HY.out]
          obtain ⟨t0, t1, t2, t3, t4, t5, t6, t7, t8, t9, t10, t11, t12, t13⟩ := hLY.line
          simp only [zeroLine, zeroReq] at t0 t1 t2 t3 t4 t5 t6 t7 t8 t9 t10 t11 t12 t13
          exact bodyPost_ret (v := .tuple #[.agg #[.string ⟨#[]⟩, .string ⟨#[]⟩, .string ⟨#[]⟩, .string ⟨#[]⟩, .string ⟨#[]⟩, .string ⟨#[]⟩, .string ⟨#[]⟩, .int .i64 0, .int .i64 0, .int .i64 0, .int .i64 0, .int .i64 0, .int .i64 0, .int .i64 0], .int .i64 k, .int .i64 25]) (by simp [results, Tryz.results58, go_sem, t0, t1, t2, t3, t4, t5, t6, t7, t8, t9, t10, t11, t12, t13]) rfl ⟨by rw [HBK.out (by trivial)]; rfl, hBY⟩
        · clear hc hf
          go_wp2_with fail
          go_roundw
          case rel => exact ⟨k + 1, by omega, by go_num, Lib.hid (HNX.out (by trivial)), x2, rfl⟩
          case measure => simp [intOf]; omega
      · obtain rfl : k = 14 := by omega
        have HG := Lib.hid (HGOOD.out HOK.out)
        have w0 : ∀ y : KeptW W1, y.v.cell? ⟨g, 0, none⟩ = some (.string (lineOf s).act) := fun y => (HWS.out y).c 0 (by decide)
        have w1 : ∀ y : KeptW W1, y.v.cell? ⟨g, 1, none⟩ = some (.string (lineOf s).q.carrier) := fun y => (HWS.out y).c 1 (by decide)
        have w2 : ∀ y : KeptW W1, y.v.cell? ⟨g, 2, none⟩ = some (.string (lineOf s).q.name) := fun y => (HWS.out y).c 2 (by decide)
        have w3 : ∀ y : KeptW W1, y.v.cell? ⟨g, 3, none⟩ = some (.string (lineOf s).q.kind) := fun y => (HWS.out y).c 3 (by decide)
        have w4 : ∀ y : KeptW W1, y.v.cell? ⟨g, 4, none⟩ = some (.string (lineOf s).q.partner) := fun y => (HWS.out y).c 4 (by decide)
        have w5 : ∀ y : KeptW W1, y.v.cell? ⟨g, 5, none⟩ = some (.string (cwAt s 5)) := fun y => (HWS.out y).c 5 (by decide)
        have w6 : ∀ y : KeptW W1, y.v.cell? ⟨g, 6, none⟩ = some (.string (cwAt s 6)) := fun y => (HWS.out y).c 6 (by decide)
        have w7 : ∀ y : KeptW W1, y.v.cell? ⟨g, 7, none⟩ = some (.string (cwAt s 7)) := fun y => (HWS.out y).c 7 (by decide)
        have w8 : ∀ y : KeptW W1, y.v.cell? ⟨g, 8, none⟩ = some (.string (cwAt s 8)) := fun y => (HWS.out y).c 8 (by decide)
        have w9 : ∀ y : KeptW W1, y.v.cell? ⟨g, 9, none⟩ = some (.string (cwAt s 9)) := fun y => (HWS.out y).c 9 (by decide)
        have w10 : ∀ y : KeptW W1, y.v.cell? ⟨g, 10, none⟩ = some (.string (cwAt s 10)) := fun y => (HWS.out y).c 10 (by decide)
        have w11 : ∀ y : KeptW W1, y.v.cell? ⟨g, 11, none⟩ = some (.string (cwAt s 11)) := fun y => (HWS.out y).c 11 (by decide)
        have w12 : ∀ y : KeptW W1, y.v.cell? ⟨g, 12, none⟩ = some (.string (cwAt s 12)) := fun y => (HWS.out y).c 12 (by decide)
        have w13 : ∀ y : KeptW W1, y.v.cell? ⟨g, 13, none⟩ = some (.string (cwAt s 13)) := fun y => (HWS.out y).c 13 (by decide)
        have hm : ∀ W, Calls Tryz.prog 114 #[.string (cwAt s 7)] W fun r w' => r = .returned (.tuple #[.int .i64 (lineOf s).q.days, .int .i64 (pmErr (cwAt s 7))]) ∧ w' = W := qParseMask_any (cwAt s 7)
        have d5 : ∀ W, Calls Tryz.prog 59 #[.string (cwAt s 5), .int .i64 (5 : Nat)] W fun e w' => e = .returned (.int .i64 (lineOf s).q.from_) ∧ w' = W := ld5 s (HOK.out 5 (by decide))
        have d6 : ∀ W, Calls Tryz.prog 59 #[.string (cwAt s 6), .int .i64 (5 : Nat)] W fun e w' => e = .returned (.int .i64 (lineOf s).q.to) ∧ w' = W := ld6 s (HOK.out 6 (by decide))
        have d9 : ∀ W, Calls Tryz.prog 59 #[.string (cwAt s 9), .int .i64 (3 : Nat)] W fun e w' => e = .returned (.int .i64 (lineOf s).q.seats) ∧ w' = W := ld9 s (HOK.out 9 (by decide))
        have d10 : ∀ W, Calls Tryz.prog 59 #[.string (cwAt s 10), .int .i64 (1 : Nat)] W fun e w' => e = .returned (.int .i64 (lineOf s).q.size) ∧ w' = W := ld10 s (HOK.out 10 (by decide))
        have d11 : ∀ W, Calls Tryz.prog 59 #[.string (cwAt s 11), .int .i64 (2 : Nat)] W fun e w' => e = .returned (.int .i64 (lineOf s).q.noise) ∧ w' = W := ld11 s (HOK.out 11 (by decide))
        have d8 : ∀ W, Calls Tryz.prog 116 #[.string (cwAt s 8)] W fun e w' => e = .returned (.int .i64 (lineOf s).q.minute) ∧ w' = W := ld8 s (HOK.out 8 (by decide))
        have d12 : ∀ W, Calls Tryz.prog 115 #[.string (cwAt s 12)] W fun e w' => e = .returned (.string (lineOf s).q.terminal) ∧ w' = W := undashed_any (cwAt s 12)
        have d13 : ∀ W, Calls Tryz.prog 115 #[.string (cwAt s 13)] W fun e w' => e = .returned (.string (lineOf s).q.link) ∧ w' = W := undashed_any (cwAt s 13)
        have hck := refLine_any (lineOf s)
        clear HF HBAD HGOOD HOK HWS HX1
        generalize lineErr (lineOf s) = er at *
        generalize lineOf s = l at *
        generalize cwAt s 5 = t5 at *
        generalize cwAt s 6 = t6 at *
        generalize cwAt s 7 = t7 at *
        generalize cwAt s 8 = t8 at *
        generalize cwAt s 9 = t9 at *
        generalize cwAt s 10 = t10 at *
        generalize cwAt s 11 = t11 at *
        generalize cwAt s 12 = t12 at *
        generalize cwAt s 13 = t13 at *
        generalize pmErr t7 = pe at *
        obtain ⟨act, ⟨name, carrier, kind, terminal, partner, link, fa, fb, d, m, sx, z, nn⟩⟩ := l
        simp only [LineV.cells] at hck
        dsimp only at w0 w1 w2 w3 w4 hm d5 d6 d8 d9 d10 d11 d12 d13
        have v7 := w7 x
        go_wp2_with fail
        refine (hm _).mono ?_
        rintro e2 w2' ⟨rfl, rfl⟩
        go_wp2_with fail
        refine alloc_tail (o := .cells #[.int .i64 0, .int .i64 0, .int .i64 0] 82) 11 10 (by kernel_rfl) (by kernel_rfl) rfl ⟨rfl, fun a w => ?_⟩ ?_
        · simp [go_sem]
        intro A V4 hb4
        have k5 : ∀ y : KeptW V4, y.v.cell? ⟨g, 5, none⟩ = some (.string t5) := fun y => y.cell (b_old hb4 (w5 x))
        have k6 : ∀ y : KeptW V4, y.v.cell? ⟨g, 6, none⟩ = some (.string t6) := fun y => y.cell (b_old hb4 (w6 x))
        have hne : Nonempty (KeptW V4) := ⟨⟨V4, Below.refl _ _⟩⟩
        simp only [List.take_succ_cons, List.take_zero, List.drop_succ_cons, List.drop_zero, List.append_nil, Act.put, List.setIfInBounds_toArray, List.set_cons_succ, List.set_cons_zero]
        iterate 3 (go_big_quiet_step (fail))
        go_big_quiet_step (exact KeptW.calls_same (d5 _))
        iterate 3 (go_big_quiet_step (fail))
        go_big_quiet_step (exact KeptW.calls_same (d6 _))
        iterate 2 (go_big_quiet_step (fail))
        refine wpQuiet_nil ?_
        intro V5 hb5 hA hbk
        clear k5 k6 hne hb4 v7
        obtain ⟨b0, b1, b2, f0, f1, f2⟩ := block3 hbk
        go_wp2_with fail
        obtain ⟨V6, HV6, hb6, u0, u1, u2⟩ : ∃ V6, Hid (((V5.setCell ⟨A, 0, none⟩ (.int .i64 fa)).setCell ⟨A, 1, none⟩ (.int .i64 fb)).setCell ⟨A, 2, none⟩ (.int .i64 d) = V6) ∧ Below x.v.heap.size x.v V6 ∧ V6.cell? ⟨A, 0, none⟩ = some (.int .i64 fa) ∧ V6.cell? ⟨A, 1, none⟩ = some (.int .i64 fb) ∧ V6.cell? ⟨A, 2, none⟩ = some (.int .i64 d) :=
          ⟨_, Lib.hid rfl, ((hb5.setCell (p := ⟨A, 0, none⟩) hA _).setCell (p := ⟨A, 1, none⟩) hA _).setCell (p := ⟨A, 2, none⟩) hA _, set_other (set_other (set_same b0) (by simp)) (by simp), set_other (set_same (set_other b1 (by simp))) (by simp), set_same (set_other (set_other b2 (by simp)) (by simp))⟩
        rw [HV6.out]
        clear HV6 hbk hb5 b0 b1 b2 f0 f1 f2
        refine alloc_tail (o := .cells #[.string ⟨#[]⟩, .string ⟨#[]⟩, .string ⟨#[]⟩, .string ⟨#[]⟩, .string ⟨#[]⟩, .string ⟨#[]⟩, .string ⟨#[]⟩, .int .i64 0, .int .i64 0, .int .i64 0, .int .i64 0, .int .i64 0, .int .i64 0, .int .i64 0] 86) 43 42 (by kernel_rfl) (by kernel_rfl) rfl ⟨rfl, fun a w => ?_⟩ ?_
        · simp [go_sem]
        intro A2 V7 hb7
        have hb67 := b_then hb6 hb7
        have kw0 : ∀ y : KeptW V7, y.v.cell? ⟨g, 0, none⟩ = some (.string act) := fun y => y.cell (b_old hb67 (w0 x))
        have kw1 : ∀ y : KeptW V7, y.v.cell? ⟨g, 1, none⟩ = some (.string carrier) := fun y => y.cell (b_old hb67 (w1 x))
        have kw2 : ∀ y : KeptW V7, y.v.cell? ⟨g, 2, none⟩ = some (.string name) := fun y => y.cell (b_old hb67 (w2 x))
        have kw3 : ∀ y : KeptW V7, y.v.cell? ⟨g, 3, none⟩ = some (.string kind) := fun y => y.cell (b_old hb67 (w3 x))
        have kw4 : ∀ y : KeptW V7, y.v.cell? ⟨g, 4, none⟩ = some (.string partner) := fun y => y.cell (b_old hb67 (w4 x))
        have kw8 : ∀ y : KeptW V7, y.v.cell? ⟨g, 8, none⟩ = some (.string t8) := fun y => y.cell (b_old hb67 (w8 x))
        have kw9 : ∀ y : KeptW V7, y.v.cell? ⟨g, 9, none⟩ = some (.string t9) := fun y => y.cell (b_old hb67 (w9 x))
        have kw10 : ∀ y : KeptW V7, y.v.cell? ⟨g, 10, none⟩ = some (.string t10) := fun y => y.cell (b_old hb67 (w10 x))
        have kw11 : ∀ y : KeptW V7, y.v.cell? ⟨g, 11, none⟩ = some (.string t11) := fun y => y.cell (b_old hb67 (w11 x))
        have kw12 : ∀ y : KeptW V7, y.v.cell? ⟨g, 12, none⟩ = some (.string t12) := fun y => y.cell (b_old hb67 (w12 x))
        have kw13 : ∀ y : KeptW V7, y.v.cell? ⟨g, 13, none⟩ = some (.string t13) := fun y => y.cell (b_old hb67 (w13 x))
        have ku0 : ∀ y : KeptW V7, y.v.cell? ⟨A, 0, none⟩ = some (.int .i64 fa) := fun y => y.cell (b_old hb7 u0)
        have ku1 : ∀ y : KeptW V7, y.v.cell? ⟨A, 1, none⟩ = some (.int .i64 fb) := fun y => y.cell (b_old hb7 u1)
        have ku2 : ∀ y : KeptW V7, y.v.cell? ⟨A, 2, none⟩ = some (.int .i64 d) := fun y => y.cell (b_old hb7 u2)
        have hne : Nonempty (KeptW V7) := ⟨⟨V7, Below.refl _ _⟩⟩
        simp only [List.take_succ_cons, List.take_zero, List.drop_succ_cons, List.drop_zero, List.append_nil, Act.put, List.setIfInBounds_toArray, List.set_cons_succ, List.set_cons_zero]
        iterate 15 (go_big_quiet_step (fail))
        go_big_quiet_step (exact KeptW.calls_same (d12 _))
        iterate 6 (go_big_quiet_step (fail))
        go_big_quiet_step (exact KeptW.calls_same (d13 _))
        iterate 4 (go_big_quiet_step (fail))
        go_big_quiet_step (exact KeptW.calls_same (d8 _))
        iterate 3 (go_big_quiet_step (fail))
        go_big_quiet_step (exact KeptW.calls_same (d9 _))
        iterate 3 (go_big_quiet_step (fail))
        go_big_quiet_step (exact KeptW.calls_same (d10 _))
        iterate 3 (go_big_quiet_step (fail))
        go_big_quiet_step (exact KeptW.calls_same (d11 _))
        iterate 2 (go_big_quiet_step (fail))
        refine wpQuiet_nil ?_
        intro V8 hb8 hA2 hbk
        clear kw0 kw1 kw2 kw3 kw4 kw8 kw9 kw10 kw11 kw12 kw13 ku0 ku1 ku2 hne hb7 hb67 u0 u1 u2 d5 d6 d8 d9 d10 d11 d12 d13 hm
        have hb68 := b_then hb6 hb8
        have LB8 := block14 zeroLine hbk
        obtain ⟨q0, q1, q2, q3, q4, q5, q6, q7, q8, q9, q10, q11, q12, q13⟩ := LB8.line
        have f0 := LB8.f 0 (by decide)
        have f1 := LB8.f 1 (by decide)
        have f2 := LB8.f 2 (by decide)
        have f3 := LB8.f 3 (by decide)
        have f4 := LB8.f 4 (by decide)
        have f5 := LB8.f 5 (by decide)
        have f6 := LB8.f 6 (by decide)
        have f7 := LB8.f 7 (by decide)
        have f8 := LB8.f 8 (by decide)
        have f9 := LB8.f 9 (by decide)
        have f10 := LB8.f 10 (by decide)
        have f11 := LB8.f 11 (by decide)
        have f12 := LB8.f 12 (by decide)
        have f13 := LB8.f 13 (by decide)

        simp only [zeroLine, zeroReq] at q0 q1 q2 q3 q4 q5 q6 q7 q8 q9 q10 q11 q12 q13
        go_wp2_with fail
        obtain ⟨Y, HY, hLY, hBY, -⟩ := box14 LB8 ⟨act, ⟨name, carrier, kind, terminal, partner, link, fa, fb, d, m, sx, z, nn⟩⟩ (.string act) (.string name) (.string carrier) (.string kind) (.string terminal) (.string partner) (.string link) (.int .i64 fa) (.int .i64 fb) (.int .i64 d) (.int .i64 m) (.int .i64 sx) (.int .i64 z) (.int .i64 nn) rfl (Nat.le_trans hb6.size hA2) hb68
        rw [HY.out]
        clear HY q0 q1 q2 q3 q4 q5 q6 q7 q8 q9 q10 q11 q12 q13 f0 f1 f2 f3 f4 f5 f6 f7 f8 f9 f10 f11 f12 f13 LB8 hbk hb8 hb68
        refine (hck _).mono ?_
        rintro e3 V9 ⟨rfl, hb9⟩
        obtain ⟨x9, rfl⟩ : ∃ x9 : KeptW W1, V9 = x9.v := ⟨⟨V9, b_then x.below (hBY.trans (hb9.mono hBY.size))⟩, rfl⟩
        have LB9 := hLY.below hb9
        have LBR := HLB.out x9
        have hBB := HB1.out x9
        clear hck hb9 hBY hLY hb6
        obtain ⟨q0, q1, q2, q3, q4, q5, q6, q7, q8, q9, q10, q11, q12, q13⟩ := LBR.line
        have f0 := LBR.f 0 (by decide)
        have f1 := LBR.f 1 (by decide)
        have f2 := LBR.f 2 (by decide)
        have f3 := LBR.f 3 (by decide)
        have f4 := LBR.f 4 (by decide)
        have f5 := LBR.f 5 (by decide)
        have f6 := LBR.f 6 (by decide)
        have f7 := LBR.f 7 (by decide)
        have f8 := LBR.f 8 (by decide)
        have f9 := LBR.f 9 (by decide)
        have f10 := LBR.f 10 (by decide)
        have f11 := LBR.f 11 (by decide)
        have f12 := LBR.f 12 (by decide)
        have f13 := LBR.f 13 (by decide)

        simp only [zeroLine, zeroReq] at q0 q1 q2 q3 q4 q5 q6 q7 q8 q9 q10 q11 q12 q13
        obtain ⟨s0, s1, s2, s3, s4, s5, s6, s7, s8, s9, s10, s11, s12, s13⟩ := LB9.line
        dsimp only at s0 s1 s2 s3 s4 s5 s6 s7 s8 s9 s10 s11 s12 s13
        by_cases he : er = 0
        · have HE : Hid (lineIs s = (⟨act, ⟨name, carrier, kind, terminal, partner, link, fa, fb, d, m, sx, z, nn⟩⟩, 0, 0)) := Lib.hid (by rw [HG.out, if_neg (by simp [he])])
          subst he
          clear HG
          go_wp2_with fail
          obtain ⟨Z, HZ, hLZ, hBZ, -⟩ := box14 LBR ⟨act, ⟨name, carrier, kind, terminal, partner, link, fa, fb, d, m, sx, z, nn⟩⟩ (.string act) (.string name) (.string carrier) (.string kind) (.string terminal) (.string partner) (.string link) (.int .i64 fa) (.int .i64 fb) (.int .i64 d) (.int .i64 m) (.int .i64 sx) (.int .i64 z) (.int .i64 nn) rfl (Nat.le_refl _) hBB
          rw [HZ.out]
          obtain ⟨t0, t1, t2, t3, t4, t5, t6, t7, t8, t9, t10, t11, t12, t13⟩ := hLZ.line
          dsimp only at t0 t1 t2 t3 t4 t5 t6 t7 t8 t9 t10 t11 t12 t13
          exact bodyPost_ret (v := .tuple #[.agg #[.string act, .string name, .string carrier, .string kind, .string terminal, .string partner, .string link, .int .i64 fa, .int .i64 fb, .int .i64 d, .int .i64 m, .int .i64 sx, .int .i64 z, .int .i64 nn], .int .i64 0, .int .i64 0]) (by simp [results, Tryz.results58, go_sem, t0, t1, t2, t3, t4, t5, t6, t7, t8, t9, t10, t11, t12, t13]) rfl ⟨by rw [HE.out]; rfl, hBZ⟩
        · have HE : Hid (lineIs s = (zeroLine, 14, er)) := Lib.hid (by rw [HG.out, if_pos he])
          have hb : (er != 0) = true := by simpa using he
          clear HG
          go_wp2_with fail
          obtain ⟨Z, HZ, hLZ, hBZ, -⟩ := box14 LBR zeroLine (.string ⟨#[]⟩) (.string ⟨#[]⟩) (.string ⟨#[]⟩) (.string ⟨#[]⟩) (.string ⟨#[]⟩) (.string ⟨#[]⟩) (.string ⟨#[]⟩) (.int .i64 0) (.int .i64 0) (.int .i64 0) (.int .i64 0) (.int .i64 0) (.int .i64 0) (.int .i64 0) rfl (Nat.le_refl _) hBB
          rw [HZ.out]
          obtain ⟨t0, t1, t2, t3, t4, t5, t6, t7, t8, t9, t10, t11, t12, t13⟩ := hLZ.line
          simp only [zeroLine, zeroReq] at t0 t1 t2 t3 t4 t5 t6 t7 t8 t9 t10 t11 t12 t13
          exact bodyPost_ret (v := .tuple #[.agg #[.string ⟨#[]⟩, .string ⟨#[]⟩, .string ⟨#[]⟩, .string ⟨#[]⟩, .string ⟨#[]⟩, .string ⟨#[]⟩, .string ⟨#[]⟩, .int .i64 0, .int .i64 0, .int .i64 0, .int .i64 0, .int .i64 0, .int .i64 0, .int .i64 0], .int .i64 14, .int .i64 er]) (by simp [results, Tryz.results58, go_sem, t0, t1, t2, t3, t4, t5, t6, t7, t8, t9, t10, t11, t12, t13]) rfl ⟨by rw [HE.out]; rfl, hBZ⟩
  · have h14b : (((nWords s : Nat) : Int) != 14) = true := by rw [bne_iff_ne]; omega
    have HE : Hid (lineIs s = (zeroLine, min ((nWords s : Nat) : Int) 13, 25)) := Lib.hid (by unfold lineIs; rw [if_pos h14]; simp only [Prod.mk.injEq, true_and, and_true]; omega)
    obtain ⟨A, c, rfl⟩ := (slArg_own (f := strC) (k := 1) (fun _ => rfl) (by decide) hown).len
    have hl : (splits s).length = nWords s := by simp [splits]
    rw [hl]
    obtain ⟨q0, q1, q2, q3, q4, q5, q6, q7, q8, q9, q10, q11, q12, q13⟩ := LB1.line
    have f0 := LB1.f 0 (by decide)
    have f1 := LB1.f 1 (by decide)
    have f2 := LB1.f 2 (by decide)
    have f3 := LB1.f 3 (by decide)
    have f4 := LB1.f 4 (by decide)
    have f5 := LB1.f 5 (by decide)
    have f6 := LB1.f 6 (by decide)
    have f7 := LB1.f 7 (by decide)
    have f8 := LB1.f 8 (by decide)
    have f9 := LB1.f 9 (by decide)
    have f10 := LB1.f 10 (by decide)
    have f11 := LB1.f 11 (by decide)
    have f12 := LB1.f 12 (by decide)
    have f13 := LB1.f 13 (by decide)

    simp only [zeroLine, zeroReq] at q0 q1 q2 q3 q4 q5 q6 q7 q8 q9 q10 q11 q12 q13
    clear hown hl h14
    generalize nWords s = N at *
    go_wp2_with fail
    obtain ⟨Z, HZ, hLZ, hBZ, -⟩ := box14 LB1 zeroLine (.string ⟨#[]⟩) (.string ⟨#[]⟩) (.string ⟨#[]⟩) (.string ⟨#[]⟩) (.string ⟨#[]⟩) (.string ⟨#[]⟩) (.string ⟨#[]⟩) (.int .i64 0) (.int .i64 0) (.int .i64 0) (.int .i64 0) (.int .i64 0) (.int .i64 0) (.int .i64 0) rfl (Nat.le_refl _) hB1
    rw [HZ.out]
    obtain ⟨t0, t1, t2, t3, t4, t5, t6, t7, t8, t9, t10, t11, t12, t13⟩ := hLZ.line
    simp only [zeroLine, zeroReq] at t0 t1 t2 t3 t4 t5 t6 t7 t8 t9 t10 t11 t12 t13
    exact bodyPost_ret (v := .tuple #[.agg #[.string ⟨#[]⟩, .string ⟨#[]⟩, .string ⟨#[]⟩, .string ⟨#[]⟩, .string ⟨#[]⟩, .string ⟨#[]⟩, .string ⟨#[]⟩, .int .i64 0, .int .i64 0, .int .i64 0, .int .i64 0, .int .i64 0, .int .i64 0, .int .i64 0], .int .i64 (min (N : Int) 13), .int .i64 25]) (by simp [results, Tryz.results58, go_sem, t0, t1, t2, t3, t4, t5, t6, t7, t8, t9, t10, t11, t12, t13]) rfl ⟨by rw [HE.out]; rfl, hBZ⟩
end Go.Proofs.YtphoclgibnhjfaaGreat
