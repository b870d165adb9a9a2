/- Contracts of package message: the footer of a message, and its lines, are read. · Contract of readHeader, for every text. · A region that draws its order and ends in late stores: its first n operations leave the world in a class C; the last of them (number n - 1) need not come before the store behind it (number n), all oth -/
import Derived.Test.YtphoclgibnhjfaaGreatPm16
import Derived.Test.YtphoclgibnhjfaaGreatPm17
import Derived.Test.YtphoclgibnhjfaaGreatPm12
import Derived.Test.YtphoclgibnhjfaaGreatPm8
namespace Go.Proofs.YtphoclgibnhjfaaGreat
open Go Go.RowKit Go.ChangeMaps Go.MapKept
/-- A line of text is a footer. -/
def isFoot (s : ByteArray) : Bool := (cwAt s 0).toList == [69, 78, 68]
theorem isFooter_any (s : ByteArray) (hs : s.size ≤ 100000) (w : World) :
    Calls Tryz.prog 108 #[.string s] w fun e w' => e = .returned (.bool (isFoot s)) ∧ Below w.heap.size w w' := by
  have hc := fun w => Cut_any s w (by omega)
  have HF : Hid (isFoot s = ((cutB s).1.toList == [69, 78, 68])) := Lib.hid rfl
  generalize cutB s = p at *
  generalize decide (0 ≤ blankAt s) = f at *
  go_enter Tryz.func108, Tryz.ntmps108
  go_wp2_with fail
  refine (hc _).mono ?_
  rintro e w1 ⟨rfl, hb⟩
  go_wp2_with fail
  go_ret
  exact ⟨by rw [HF.out]; rfl, hb⟩
/-- What stands behind the first word of a footer. -/
def footTail (s : ByteArray) : ByteArray := ⟨(Lib.trimPrefix s.data.toList [69, 78, 68, 32]).toArray⟩
def footErr (s : ByteArray) (n : Int) : Int :=
  fst [unl (Lib.hasPrefix s.data.toList [69, 78, 68, 32] && decide (allK (footTail s) 2)) 25, unl ((if allK (footTail s) 2 then nv (footTail s) 2 else 0) == n) 27]
set_option maxRecDepth 100000 in
theorem checkFooter_any (s : ByteArray) (n : Int) (w : World) :
    Calls Tryz.prog 109 #[.string s, .int .i64 n] w fun e w' => e = .returned (.int .i64 (footErr s n)) ∧ Below w.heap.size w w' := by
  have hc := fun w => Tryz.strings_CutPrefix s ⟨#[69, 78, 68, 32]⟩ w
  have hn := fun w => numberK_any (footTail s) 2 (by decide) (by decide) w
  have HO : Hid (numOutK (footTail s) 2 = .tuple #[.int .i64 (if allK (footTail s) 2 then nv (footTail s) 2 else 0), .bool (decide (allK (footTail s) 2))]) := Lib.hid (by unfold numOutK; by_cases h : allK (footTail s) 2 <;> simp [h])
  have HE : Hid (footErr s n = fst [unl (Lib.hasPrefix s.data.toList [69, 78, 68, 32] && decide (allK (footTail s) 2)) 25, unl ((if allK (footTail s) 2 then nv (footTail s) 2 else 0) == n) 27]) := Lib.hid rfl
  rw [HO.out] at hn
  generalize footErr s n = fe at *
  have HT : Hid ((⟨(Lib.trimPrefix s.data.toList [69, 78, 68, 32]).toArray⟩ : ByteArray) = footTail s) := Lib.hid rfl
  change ∀ w : World, Calls Tryz.prog 171 _ w fun e w' => e = .returned (.tuple #[.string ⟨(Lib.trimPrefix s.data.toList [69, 78, 68, 32]).toArray⟩, .bool (Lib.hasPrefix s.data.toList [69, 78, 68, 32])]) ∧ w' = w at hc
  rw [HT.out] at hc
  clear HT HO
  generalize (if allK (footTail s) 2 then nv (footTail s) 2 else 0) = k at *
  generalize decide (allK (footTail s) 2) = ok at *
  generalize Lib.hasPrefix s.data.toList [69, 78, 68, 32] = found at *
  generalize footTail s = t at *
  cases found
  all_goals
    go_enter Tryz.func109, Tryz.ntmps109
    go_wp2_with fail
    refine (hc _).mono ?_
    rintro e1 w1 ⟨rfl, rfl⟩
    go_wp2_with fail
    refine (hn _).mono ?_
    rintro e2 w2 ⟨rfl, hb2⟩
    go_wp2_with fail
    refine (unless_any _ _ _).mono ?_
    rintro e3 w3 ⟨rfl, rfl⟩
    go_wp2_with fail
    refine (unless_any _ _ _).mono ?_
    rintro e4 w4 ⟨rfl, rfl⟩
    go_wp2_with fail
    refine (fe_new [_, _] _ _ _ _ _ rfl rfl (by simp)).mono ?_
    rintro e5 w5 ⟨rfl, hw⟩
    have hb5 : Below w1.heap.size w1 w5 := by rw [hw]; exact b_then hb2 (below_alloc _ _)
    clear hw
    go_wp2_with fail
    go_ret
    exact ⟨by rw [HE.out]; rfl, hb5⟩
set_option maxRecDepth 100000 in
set_option maxHeartbeats 2000000 in
theorem readLine_any (L : List LineV) (v : Value) (s : ByteArray) (base : Nat) (w : World) (hs : s.size ≤ 100000) (hown : w.ownsRow base 88 14 v L.length (flatG LineV.cells L)) (hn : L.length ≤ 100000) (hbs : base ≤ w.heap.size) :
    Calls Tryz.prog 110 #[v, .string s] w fun e w' => ∃ v', e = .returned (.tuple #[v', .int .i64 (fst [(lineIs s).2.2, unl (decide ((L.length : Int) < 64)) 5])]) ∧
      w'.ownsRow base 88 14 v' (L.length + 1) (flatG LineV.cells (L ++ [(lineIs s).1])) ∧ w.grownBy w' v.ownBlock := by
  have hp := fun w => ParseLine_any s hs w
  generalize lineIs s = p at *
  obtain ⟨l, i, er⟩ := p
  obtain ⟨i0, hi, hz0, hz1, hz2⟩ := lnInfo_parts
  have HF : Hid (flatG LineV.cells (L ++ [l]) = flatG LineV.cells L ++ l.cells.toList) := Lib.hid (flatG_snoc L l)
  have hlen := flatG_len (f := LineV.cells) (k := 14) (fun _ => rfl) L
  have HLN := Lib.hid (fun w1 => line_new w1 l 88)
  obtain ⟨A, c, hv⟩ := (slArg_own (f := LineV.cells) (k := 14) (fun _ => rfl) (by decide) hown).len
  generalize flatG LineV.cells (L ++ [l]) = fl' at *
  generalize flatG LineV.cells L = fl at *
  generalize L.length = N at *
  obtain ⟨act, ⟨name, carrier, kind, terminal, partner, link, fa, fb, d, m, sx, z, nn⟩⟩ := l
  simp only [LineV.cells] at hp HF HLN ⊢
  subst hv
  go_enter Tryz.func110, Tryz.ntmps110
  go_wp2_with fail
  refine (hp _).mono ?_
  rintro e1 w1 ⟨rfl, hb1⟩
  have hown1 := pr_below hown hb1
  have hs1 := hb1.size
  have HA := Lib.hid ((hown1.alloc (.cells #[.string act, .string name, .string carrier, .string kind, .string terminal, .string partner, .string link, .int .i64 fa, .int .i64 fb, .int .i64 d, .int .i64 m, .int .i64 sx, .int .i64 z, .int .i64 nn] 88)).alloc (.cells #[.string act, .string name, .string carrier, .string kind, .string terminal, .string partner, .string link, .int .i64 fa, .int .i64 fb, .int .i64 d, .int .i64 m, .int .i64 sx, .int .i64 z, .int .i64 nn] 88))
  have HNB : Hid (((w1.alloc (.cells #[.string act, .string name, .string carrier, .string kind, .string terminal, .string partner, .string link, .int .i64 fa, .int .i64 fb, .int .i64 d, .int .i64 m, .int .i64 sx, .int .i64 z, .int .i64 nn] 88)).alloc (.cells #[.string act, .string name, .string carrier, .string kind, .string terminal, .string partner, .string link, .int .i64 fa, .int .i64 fb, .int .i64 d, .int .i64 m, .int .i64 sx, .int .i64 z, .int .i64 nn] 88)).heap[w1.heap.size + 1]? = some (.cells #[.string act, .string name, .string carrier, .string kind, .string terminal, .string partner, .string link, .int .i64 fa, .int .i64 fb, .int .i64 d, .int .i64 m, .int .i64 sx, .int .i64 z, .int .i64 nn] 88 (0, 0))) := Lib.hid (by
    have h1 := heap_new (w1.alloc (.cells #[.string act, .string name, .string carrier, .string kind, .string terminal, .string partner, .string link, .int .i64 fa, .int .i64 fb, .int .i64 d, .int .i64 m, .int .i64 sx, .int .i64 z, .int .i64 nn] 88)) (.cells #[.string act, .string name, .string carrier, .string kind, .string terminal, .string partner, .string link, .int .i64 fa, .int .i64 fb, .int .i64 d, .int .i64 m, .int .i64 sx, .int .i64 z, .int .i64 nn] 88)
    rwa [show (w1.alloc (.cells #[.string act, .string name, .string carrier, .string kind, .string terminal, .string partner, .string link, .int .i64 fa, .int .i64 fb, .int .i64 d, .int .i64 m, .int .i64 sx, .int .i64 z, .int .i64 nn] 88)).heap.size = w1.heap.size + 1 by simp] at h1)
  have hg1 : w.grownBy w1 none := grown_below hb1
  clear hp hown hown1 HLN
  go_wp2_with (at_builtin; refine Hid.out ?_)
  refine Lib.hid ?_
  refine wpList_append_own _ rfl _ _ 23 rfl base 88 i0 (.agg #[.string ⟨#[]⟩, .string ⟨#[]⟩, .string ⟨#[]⟩, .string ⟨#[]⟩, .string ⟨#[]⟩, .string ⟨#[]⟩, .string ⟨#[]⟩, .int .i64 0, .int .i64 0, .int .i64 0, .int .i64 0, .int .i64 0, .int .i64 0, .int .i64 0]) 14 168 Tryz.underlying23 hi hz0 hz1 hz2 rfl (by decide) _ N _ rfl HA.out ⟨w1.heap.size + 1, 0, none⟩ 1 1 [.string act, .string name, .string carrier, .string kind, .string terminal, .string partner, .string link, .int .i64 fa, .int .i64 fb, .int .i64 d, .int .i64 m, .int .i64 sx, .int .i64 z, .int .i64 nn] rfl rfl
    (World.news_of_block (cs := #[.string act, .string name, .string carrier, .string kind, .string terminal, .string partner, .string link, .int .i64 fa, .int .i64 fb, .int .i64 d, .int .i64 m, .int .i64 sx, .int .i64 z, .int .i64 nn]) (t := 88) (fr := (0, 0)) HNB.out) (by simp [Value.oneCell']) (by unfold maxLen; omega) (by omega) (by simp; omega) ?_
  intro v' w4 hown' hgrow _
  have hg4 : w.grownBy w4 (Value.slice A N c).ownBlock := gb_trans (gb_trans (gb_but hg1 _) (gb_but (grown_below (below_alloc2 _ _ _)) _)) hgrow
  rw [← HF.out] at hown'
  clear hgrow HA HNB
  go_wp2_with fail
  refine (unless_any _ _ _).mono ?_
  rintro e5 w5 ⟨rfl, rfl⟩
  go_wp2_with fail
  refine (fe_new [_, _] _ _ _ _ _ rfl rfl (by simp)).mono ?_
  rintro e6 w6 ⟨rfl, hw⟩
  go_wp2_with fail
  go_ret2
  exact ⟨v', rfl, hown'.alloc _, gb_trans hg4 (gb_but (grown_below (below_alloc _ _)) _)⟩
end Go.Proofs.YtphoclgibnhjfaaGreat
namespace Go.Proofs.YtphoclgibnhjfaaGreat
open Go Go.RowKit Go.Shelf
attribute [local go_sem] Oper.semAt_some
/-- A block of the call that is being filled, and all that is kept beside it. -/
structure BI (V : World) (lb n : Nat) (g : Nat → Value) (W : World) : Prop where
  c : ∀ i, i < n → W.cell? ⟨lb, i, none⟩ = some (g i)
  f : ∀ i, i < n → W.frozen? ⟨lb, i, none⟩ = false
  blk : ∀ b, b < V.heap.size → b ≠ lb → W.heap[b]? = V.heap[b]?
  size : V.heap.size ≤ W.heap.size
theorem BI.cell {V W : World} {lb n : Nat} {g : Nat → Value} (h : BI V lb n g W) {b o : Nat} {v : Value} (hb : b ≠ lb) (hc : V.cell? ⟨b, o, none⟩ = some v) : W.cell? ⟨b, o, none⟩ = some v :=
  (World.cell?_of_block (w := V) (a := ⟨b, o, none⟩) (h.blk b (cell_in hc) hb)).trans hc
theorem BI.frozen {V W : World} {lb n : Nat} {g : Nat → Value} (h : BI V lb n g W) {b o : Nat} {v : Value} (hb : b ≠ lb) (hc : V.cell? ⟨b, o, none⟩ = some v) (hf : V.frozen? ⟨b, o, none⟩ = false) : W.frozen? ⟨b, o, none⟩ = false :=
  (frozen_of_blk (h.blk b (cell_in hc) hb)).trans hf
theorem BI.grown {V X Y : World} {lb n : Nat} {g : Nat → Value} {row : Option Nat} (h : BI V lb n g X) (hlb : lb < V.heap.size) (hg : X.grownBy Y row) (hr : ∀ r, row = some r → V.heap.size ≤ r) : BI V lb n g Y := by
  have hk : ∀ b, b < V.heap.size → Y.heap[b]? = X.heap[b]? := fun b hb => hg.block b (Nat.lt_of_lt_of_le hb h.size) (by intro e; have := hr b e.symm; omega)
  exact ⟨fun i hi => (cell_of_blk (hk lb hlb)).trans (h.c i hi), fun i hi => (frozen_of_blk (hk lb hlb)).trans (h.f i hi), fun b hb hne => (hk b hb).trans (h.blk b hb hne), Nat.le_trans h.size hg.size⟩
theorem BI.set {V X : World} {lb n : Nat} {g : Nat → Value} (h : BI V lb n g X) (o : Nat) (v : Value) : BI V lb n (fun i => if i = o then v else g i) (X.setCell ⟨lb, o, none⟩ v) :=
  ⟨fun i hi => by
    by_cases e : i = o
    · subst e; rw [if_pos rfl]; exact set_same (h.c i hi)
    · rw [if_neg e]; exact set_other (h.c i hi) (by intro e2; cases e2; exact e rfl),
   fun i hi => by rw [World.frozen?_setCell]; exact h.f i hi,
   fun b hb hne => by rw [← h.blk b hb hne]; exact Below.heap_setCell _ _ _ _ (fun e => hne (by rw [e])),
   by rw [set_size]; exact h.size⟩
/-- A block of the call that holds a message, and may be written. -/
structure MB (w : World) (b : Nat) (h : HeadV) (v : Value) : Prop where
  c : HeadW w b h v
  f : ∀ t, t < 5 → w.frozen? ⟨b, t, none⟩ = false
theorem MB.below {w w' : World} {b : Nat} {h : HeadV} {v : Value} (m : MB w b h v) (hb : Below w.heap.size w w') : MB w' b h v :=
  ⟨⟨b_old hb m.c.c0, b_old hb m.c.c1, b_old hb m.c.c2, b_old hb m.c.c3, b_old hb m.c.c4⟩, fun t ht => by
    match t, ht with
    | 0, _ => exact b_frozen hb m.c.c0 (m.f 0 (by decide))
    | 1, _ => exact b_frozen hb m.c.c1 (m.f 1 (by decide))
    | 2, _ => exact b_frozen hb m.c.c2 (m.f 2 (by decide))
    | 3, _ => exact b_frozen hb m.c.c3 (m.f 3 (by decide))
    | 4, _ => exact b_frozen hb m.c.c4 (m.f 4 (by decide))⟩
theorem MB.new (w : World) (h : HeadV) (v : Value) (T : TypeId) : MB (w.alloc (.cells (h.cells v) T)) w.heap.size h v :=
  have R := RowV.new w (h.cells v).toList T
  ⟨⟨R.c 0 (by simp [HeadV.cells]), R.c 1 (by simp [HeadV.cells]), R.c 2 (by simp [HeadV.cells]), R.c 3 (by simp [HeadV.cells]), R.c 4 (by simp [HeadV.cells])⟩, fun t ht => R.f t (by simp [HeadV.cells]; omega)⟩
theorem MB.of {X Y : World} {b : Nat} {h : HeadV} {v : Value} (m : MB X b h v) (hh : Y.heap[b]? = X.heap[b]?) : MB Y b h v :=
  ⟨⟨(cell_of_blk hh).trans m.c.c0, (cell_of_blk hh).trans m.c.c1, (cell_of_blk hh).trans m.c.c2, (cell_of_blk hh).trans m.c.c3, (cell_of_blk hh).trans m.c.c4⟩, fun t ht => (frozen_of_blk hh).trans (m.f t ht)⟩
theorem put5 {X w : World} {b N : Nat} {h : HeadV} {v : Value} (m : MB X b h v) (h' : HeadV) (a0 a1 a2 a3 a4 : Value) (v' : Value) (ha : h'.cells v' = #[a0, a1, a2, a3, a4]) (hN : N ≤ b) (hB : Below N w X) :
    ∃ Y, Hid (((((X.setCell ⟨b, 0, none⟩ a0).setCell ⟨b, 1, none⟩ a1).setCell ⟨b, 2, none⟩ a2).setCell ⟨b, 3, none⟩ a3).setCell ⟨b, 4, none⟩ a4 = Y) ∧ MB Y b h' v' ∧ Below N w Y ∧ (∀ c, c ≠ b → Y.heap[c]? = X.heap[c]?) ∧ Y.heap.size = X.heap.size := by
  simp only [HeadV.cells, Array.mk.injEq, List.cons.injEq, and_true] at ha
  obtain ⟨rfl, rfl, rfl, rfl, rfl⟩ := ha
  have s5 : ∀ (W : World) (i : Nat) (u : Value) (c : Nat), c ≠ b → (W.setCell ⟨b, i, none⟩ u).heap[c]? = W.heap[c]? := fun W i u c hc => Below.heap_setCell _ _ _ _ (fun e => hc (by rw [e]))
  refine ⟨_, Lib.hid rfl, ⟨⟨?_, ?_, ?_, ?_, ?_⟩, fun t ht => ?_⟩, ?_, fun c hc => ?_, ?_⟩
  · exact set_other (set_other (set_other (set_other (set_same m.c.c0) (by simp)) (by simp)) (by simp)) (by simp)
  · exact set_other (set_other (set_other (set_same (set_other m.c.c1 (by simp))) (by simp)) (by simp)) (by simp)
  · exact set_other (set_other (set_same (set_other (set_other m.c.c2 (by simp)) (by simp))) (by simp)) (by simp)
  · exact set_other (set_same (set_other (set_other (set_other m.c.c3 (by simp)) (by simp)) (by simp))) (by simp)
  · exact set_same (set_other (set_other (set_other (set_other m.c.c4 (by simp)) (by simp)) (by simp)) (by simp))
  · rw [World.frozen?_setCell, World.frozen?_setCell, World.frozen?_setCell, World.frozen?_setCell, World.frozen?_setCell]; exact m.f t ht
  · exact ((((hB.setCell (p := ⟨b, 0, none⟩) hN _).setCell (p := ⟨b, 1, none⟩) hN _).setCell (p := ⟨b, 2, none⟩) hN _).setCell (p := ⟨b, 3, none⟩) hN _).setCell (p := ⟨b, 4, none⟩) hN _
  · rw [s5 _ _ _ c hc, s5 _ _ _ c hc, s5 _ _ _ c hc, s5 _ _ _ c hc, s5 _ _ _ c hc]
  · simp only [set_size]
/-- The words so far. -/
def pG (s : ByteArray) (ks : List Nat) : Nat → Value := ks.foldl (fun g k i => if i = k then .string (cwAt s k) else g i) (fun _ => .string ⟨#[]⟩)
theorem pG_snoc (s : ByteArray) (ks : List Nat) (k : Nat) : pG s (ks ++ [k]) = fun i => if i = k then .string (cwAt s k) else pG s ks i := by simp [pG]
theorem pG_five (s : ByteArray) (i : Nat) (hi : i < 5) : pG s (List.range 5) i = .string (cwAt s i) := by
  match i, hi with
  | 0, _ => simp [pG, List.range_succ]
  | 1, _ => simp [pG, List.range_succ]
  | 2, _ => simp [pG, List.range_succ]
  | 3, _ => simp [pG, List.range_succ]
  | 4, _ => simp [pG, List.range_succ]
def zeroHead : HeadV := ⟨⟨#[]⟩, ⟨#[]⟩, ⟨#[]⟩, 0⟩
def headWords (s : ByteArray) : HeadV := ⟨cwAt s 1, cwAt s 2, cwAt s 3, if allK (cwAt s 4) 5 then nv (cwAt s 4) 5 else 0⟩
/-- A text is a header. -/
def headOk (s : ByteArray) : Bool := decide (nWords s = 5) && (decide (allK (cwAt s 4) 5) && ((cwAt s 0).toList == [83, 76, 79, 84, 83] && headErr (headWords s) == 0))
def headIs (s : ByteArray) : HeadV × Int := if headOk s then (headWords s, 0) else (zeroHead, 25)
set_option maxRecDepth 100000 in
set_option maxHeartbeats 2000000 in
theorem readHeader_in (n : Nat) (hn : 3 ≤ n) (s : ByteArray) (hs : s.size ≤ 100000) (w : World) :
    CallsIn Fence.wide n Tryz.prog 107 #[.string s] w fun e w' => e = .returned (.tuple #[.agg ((headIs s).1.cells (.slice none 0 0)), .int .i64 (headIs s).2]) ∧ Below w.heap.size w w' := by
  have hcw := fun w => countWords_any s w (by omega)
  obtain ⟨V0, HV0, hB0, R0⟩ : ∃ V0, Hid (w.alloc (.cells #[.string ⟨#[]⟩, .string ⟨#[]⟩, .string ⟨#[]⟩, .int .i64 0, .slice none 0 0] 25) = V0) ∧ Below w.heap.size w V0 ∧ MB V0 w.heap.size zeroHead (.slice none 0 0) := ⟨_, Lib.hid rfl, below_alloc _ _, MB.new w zeroHead (.slice none 0 0) _⟩
  refine callsIn_of_wp_marks Tryz.func107 rfl trivial ?_
  simp only [Tryz.ntmps107, List.size_toArray, List.length_cons, List.length_nil, Nat.reduceAdd, Nat.reduceSub, Array.replicate_succ, Array.replicate_zero, List.push_toArray, List.append_toArray, List.nil_append, List.cons_append]
  gi_wp2
  rw [HV0.out]
  clear HV0
  refine ⟨trivial, (fun h => by cases h), ?_⟩
  refine (callsIn_wide.2 (hcw _)).mono ?_
  rintro e1 w1 ⟨rfl, hb1⟩
  have hB1 := b_then hB0 hb1
  have M1 := R0.below hb1
  have hw1 : w.heap.size < w1.heap.size := cell_in M1.c.c0
  clear hcw R0 hB0 hb1
  by_cases h5 : nWords s = 5
  · have h5b : (((nWords s : Nat) : Int) != 5) = false := by simp [h5]
    obtain ⟨V1, HV1, hbV1, R1⟩ : ∃ V1, Hid (w1.alloc (.cells #[.string ⟨#[]⟩, .string ⟨#[]⟩, .string ⟨#[]⟩, .string ⟨#[]⟩, .string ⟨#[]⟩] 207) = V1) ∧ Below w1.heap.size w1 V1 ∧ RowV w1.heap.size w1.heap.size 5 (fun i => [Value.string ⟨#[]⟩, .string ⟨#[]⟩, .string ⟨#[]⟩, .string ⟨#[]⟩, .string ⟨#[]⟩].getD i undef) w1 V1 := ⟨_, Lib.hid rfl, below_alloc _ _, RowV.new w1 [.string ⟨#[]⟩, .string ⟨#[]⟩, .string ⟨#[]⟩, .string ⟨#[]⟩, .string ⟨#[]⟩] _⟩
    gi_wp2
    rw [HV1.out]
    clear HV1
    refine ⟨trivial, (fun h => by cases h), ?_⟩
    refine (callsIn_wide.2 (wordsOf_any s V1)).mono ?_
    rintro e4 V ⟨rfl, hc4, hlt4, hb4⟩
    have HP : Hid (BI V w1.heap.size 5 (pG s []) V) := Lib.hid ⟨fun i hi => b_old hb4 ((R1.c i hi).trans (by match i, hi with | 0, _ => rfl | 1, _ => rfl | 2, _ => rfl | 3, _ => rfl | 4, _ => rfl)), fun i hi => b_frozen hb4 (R1.c i hi) (R1.f i hi), fun _ _ _ => rfl, Nat.le_refl _⟩
    have MV := (M1.below hbV1).below hb4
    have hBV : Below w.heap.size w V := b_then (b_then hB1 hbV1) hb4
    have hV1 : w1.heap.size < V1.heap.size := cell_in (R1.c 0 (by decide))
    have hW3 := cell_in hc4
    have HNW : Hid (∀ x : Fin (nWords s), x.1 < 5) := Lib.hid fun x => by have := x.2; omega
    clear M1 R1 hbV1 hb4
    gi_wp2
    refine wpIn_rangeFunc_ownF rfl (by omega) (gf := 162) (lb := #[.pointer (some ⟨V1.heap.size, 0, none⟩)]) rfl trivial (enters_of Tryz.func162 (by kernel_rfl) rfl)
      (words_stops (n - 1) (by omega) V1.heap.size s (by omega) V hlt4 hc4) KpB.trans (kpB_b hlt4) (Below.refl _ _) (fun _ => rfl)
      (fun (pre : List (Fin (nWords s))) W => BI V w1.heap.size 5 (pG s (pre.map fun x : Fin (nWords s) => x.1)) W ∧ Below w.heap.size w W)
      (fun _ _ _ => False)
      (OwnFrom.and (fun _ X Y row hx hg hr => hx.grown (by omega) hg (fun r e => (hr r e).1)) (ownFrom_below (Nat.le_refl _) (by have := hBV.size; omega)))
      (fun _ _ _ _ _ hs _ _ => hs)
      ⟨HP.out, hBV⟩
      (fun x => { tmps := #[.string s, undef, .pointer (some ⟨w.heap.size, 0, none⟩), .int .i64 0, .pointer (some ⟨w1.heap.size, 0, none⟩), .int .i64 x.1, .string (cwAt s x.1), undef, undef, undef, .string s, .int .i64 5, .bool false, undef, .string s, .func (.func 162) #[] #[.pointer (some ⟨V1.heap.size, 0, none⟩)], .int .i64 x.1, .string (cwAt s x.1), undef, undef, undef, undef, undef, undef, undef, undef, undef, undef, undef, undef, undef, undef, undef, undef, undef, undef, undef, undef, undef, undef, undef, undef, undef, undef, undef, undef, undef, undef, undef], defers := [] }) ?assign ?body ?done ?stop
    case assign =>
      intro l x W K hK
      gi_wp2
      simpa using hK
    case body =>
      rintro l pre x W ⟨hbi, hB⟩ hlt
      have hx5 := HNW.out x
      have hc := hbi.c x.1 hx5
      have hf := hbi.f x.1 hx5
      have hst := hbi.set x.1 (.string (cwAt s x.1))
      rw [← pG_snoc] at hst
      have hBs : Below w.heap.size w (W.setCell ⟨w1.heap.size, x.1, none⟩ (.string (cwAt s x.1))) := hB.setCell (p := ⟨w1.heap.size, x.1, none⟩) (by show w.heap.size ≤ w1.heap.size; omega) _
      have hKo : KeepsOthers W (W.setCell ⟨w1.heap.size, x.1, none⟩ (.string (cwAt s x.1))) := KeepsOthers.setCell _ _ _
      have hKp : KpB V1.heap.size W (W.setCell ⟨w1.heap.size, x.1, none⟩ (.string (cwAt s x.1))) := ⟨Below.heap_setCell _ _ _ _ (by show V1.heap.size ≠ w1.heap.size; omega), by rw [set_size]; exact Nat.le_refl _⟩
      have HX := Lib.hid (And.intro hKo (And.intro hKp (And.intro hst hBs)))
      clear hKo hKp hst hBs hbi
      generalize cwAt s x.1 = t at *
      gi_wp2
      exact ⟨HX.out.1, HX.out.2.1, by simpa using HX.out.2.2.1, HX.out.2.2.2⟩
    case done =>
      rintro D ys W hD rfl ⟨hbi, hB⟩ hK
      rw [fin_range, h5] at hbi
      have w0 := (hbi.c 0 (by decide)).trans (congrArg some (pG_five s 0 (by decide)))
      have w1' := (hbi.c 1 (by decide)).trans (congrArg some (pG_five s 1 (by decide)))
      have w2 := (hbi.c 2 (by decide)).trans (congrArg some (pG_five s 2 (by decide)))
      have w3 := (hbi.c 3 (by decide)).trans (congrArg some (pG_five s 3 (by decide)))
      have w4 := (hbi.c 4 (by decide)).trans (congrArg some (pG_five s 4 (by decide)))
      have MW := MV.of (hbi.blk _ (by have := cell_in MV.c.c0; exact this) (by omega))
      have hnum := fun w => numberK_any (cwAt s 4) 5 (by decide) (by decide) w
      have HO : Hid (numOutK (cwAt s 4) 5 = .tuple #[.int .i64 (if allK (cwAt s 4) 5 then nv (cwAt s 4) 5 else 0), .bool (decide (allK (cwAt s 4) 5))]) := Lib.hid (by unfold numOutK; by_cases h : allK (cwAt s 4) 5 <;> simp [h])
      rw [HO.out] at hnum
      have HBAD : Hid (headOk s = false → headIs s = (zeroHead, 25)) := Lib.hid fun h => by unfold headIs; rw [h]; rfl
      have HGOOD : Hid (headOk s = true → headIs s = (headWords s, 0)) := Lib.hid fun h => by unfold headIs; rw [h]; rfl
      have HOK : Hid (headOk s = (decide (allK (cwAt s 4) 5) && ((cwAt s 0).toList == [83, 76, 79, 84, 83] && headErr (headWords s) == 0))) := Lib.hid (by unfold headOk; rw [h5]; rfl)
      have HHW : Hid (headWords s = ⟨cwAt s 1, cwAt s 2, cwAt s 3, if allK (cwAt s 4) 5 then nv (cwAt s 4) 5 else 0⟩) := Lib.hid rfl
      have hch := fun W => checkHeader_any (headWords s) none 0 0 W
      generalize headErr (headWords s) = he at *
      generalize headWords s = hw at *
      generalize (if allK (cwAt s 4) 5 then nv (cwAt s 4) 5 else 0) = dn at *
      generalize decide (allK (cwAt s 4) 5) = ok at *
      generalize cwAt s 0 = c0 at *
      generalize cwAt s 1 = c1 at *
      generalize cwAt s 2 = c2 at *
      generalize cwAt s 3 = c3 at *
      generalize cwAt s 4 = c4 at *
      have hhw := HHW.out
      subst hhw
      simp only [HeadV.cells] at hch
      clear HO hbi HHW
      gi_wp2
      refine ⟨trivial, (fun h => by cases h), ?_⟩
      refine (callsIn_wide.2 (hnum _)).mono ?_
      rintro e W5 ⟨rfl, hb5⟩
      have v0 := b_old hb5 w0
      have v1 := b_old hb5 w1'
      have v2 := b_old hb5 w2
      have v3 := b_old hb5 w3
      have M5 := MW.below hb5
      have hB5 := b_then hB hb5
      have HK5 : Hid (W5.heap[D]? = some (.deferred (some []))) := Lib.hid ((hb5.block D (heap_lt hK)).trans hK)
      clear w0 w1' w2 w3 w4 MW hnum hb5 hK hB
      obtain ⟨V6, HV6, hb6, M6⟩ : ∃ V6, Hid (W5.alloc (.cells #[.string c1, .string c2, .string c3, .int .i64 dn, .slice none 0 0] 25) = V6) ∧ Below W5.heap.size W5 V6 ∧ MB V6 W5.heap.size ⟨c1, c2, c3, dn⟩ (.slice none 0 0) := ⟨_, Lib.hid rfl, below_alloc _ _, MB.new W5 ⟨c1, c2, c3, dn⟩ (.slice none 0 0) _⟩
      rw [← HV6.out] at hb6 M6
      have v0a := b_old hb6 v0
      have M5a := M5.below hb6
      have hB6 := b_then hB5 hb6
      have HK6 : Hid ((W5.alloc (.cells #[.string c1, .string c2, .string c3, .int .i64 dn, .slice none 0 0] 25)).heap[D]? = some (.deferred (some []))) := Lib.hid ((hb6.block D (heap_lt HK5.out)).trans HK5.out)
      obtain ⟨m0, m1, m2, m3, m4⟩ := M5a.c
      simp only [zeroHead] at m0 m1 m2 m3 m4
      have e0 := M5a.f 0 (by decide)
      have e1 := M5a.f 1 (by decide)
      have e2 := M5a.f 2 (by decide)
      have e3 := M5a.f 3 (by decide)
      have e4 := M5a.f 4 (by decide)

      obtain ⟨n0, n1, n2, n3, n4⟩ := M6.c
      dsimp only at n0 n1 n2 n3 n4
      have HM5 := Lib.hid M5a
      have HB6 := Lib.hid hB6
      clear M5 M5a hB5 HK5 hb6 HV6 M6 hB6
      cases ok
      · have HE : Hid (headIs s = (zeroHead, 25)) := Lib.hid (HBAD.out (by rw [HOK.out]; rfl))
        clear HBAD HGOOD HOK hch
        gi_wp2
        refine ⟨trivial, ?_⟩
        gi_wp2
        obtain ⟨Y, HY, hMY, hBY, hblk, -⟩ := put5 HM5.out zeroHead (.string ⟨#[]⟩) (.string ⟨#[]⟩) (.string ⟨#[]⟩) (.int .i64 0) (.slice none 0 0) (.slice none 0 0) rfl (Nat.le_refl _) HB6.out
        rw [HY.out]
        have hKY := (hblk D (by have := hBV.size; omega)).trans HK6.out
        refine ⟨by simp, .inl ⟨_, _, rfl, run_takeDeferred hKY, ?_⟩⟩
        have hMZ := hMY.of ((grownBy_putObj' Y D (.deferred none)).block w.heap.size (cell_in hMY.c.c0) (by have := hBV.size; simp; omega))
        have hBZ := hBY.trans (belowK_b (w := w) (n₀ := w.heap.size) (Nat.le_refl _) Y D _ (.deferred none) (by have := hBV.size; omega) hKY rfl rfl)
        obtain ⟨t0, t1, t2, t3, t4⟩ := hMZ.c
        simp only [zeroHead] at t0 t1 t2 t3 t4
        exact ⟨.tuple #[.agg #[.string ⟨#[]⟩, .string ⟨#[]⟩, .string ⟨#[]⟩, .int .i64 0, .slice none 0 0], .int .i64 25], by simp [results, Tryz.f107, go_sem, t0, t1, t2, t3, t4], ⟨by rw [HE.out]; rfl, hBZ⟩⟩

      · cases hc0 : (c0.toList == [83, 76, 79, 84, 83])
        · have HE : Hid (headIs s = (zeroHead, 25)) := Lib.hid (HBAD.out (by rw [HOK.out, hc0]; rfl))
          have hc0' : (c0.toList != [83, 76, 79, 84, 83]) = true := by simp [bne, hc0]
          clear HBAD HGOOD HOK hch
          gi_wp2
          refine ⟨trivial, ?_⟩
          gi_wp2
          obtain ⟨Y, HY, hMY, hBY, hblk, -⟩ := put5 HM5.out zeroHead (.string ⟨#[]⟩) (.string ⟨#[]⟩) (.string ⟨#[]⟩) (.int .i64 0) (.slice none 0 0) (.slice none 0 0) rfl (Nat.le_refl _) HB6.out
          rw [HY.out]
          have hKY := (hblk D (by have := hBV.size; omega)).trans HK6.out
          refine ⟨by simp, .inl ⟨_, _, rfl, run_takeDeferred hKY, ?_⟩⟩
          have hMZ := hMY.of ((grownBy_putObj' Y D (.deferred none)).block w.heap.size (cell_in hMY.c.c0) (by have := hBV.size; simp; omega))
          have hBZ := hBY.trans (belowK_b (w := w) (n₀ := w.heap.size) (Nat.le_refl _) Y D _ (.deferred none) (by have := hBV.size; omega) hKY rfl rfl)
          obtain ⟨t0, t1, t2, t3, t4⟩ := hMZ.c
          simp only [zeroHead] at t0 t1 t2 t3 t4
          exact ⟨.tuple #[.agg #[.string ⟨#[]⟩, .string ⟨#[]⟩, .string ⟨#[]⟩, .int .i64 0, .slice none 0 0], .int .i64 25], by simp [results, Tryz.f107, go_sem, t0, t1, t2, t3, t4], ⟨by rw [HE.out]; rfl, hBZ⟩⟩

        · have hc0' : (c0.toList != [83, 76, 79, 84, 83]) = false := by simp [bne, hc0]
          gi_wp2
          refine ⟨trivial, (fun h => by cases h), ?_⟩
          refine (callsIn_wide.2 (hch _)).mono ?_
          rintro e W7 ⟨rfl, hb7⟩
          have M7 := HM5.out.below hb7
          have hB7 := b_then HB6.out hb7
          have HK7 : Hid (W7.heap[D]? = some (.deferred (some []))) := Lib.hid ((hb7.block D (heap_lt HK6.out)).trans HK6.out)
          have l0 := b_old hb7 n0
          have l1 := b_old hb7 n1
          have l2 := b_old hb7 n2
          have l3 := b_old hb7 n3
          have l4 := b_old hb7 n4
          clear n0 n1 n2 n3 n4 m0 m1 m2 m3 m4 e0 e1 e2 e3 e4 HM5 HB6 HK6 hb7 hch v0 v0a v1 v2 v3
          obtain ⟨m0, m1, m2, m3, m4⟩ := M7.c
          simp only [zeroHead] at m0 m1 m2 m3 m4
          have e0 := M7.f 0 (by decide)
          have e1 := M7.f 1 (by decide)
          have e2 := M7.f 2 (by decide)
          have e3 := M7.f 3 (by decide)
          have e4 := M7.f 4 (by decide)

          by_cases hz : he = 0
          · have HE : Hid (headIs s = (⟨c1, c2, c3, dn⟩, 0)) := Lib.hid (HGOOD.out (by rw [HOK.out, hc0, hz]; rfl))
            subst hz
            clear HBAD HGOOD HOK
            gi_wp2
            obtain ⟨Y, HY, hMY, hBY, hblk, -⟩ := put5 M7 ⟨c1, c2, c3, dn⟩ (.string c1) (.string c2) (.string c3) (.int .i64 dn) (.slice none 0 0) (.slice none 0 0) rfl (Nat.le_refl _) hB7
            rw [HY.out]
            have hKY := (hblk D (by have := hBV.size; omega)).trans HK7.out
            refine ⟨by simp, .inl ⟨_, _, rfl, run_takeDeferred hKY, ?_⟩⟩
            have hMZ := hMY.of ((grownBy_putObj' Y D (.deferred none)).block w.heap.size (cell_in hMY.c.c0) (by have := hBV.size; simp; omega))
            have hBZ := hBY.trans (belowK_b (w := w) (n₀ := w.heap.size) (Nat.le_refl _) Y D _ (.deferred none) (by have := hBV.size; omega) hKY rfl rfl)
            obtain ⟨t0, t1, t2, t3, t4⟩ := hMZ.c
            dsimp only at t0 t1 t2 t3 t4
            exact ⟨.tuple #[.agg #[.string c1, .string c2, .string c3, .int .i64 dn, .slice none 0 0], .int .i64 0], by simp [results, Tryz.f107, go_sem, t0, t1, t2, t3, t4], ⟨by rw [HE.out]; rfl, hBZ⟩⟩

          · have HE : Hid (headIs s = (zeroHead, 25)) := Lib.hid (HBAD.out (by rw [HOK.out, hc0]; simp [hz]))
            have hb : (he != 0) = true := by simpa using hz
            clear HBAD HGOOD HOK
            gi_wp2
            obtain ⟨Y, HY, hMY, hBY, hblk, -⟩ := put5 M7 zeroHead (.string ⟨#[]⟩) (.string ⟨#[]⟩) (.string ⟨#[]⟩) (.int .i64 0) (.slice none 0 0) (.slice none 0 0) rfl (Nat.le_refl _) hB7
            rw [HY.out]
            have hKY := (hblk D (by have := hBV.size; omega)).trans HK7.out
            refine ⟨by simp, .inl ⟨_, _, rfl, run_takeDeferred hKY, ?_⟩⟩
            have hMZ := hMY.of ((grownBy_putObj' Y D (.deferred none)).block w.heap.size (cell_in hMY.c.c0) (by have := hBV.size; simp; omega))
            have hBZ := hBY.trans (belowK_b (w := w) (n₀ := w.heap.size) (Nat.le_refl _) Y D _ (.deferred none) (by have := hBV.size; omega) hKY rfl rfl)
            obtain ⟨t0, t1, t2, t3, t4⟩ := hMZ.c
            simp only [zeroHead] at t0 t1 t2 t3 t4
            exact ⟨.tuple #[.agg #[.string ⟨#[]⟩, .string ⟨#[]⟩, .string ⟨#[]⟩, .int .i64 0, .slice none 0 0], .int .i64 25], by simp [results, Tryz.f107, go_sem, t0, t1, t2, t3, t4], ⟨by rw [HE.out]; rfl, hBZ⟩⟩

    case stop =>
      rintro D c pre W _ _ h _
      exact h.elim
  · have h5b : (((nWords s : Nat) : Int) != 5) = true := by rw [bne_iff_ne]; omega
    have HE : Hid (headIs s = (zeroHead, 25)) := Lib.hid (by unfold headIs headOk; rw [decide_eq_false h5]; rfl)
    obtain ⟨m0, m1, m2, m3, m4⟩ := M1.c
    simp only [zeroHead] at m0 m1 m2 m3 m4
    have e0 := M1.f 0 (by decide)
    have e1 := M1.f 1 (by decide)
    have e2 := M1.f 2 (by decide)
    have e3 := M1.f 3 (by decide)
    have e4 := M1.f 4 (by decide)

    clear h5
    gi_wp2
    obtain ⟨Y, HY, hMY, hBY, hblk, -⟩ := put5 M1 zeroHead (.string ⟨#[]⟩) (.string ⟨#[]⟩) (.string ⟨#[]⟩) (.int .i64 0) (.slice none 0 0) (.slice none 0 0) rfl (Nat.le_refl _) hB1
    rw [HY.out]
    have hMZ := hMY
    have hBZ := hBY
    obtain ⟨t0, t1, t2, t3, t4⟩ := hMZ.c
    simp only [zeroHead] at t0 t1 t2 t3 t4
    exact ⟨.tuple #[.agg #[.string ⟨#[]⟩, .string ⟨#[]⟩, .string ⟨#[]⟩, .int .i64 0, .slice none 0 0], .int .i64 25], by simp [results, Tryz.f107, go_sem, t0, t1, t2, t3, t4], ⟨by rw [HE.out]; rfl, hBZ⟩⟩

theorem readHeader_any (s : ByteArray) (hs : s.size ≤ 100000) (w : World) :
    Calls Tryz.prog 107 #[.string s] w fun e w' => e = .returned (.tuple #[.agg ((headIs s).1.cells (.slice none 0 0)), .int .i64 (headIs s).2]) ∧ Below w.heap.size w w' :=
  callsIn_wide.1 (readHeader_in 3 (Nat.le_refl _) s hs w)
end Go.Proofs.YtphoclgibnhjfaaGreat
namespace Go.Proofs.YtphoclgibnhjfaaGreat
open Go
section
variable {P : Program} {ops : Array Oper} {md : Region.Mode} {C : World → Prop} {Q' : Exit → Act → World → Prop}
def sinkXB (md : Region.Mode) (ops : Array Oper) (n : Nat) : Bool :=
  (List.range (n - 1)).all fun i => (List.range (n + 1)).any fun j => decide (i < j) && (decide (j ≠ n - 1) && Region.waitsFor md ops j i)
/-- No operation of the tail is ready while one of the head is not done, but for the last. -/
theorem tail_waitsX {n : Nat} {listed : Array Bool} (hs : sinkXB md ops n = true) (hc : Region.chainB md ops n = true) (hn : n < ops.size) (inv : HeadInv md ops n listed) :
    ∀ (d i : Nat), n - i ≤ d → i < n - 1 → listed.getD i true = false → ∀ t, n ≤ t → t ∉ Region.ready md ops listed := by
  intro d
  induction d with
  | zero => intro i hd hi _ _ _; omega
  | succ d ih =>
    intro i hd hi hun t ht hr
    obtain ⟨_, ot, hot, hall⟩ := mem_ready.1 hr
    have htlt : t < ops.size := (Array.getElem?_eq_some_iff.1 hot).1
    have hone := List.all_eq_true.1 hs i (List.mem_range.2 hi)
    simp only [List.any_eq_true, List.mem_range, Bool.and_eq_true, decide_eq_true_eq] at hone
    obtain ⟨j, hj, hij, hjx, hw⟩ := hone
    obtain ⟨oj, hoj, e, he, hb, hon⟩ := Region.waitsFor_spec hw
    by_cases hjn : j = n
    · by_cases htn : t = n
      · subst htn
        rw [hjn] at hoj
        rw [hot] at hoj
        cases hoj
        have := hall e he hb
        rw [hon, getD_both hun] at this
        cases this
      · have h1 := List.all_eq_true.1 hc t (List.mem_range.2 htlt)
        simp only [Bool.or_eq_true, decide_eq_true_eq] at h1
        rcases h1 with h1 | h1
        · omega
        · obtain ⟨ot', hot', e', he', hb', hon'⟩ := Region.waitsFor_spec h1
          rw [hot] at hot'
          cases hot'
          have h2 := hall e' he' hb'
          rw [hon', getD_both (inv.tail (t - 1) (by omega) (by omega))] at h2
          cases h2
    · have hjun : listed.getD j true = false := by
        have hjs : j < ops.size := (Array.getElem?_eq_some_iff.1 hoj).1
        refine getD_in (by rw [inv.size]; exact hjs) ?_
        cases hl : listed.getD j false with
        | false => rfl
        | true =>
          have := inv.closed j oj hoj hl e he hb
          rw [hon, getD_both hun] at this
          cases this
      exact ih j (by omega) (by omega) hjun t ht hr
/-- Whatever order is drawn among the first n operations, f of them; the last may come behind number n. -/
def HeadX (P : Program) (md : Region.Mode) (ops : Array Oper) (C : World → Prop) (Q' : Exit → Act → World → Prop) (n g : Nat) (L : Array Bool → Act → Prop) (f : Nat) : Array Bool → Act → Prop :=
  f.rec L fun f next listed a => Region.ready md ops listed ≠ [] ∧ ∀ i ∈ Region.ready md ops listed, (i < n ∧ qOp P ops C i (next (listed.setIfInBounds i true)) a) ∨ (n ≤ i ∧ f = 0 ∧ ∀ w, C w → wpOp P ops Q' i (fun a' w' => wpAny P md ops Q' g (listed.setIfInBounds i true) a' w') a w)
theorem HeadX.any {n g : Nat} {L : Array Bool → Act → Prop} (hL : ∀ listed a w, C w → L listed a → wpAny P md ops Q' g listed a w) (f : Nat) :
    ∀ (listed : Array Bool) (a : Act) (w : World), C w → HeadX P md ops C Q' n g L f listed a → wpAny P md ops Q' (f + g) listed a w := by
  induction f with
  | zero => intro listed a w hw h; rw [Nat.zero_add]; exact hL _ _ _ hw h
  | succ f ih =>
    intro listed a w hw h
    rw [Nat.succ_add]
    refine ⟨fun h0 => absurd h0 h.1, fun i hi => ?_⟩
    rcases h.2 i hi with h1 | ⟨-, h2, h3⟩
    · exact wpOp_of_qOp hw (fun a' w' hw' h' => ih _ a' w' hw' h') h1.2
    · subst h2; rw [Nat.zero_add]; exact h3 w hw
theorem HeadX.first {n g i : Nat} {oi : Oper} {v : Value} {L : Array Bool → Act → Prop} (hi : ops[i]? = some oi) (hsel : ∀ (j : Nat) (o : Oper) cs b, ops[j]? = some o → o.op ≠ .select cs b)
    (hs : sinkXB md ops n = true) (hc : Region.chainB md ops n = true) (hn : n < ops.size) (hin : i < n - 1) (hdone : ∀ listed a, L listed a → ∀ j ∈ Region.ready md ops listed, n ≤ j) (f : Nat) :
    ∀ (listed : Array Bool) (a : Act), HeadInv md ops n listed →
      (∀ j oj, ops[j]? = some oj → j ≠ i → listed.getD j true = false → (∀ e ∈ oj.after, Region.binds md e = true → e.on ≠ i) → oi.apart ops oj = true) →
      i ∈ Region.ready md ops listed → YieldsIn P ops C oi v a → HeadX P md ops C Q' n g L f (listed.setIfInBounds i true) (a.put oi.dst v) → HeadX P md ops C Q' n g L (f + 1) listed a := by
  induction f with
  | zero =>
    intro listed a inv _ hr hy H
    refine ⟨List.ne_nil_of_mem hr, fun j hj => .inl ?_⟩
    have hjn : j < n := Nat.lt_of_not_le fun h => tail_waitsX hs hc hn inv _ i (Nat.le_refl _) hin (mem_ready.1 hr).1 j h hj
    refine ⟨hjn, ?_⟩
    rcases Nat.decEq j i with hji | hji
    · exact absurd (hdone _ _ H j (ready_mono hj hji)) (by omega)
    · subst hji; exact hy.qOp hi H
  | succ f ih =>
    intro listed a inv hfree hr hy H
    refine ⟨List.ne_nil_of_mem hr, fun j hj => .inl ?_⟩
    have hjn : j < n := Nat.lt_of_not_le fun h => tail_waitsX hs hc hn inv _ i (Nat.le_refl _) hin (mem_ready.1 hr).1 j h hj
    refine ⟨hjn, ?_⟩
    rcases Nat.decEq j i with hji | hji
    · obtain ⟨hun, oj, hoj, hall⟩ := mem_ready.1 hj
      have hnot : ∀ e ∈ oj.after, Region.binds md e = true → e.on ≠ i := fun e he hb heq => by
        have h1 := hall e he hb
        rw [heq, getD_both (mem_ready.1 hr).1] at h1
        cases h1
      have hq : qOp P ops C j (HeadX P md ops C Q' n g L f ((listed.setIfInBounds i true).setIfInBounds j true)) (a.put oi.dst v) := by
        rcases H.2 j (ready_mono hj hji) with h | h
        · exact h.2
        · exact absurd h.1 (by omega)
      have h2 := qOp_put hoj (hfree j oj hoj hji hun hnot) (fun cs b => hsel i oi cs b hi) (fun cs b => hsel j oj cs b hoj) hy hq
      refine qOp_mono (fun a' h3 => ih (listed.setIfInBounds j true) a' (inv.set hj hjn) (fun k ok hk hki hk2 hno => hfree k ok hk hki ?_ hno) (ready_mono hr (Ne.symm hji)) h3.1 ?_) h2
      · rcases Nat.decEq j k with hjk | hjk
        · rwa [getD_set_ne true hjk] at hk2
        · subst hjk; exact hun
      · rw [Array.setIfInBounds_comm _ _ hji]; exact h3.2
    · subst hji; exact hy.qOp hi H
/-- What the order must be like behind all but the last of the head. -/
def endXB (md : Region.Mode) (ops : Array Oper) (g n : Nat) (listed : Array Bool) : Bool :=
  (decide (Region.ready md ops listed = [n - 1, n]) || decide (Region.ready md ops listed = [n, n - 1])) && (decide (Region.ready md ops (listed.setIfInBounds n true) = [n - 1]) && Region.seqB md ops (g + 1) n (listed.setIfInBounds (n - 1) true))
def lexX (md : Region.Mode) (ops : Array Oper) (g n : Nat) : Nat → Nat → Array Bool → Bool
  | 0, _, listed => endXB md ops g n listed
  | f + 1, k, listed => (Region.ready md ops listed).contains k && (Region.free md ops listed k && lexX md ops g n f (k + 1) (listed.setIfInBounds k true))
def lateB (md : Region.Mode) (ops : Array Oper) (n : Nat) : Bool :=
  Region.noSelect ops && (decide (n < ops.size) && (decide (0 < n) && (sinkXB md ops n && (Region.chainB md ops n && lexX md ops (ops.size - n - 1) n (n - 1) 0 (Array.replicate ops.size false)))))
theorem HeadX.lex {n g : Nat} {Lq : Act → Prop} (hsel : Region.noSelect ops = true) (hs : sinkXB md ops n = true) (hc : Region.chainB md ops n = true) (hn : n < ops.size)
    (hend : ∀ listed a, endXB md ops g n listed = true → Lq a → HeadX P md ops C Q' n (g + 1) (fun listed' a' => Region.seqB md ops (g + 1) n listed' = true ∧ ∀ w, C w → wpAny P md ops Q' (g + 1) listed' a' w) 1 listed a) (l : List Oper) :
    ∀ (k : Nat) (listed : Array Bool) (a : Act), (∀ j, j < l.length → l[j]? = ops[k + j]?) → k + l.length = n - 1 → HeadInv md ops n listed → lexX md ops g n l.length k listed = true → wpQuiet P ops C Lq l a →
    HeadX P md ops C Q' n (g + 1) (fun listed' a' => Region.seqB md ops (g + 1) n listed' = true ∧ ∀ w, C w → wpAny P md ops Q' (g + 1) listed' a' w) (l.length + 1) listed a := by
  induction l with
  | nil =>
    intro k listed a _ hk _ hB h
    exact hend _ _ (by simpa [lexX] using hB) h
  | cons o l ih =>
    intro k listed a hl hk inv hB h
    have h0 : ops[k]? = some o := by simpa using (hl 0 (by simp)).symm
    simp only [List.length_cons, lexX, Bool.and_eq_true, List.contains_iff_mem] at hB
    have hkn : k < n - 1 := by simp only [List.length_cons] at hk; omega
    obtain ⟨v, hy, hK⟩ := yieldsIn_of_qOp (K := wpQuiet P ops C Lq l) h0 (by unfold qOp; simp only [h0]; exact h)
    exact HeadX.first h0 (Region.noSelect_spec hsel) hs hc hn hkn (fun _ _ hL => seqB_ready hL.1) (l.length + 1) listed a inv (Region.free_spec h0 hB.2.1) hB.1 hy
      (ih (k + 1) _ _ (fun j hj => by have := hl (j + 1) (by simp; omega); simpa [Nat.add_assoc, Nat.add_comm 1 j] using this) (by simp only [List.length_cons] at hk; omega) (inv.set hB.1 (by omega)) hB.2.2 hK)
theorem late_tail {id : Nat} {Q : Exit → Act → World → Prop} {a : Act} {w : World} {l : List Oper} {o8 o9 : Oper} (n : Nat) (hm : P.follows .mixedOrders = true) (hB : lateB .any l.toArray n = true) (h8 : l[n - 1]? = some o8) (h9 : l[n]? = some o9) (hC : C w.drew)
    (h : wpQuiet P l.toArray C (fun a' => wpQuiet P l.toArray C (fun a'' => ∀ w', C w' → wpList P l.toArray Q (o9 :: l.drop (n + 1)) a'' w') [o8] a' ∧ ∀ w', C w' → wpList P l.toArray Q (o9 :: o8 :: l.drop (n + 1)) a' w') (l.take (n - 1)) a) : (Code.region id l.toArray true).wp P Q a w := by
  simp only [lateB, Bool.and_eq_true, decide_eq_true_eq] at hB
  obtain ⟨hsel, hn, hn0, hs, hc, hlex⟩ := hB
  have hlen : n < l.length := by simpa using hn
  have hln : (l.take (n - 1)).length = n - 1 := by simp; omega
  have h8' : l.toArray[n - 1]? = some o8 := by simpa using h8
  have h9' : l.toArray[n]? = some o9 := by simpa using h9
  obtain ⟨g, hg⟩ : ∃ g, l.toArray.size - n - 1 = g := ⟨_, rfl⟩
  rw [hg] at hlex
  have hdl : (l.drop (n + 1)).length = g := by rw [← hg]; simp; omega
  have hrest : ∀ j, (l.drop (n + 1))[j]? = l.toArray[n + 1 + j]? := fun j => by simp [List.getElem?_drop]
  have inv0 : HeadInv .any l.toArray n (Array.replicate l.toArray.size false) :=
    ⟨by simp, fun j oj _ hl => (by rw [getD_replicate_false] at hl; cases hl), fun t _ ht => getD_in (by simpa using ht) (getD_replicate_false _ _)⟩
  have H := HeadX.lex (md := .any) (Q' := Q) (g := g) hsel hs hc hn (Lq := fun a' => wpQuiet P l.toArray C (fun a'' => ∀ w', C w' → wpList P l.toArray Q (o9 :: l.drop (n + 1)) a'' w') [o8] a' ∧ ∀ w', C w' → wpList P l.toArray Q (o9 :: o8 :: l.drop (n + 1)) a' w') (fun listed a' hE ⟨hq, hl⟩ => by
    simp only [endXB, Bool.and_eq_true, Bool.or_eq_true, decide_eq_true_eq] at hE
    obtain ⟨hr, hr9, hsq⟩ := hE
    have hmem : ∀ j, j ∈ Region.ready .any l.toArray listed ↔ j = n - 1 ∨ j = n := fun j => by
      rcases hr with hr | hr <;> rw [hr] <;> simp [or_comm]
    refine ⟨List.ne_nil_of_mem ((hmem n).2 (.inr rfl)), fun j hj => ?_⟩
    rcases (hmem j).1 hj with rfl | rfl
    · refine .inl ⟨by omega, ?_⟩
      have hq' : qOp P l.toArray C (n - 1) (wpQuiet P l.toArray C (fun a'' => ∀ w', C w' → wpList P l.toArray Q (o9 :: l.drop (n + 1)) a'' w') []) a' := by unfold qOp; simp only [h8']; exact hq
      refine qOp_mono (fun a'' h3 => ⟨hsq, fun w' hw' => ?_⟩) hq'
      have := wpAny_of_seq (md := .any) (Q' := Q) (o9 :: l.drop (n + 1)) n _ a'' w' (fun j => by
        cases j with
        | zero => simpa using h9.symm
        | succ j => rw [List.getElem?_cons_succ, hrest, show n + 1 + j = n + (j + 1) by omega]) (by rw [List.length_cons, hdl]; exact hsq) (h3 w' hw')
      rwa [List.length_cons, hdl] at this
    · refine .inr ⟨Nat.le_refl _, rfl, fun w' hw' => ?_⟩
      have hw : wpOp P l.toArray Q j (wpList P l.toArray Q (o8 :: l.drop (j + 1))) a' w' := by unfold wpOp; simp only [h9']; exact hl w' hw'
      refine wpOp_mono (fun a2 w2 h2 => ?_) hw
      refine ⟨fun h1 => (by rw [hr9] at h1; cases h1), fun i hi => ?_⟩
      rw [hr9] at hi
      obtain rfl : i = j - 1 := by simpa using hi
      have hw8 : wpOp P l.toArray Q (j - 1) (wpList P l.toArray Q (l.drop (j + 1))) a2 w2 := by unfold wpOp; simp only [h8']; exact h2
      refine wpOp_mono (fun a3 w3 h3 => ?_) hw8
      simp only [Region.seqB, Bool.and_eq_true, decide_eq_true_eq] at hsq
      have := wpAny_of_seq (md := .any) (Q' := Q) (l.drop (j + 1)) (j + 1) _ a3 w3 hrest (by rw [hdl]; exact hsq.2) h3
      rw [hdl] at this
      rw [Array.setIfInBounds_comm _ _ (by omega)]
      exact this) (l.take (n - 1)) 0 _ a (fun j hj => by
    rw [hln] at hj
    simp [hj]) (by rw [hln]; omega) inv0 (by rw [hln]; exact hlex) h
  have T := HeadX.any (Q' := Q) (fun listed a' w' hw' hL => hL.2 w' hw') _ _ _ w.drew hC H
  rw [hln, show n - 1 + 1 + (g + 1) = l.toArray.size by omega] at T
  exact wp_region_any hm T
end
end Go.Proofs.YtphoclgibnhjfaaGreat
