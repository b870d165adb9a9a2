/- Contract of ParseLine, for every text. -/
import Derived.Test.YtphoclgibnhjfaaGreatPm14
import Derived.Test.YtphoclgibnhjfaaGreatPm15
import Derived.RangeFuncBox
namespace Go.Proofs.YtphoclgibnhjfaaGreat
open Go Go.RowKit Go.Shelf
attribute [local go_sem] Oper.semAt_some
def zeroG (i : Nat) : Value := zeroLine.cells.toList.getD i undef
/-- The cells of a line, as far as its words are read. -/
def gL (s : ByteArray) (ks : List Nat) : Nat → Value := ks.foldl (fun g k => rdG g k (cwAt s k)) zeroG
theorem gL_snoc (s : ByteArray) (ks : List Nat) (k : Nat) : gL s (ks ++ [k]) = rdG (gL s ks) k (cwAt s k) := by simp [gL]
theorem cutB_fst (s : ByteArray) : (cutB s).1.size ≤ s.size := by
  unfold cutB
  split
  · exact Nat.le_refl _
  · simp [ByteArray.size_extract]; omega
theorem cwAt_size (s : ByteArray) (k : Nat) : (cwAt s k).size ≤ s.size := Nat.le_trans (cutB_fst _) (restAt_size s k)
/-- The first word that its field can't be. -/
def badK (s : ByteArray) : Option Nat := (List.range 14).find? fun k => !rdOk k (cwAt s k)
def undash (t : ByteArray) : ByteArray := if t.toList == [45] then ⟨#[]⟩ else t
/-- The line that the words of a text make. -/
def lineOf (s : ByteArray) : LineV :=
  ⟨cwAt s 0, ⟨cwAt s 2, cwAt s 1, cwAt s 3, undash (cwAt s 12), cwAt s 4, undash (cwAt s 13), if allK (cwAt s 5) 5 then nv (cwAt s 5) 5 else 0, if allK (cwAt s 6) 5 then nv (cwAt s 6) 5 else 0, (pmV (cwAt s 7) : Nat), if pmOk (cwAt s 8) then pmVal (cwAt s 8) else 0, if allK (cwAt s 9) 3 then nv (cwAt s 9) 3 else 0, if allK (cwAt s 10) 1 then nv (cwAt s 10) 1 else 0, if allK (cwAt s 11) 2 then nv (cwAt s 11) 2 else 0⟩⟩
theorem rdG_no {g : Nat → Value} {k : Nat} {t : ByteArray} (h : k < 12) : rdG g k t = fun i => if i = oK k then rdV k t else g i := funext fun i => by
  unfold rdG rdSkip
  rw [decide_eq_false (by omega)]; simp
theorem rdG_opt {g : Nat → Value} {k : Nat} {t : ByteArray} (h : 12 ≤ k) (hv : rdV k t = .string t) (hz : g (oK k) = .string ⟨#[]⟩) : rdG g k t = fun i => if i = oK k then .string (undash t) else g i := funext fun i => by
  unfold rdG rdSkip undash
  rw [decide_eq_true h]
  cases hd : (t.toList == [45])
  · simp [hv]
  · by_cases e : i = oK k
    · subst e; simp [hz]
    · simp [e]
theorem gL_line (s : ByteArray) (i : Nat) (hi : i < 14) : gL s (List.range 14) i = (lineOf s).cells.toList.getD i undef := by
  have e : List.range 14 = [0, 1, 2, 3, 4, 5, 6, 7, 8, 9, 10, 11, 12, 13] := rfl
  unfold gL
  rw [e]
  simp only [List.foldl_cons, List.foldl_nil]
  rw [rdG_no (k := 0) (by decide), rdG_no (k := 1) (by decide), rdG_no (k := 2) (by decide), rdG_no (k := 3) (by decide), rdG_no (k := 4) (by decide), rdG_no (k := 5) (by decide), rdG_no (k := 6) (by decide), rdG_no (k := 7) (by decide), rdG_no (k := 8) (by decide), rdG_no (k := 9) (by decide), rdG_no (k := 10) (by decide), rdG_no (k := 11) (by decide)]
  rw [rdG_opt (k := 12) (by decide) rfl (by simp [oK, zeroG, zeroLine, zeroReq, LineV.cells]), rdG_opt (k := 13) (by decide) rfl (by simp [oK, zeroG, zeroLine, zeroReq, LineV.cells])]
  match i, hi with
  | 0, _ => simp [oK, rdV, lineOf, LineV.cells]
  | 1, _ => simp [oK, rdV, lineOf, LineV.cells]
  | 2, _ => simp [oK, rdV, lineOf, LineV.cells]
  | 3, _ => simp [oK, rdV, lineOf, LineV.cells]
  | 4, _ => simp [oK, lineOf, LineV.cells]
  | 5, _ => simp [oK, rdV, lineOf, LineV.cells]
  | 6, _ => simp [oK, lineOf, LineV.cells]
  | 7, _ => simp [oK, rdV, lineOf, LineV.cells]
  | 8, _ => simp [oK, rdV, lineOf, LineV.cells]
  | 9, _ => simp [oK, rdV, lineOf, LineV.cells]
  | 10, _ => simp [oK, rdV, lineOf, LineV.cells]
  | 11, _ => simp [oK, rdV, lineOf, LineV.cells]
  | 12, _ => simp [oK, rdV, lineOf, LineV.cells]
  | 13, _ => simp [oK, rdV, lineOf, LineV.cells]
theorem fin_range (N : Nat) : (List.finRange N).map (fun x => x.1) = List.range N := by
  apply List.ext_getElem
  · simp
  · intro i h1 h2
    simp
/-- What ParseLine answers. -/
def lineIs (s : ByteArray) : LineV × Int × Int :=
  if nWords s ≠ 14 then (zeroLine, (min (nWords s) 13 : Nat), 25)
  else match badK s with
    | some k => (zeroLine, (k : Nat), 25)
    | none => if lineErr (lineOf s) ≠ 0 then (zeroLine, 14, lineErr (lineOf s)) else (lineOf s, 0, 0)
theorem badK_none {s : ByteArray} (h : ∀ k, k < 14 → rdOk k (cwAt s k) = true) : badK s = none := by
  unfold badK
  rw [List.find?_eq_none]
  intro k hk
  simp [h k (by simpa using hk)]
theorem badK_some {s : ByteArray} {k : Nat} (hk : k < 14) (h : ∀ j, j < k → rdOk j (cwAt s j) = true) (hb : rdOk k (cwAt s k) = false) : badK s = some k := by
  unfold badK
  rw [List.find?_eq_some_iff_append]
  refine ⟨by simp [hb], List.range k, (List.range' (k + 1) (13 - k)), ?_, ?_⟩
  · exact (show ∀ k, k < 14 → List.range 14 = List.range k ++ k :: List.range' (k + 1) (13 - k) by decide) k hk
  · intro j hj
    simp [h j (by simpa using hj)]
theorem line_good {s : ByteArray} (h14 : nWords s = 14) (h : ∀ y ∈ List.finRange (nWords s), rdOk y.1 (cwAt s y.1) = true) : lineIs s = if lineErr (lineOf s) ≠ 0 then (zeroLine, 14, lineErr (lineOf s)) else (lineOf s, 0, 0) := by
  unfold lineIs
  rw [if_neg (by simp [h14]), badK_none (fun k hk => h ⟨k, by omega⟩ (List.mem_finRange _))]
theorem line_bad {s : ByteArray} (h14 : nWords s = 14) (p : List (Fin (nWords s))) (x : Fin (nWords s)) (hp : (p ++ [x]) <+: List.finRange (nWords s)) (h : ∀ y ∈ p, rdOk y.1 (cwAt s y.1) = true) (hb : rdOk x.1 (cwAt s x.1) = false) : lineIs s = (zeroLine, ((x.1 : Nat) : Int), 25) := by
  obtain ⟨t, ht⟩ := hp
  have hlen : p.length + 1 + t.length = nWords s := by
    have := congrArg List.length ht
    simp at this
    omega
  have key : ∀ i (h : i < nWords s), (List.finRange (nWords s))[i]? = some ⟨i, h⟩ := fun i h => by
    rw [List.getElem?_eq_getElem (by simpa using h)]; simp
  have hx : x.1 = p.length := by
    have := key p.length (by omega)
    rw [← ht] at this
    simp at this
    rw [this]
  have hj : ∀ j, j < x.1 → rdOk j (cwAt s j) = true := fun j hj => by
    have h1 := key j (by omega)
    rw [← ht, List.append_assoc, List.getElem?_append_left (by omega)] at h1
    obtain ⟨_, h2⟩ := List.getElem?_eq_some_iff.1 h1
    have := h _ (h2 ▸ List.getElem_mem _)
    exact this
  unfold lineIs
  rw [if_neg (by simp [h14]), badK_some (by omega) hj hb]
theorem range14 (w : World) (b : Nat) (g : Nat → Value) (h : ∀ i, i < 14 → w.cell? ⟨b, i, none⟩ = some (g i)) : w.cell? ⟨b, 0, none⟩ = some (g 0) ∧ w.cell? ⟨b, 1, none⟩ = some (g 1) ∧ w.cell? ⟨b, 2, none⟩ = some (g 2) ∧ w.cell? ⟨b, 3, none⟩ = some (g 3) ∧ w.cell? ⟨b, 4, none⟩ = some (g 4) ∧ w.cell? ⟨b, 5, none⟩ = some (g 5) ∧ w.cell? ⟨b, 6, none⟩ = some (g 6) ∧ w.cell? ⟨b, 7, none⟩ = some (g 7) ∧ w.cell? ⟨b, 8, none⟩ = some (g 8) ∧ w.cell? ⟨b, 9, none⟩ = some (g 9) ∧ w.cell? ⟨b, 10, none⟩ = some (g 10) ∧ w.cell? ⟨b, 11, none⟩ = some (g 11) ∧ w.cell? ⟨b, 12, none⟩ = some (g 12) ∧ w.cell? ⟨b, 13, none⟩ = some (g 13) :=
  ⟨h 0 (by decide), h 1 (by decide), h 2 (by decide), h 3 (by decide), h 4 (by decide), h 5 (by decide), h 6 (by decide), h 7 (by decide), h 8 (by decide), h 9 (by decide), h 10 (by decide), h 11 (by decide), h 12 (by decide), h 13 (by decide)⟩
/-- The three results of ParseLine, in their blocks. -/
structure Res3 (w : World) (b : Nat) (l : LineV) (i e : Int) : Prop where
  c : ∀ t, t < 14 → w.cell? ⟨b, t, none⟩ = some (l.cells.toList.getD t undef)
  f : ∀ t, t < 14 → w.frozen? ⟨b, t, none⟩ = false
  c1 : w.cell? ⟨b + 1, 0, none⟩ = some (.int .i64 i)
  f1 : w.frozen? ⟨b + 1, 0, none⟩ = false
  c2 : w.cell? ⟨b + 1 + 1, 0, none⟩ = some (.int .i64 e)
  f2 : w.frozen? ⟨b + 1 + 1, 0, none⟩ = false
theorem Res3.below {w w' : World} {b : Nat} {l : LineV} {i e : Int} (h : Res3 w b l i e) (hb : Below w.heap.size w w') : Res3 w' b l i e :=
  ⟨fun t ht => b_old hb (h.c t ht), fun t ht => b_frozen hb (h.c t ht) (h.f t ht), b_old hb h.c1, b_frozen hb h.c1 h.f1, b_old hb h.c2, b_frozen hb h.c2 h.f2⟩
theorem Res3.li {V W : World} {lb : Nat} {g : Nat → Value} {b : Nat} {l : LineV} {i e : Int} (h : Res3 V b l i e) (hl : LI V lb g W) (hb : b + 1 + 1 < lb) : Res3 W b l i e :=
  ⟨fun t ht => hl.cell (by omega) (h.c t ht), fun t ht => hl.frozen (by omega) (h.c t ht) (h.f t ht), hl.cell (by omega) h.c1, hl.frozen (by omega) h.c1 h.f1, hl.cell (by omega) h.c2, hl.frozen (by omega) h.c2 h.f2⟩
theorem Res3.grown {X Y : World} {b B : Nat} {l : LineV} {i e : Int} {row : Option Nat} (h : Res3 X b l i e) (hb : b + 1 + 1 < B) (hg : X.grownBy Y row) (hr : ∀ r, row = some r → B ≤ r) : Res3 Y b l i e := by
  have hk : ∀ c, c ≤ b + 1 + 1 → c < X.heap.size → Y.heap[c]? = X.heap[c]? := fun c hc hx => hg.block c hx (by intro e; have := hr c e.symm; omega)
  exact ⟨fun t ht => (cell_of_blk (hk b (by omega) (cell_in (h.c t ht)))).trans (h.c t ht), fun t ht => (frozen_of_blk (hk b (by omega) (cell_in (h.c t ht)))).trans (h.f t ht),
    (cell_of_blk (hk (b + 1) (by omega) (cell_in h.c1))).trans h.c1, (frozen_of_blk (hk (b + 1) (by omega) (cell_in h.c1))).trans h.f1, (cell_of_blk (hk (b + 1 + 1) (by omega) (cell_in h.c2))).trans h.c2, (frozen_of_blk (hk (b + 1 + 1) (by omega) (cell_in h.c2))).trans h.f2⟩
theorem Res3.there {X : World} {b : Nat} {l : LineV} {i e : Int} (h : Res3 X b l i e) : X.there b 0 14 := fun j hj => ⟨by rw [Nat.zero_add, h.c j hj]; rfl, by rw [Nat.zero_add]; exact h.f j hj⟩
theorem Res3.put {X : World} {b : Nat} {l : LineV} {i e : Int} (h : Res3 X b l i e) (l' : LineV) (i' e' : Int) : Res3 (((X.setCells b 0 l'.cells.toList).setCell ⟨b + 1, 0, none⟩ (.int .i64 i')).setCell ⟨b + 1 + 1, 0, none⟩ (.int .i64 e')) b l' i' e' := by
  have LB : LineBox X b l := ⟨h.c, h.f⟩
  have L2 := LB.put (l := l')
  have hO := Off.setCells b 0 X l'.cells.toList
  refine ⟨fun t ht => set_other (set_other (L2.c t ht) (by intro e; have h := congrArg Addr.block e; simp only at h; omega)) (by intro e; have h := congrArg Addr.block e; simp only at h; omega), fun t ht => by rw [World.frozen?_setCell, World.frozen?_setCell]; exact L2.f t ht, ?_, ?_, ?_, ?_⟩
  · exact set_other (set_same (hO _ _ (by simp) h.c1)) (by intro e; have h := congrArg Addr.block e; simp only at h; omega)
  · rw [World.frozen?_setCell, World.frozen?_setCell, frozen_cells]; exact h.f1
  · exact set_same (set_other (hO _ _ (by simp; omega) h.c2) (by intro e; have h := congrArg Addr.block e; simp only at h; omega))
  · rw [World.frozen?_setCell, World.frozen?_setCell, frozen_cells]; exact h.f2
theorem Res3.puts {X : World} {b : Nat} {l : LineV} {i e : Int} (h : Res3 X b l i e) (l' : LineV) : Res3 (X.setCells b 0 l'.cells.toList) b l' i e := by
  have LB : LineBox X b l := ⟨h.c, h.f⟩
  have L2 := LB.put (l := l')
  have hO := Off.setCells b 0 X l'.cells.toList
  exact ⟨L2.c, L2.f, hO _ _ (by simp) h.c1, by rw [frozen_cells]; exact h.f1, hO _ _ (by simp; omega) h.c2, by rw [frozen_cells]; exact h.f2⟩
theorem others_setCells (b : Nat) (vs : List Value) : ∀ (o : Nat) (W : World), KeepsOthers W (W.setCells b o vs) := by
  induction vs with
  | nil => intro o W; exact KeepsOthers.refl _
  | cons v r ih => intro o W; exact (KeepsOthers.setCell _ _ _).trans (ih (o + 1) _)
theorem blk_setCells (b : Nat) (vs : List Value) (c : Nat) (hne : c ≠ b) : ∀ (o : Nat) (W : World), (W.setCells b o vs).heap[c]? = W.heap[c]? := by
  induction vs with
  | nil => intro o W; rfl
  | cons v r ih => intro o W; exact (ih (o + 1) _).trans (Below.heap_setCell _ _ _ _ (fun e => hne (by rw [e])))
theorem off_li {V W : World} {lb : Nat} {g : Nat → Value} (h : LI V lb g W) : Off lb V W := fun a _ ha hu => (World.cell?_of_block (w := V) (a := a) (h.blk a.block (cell_in hu) ha)).trans hu
theorem line_one (l : LineV) : l.cells.all (·.oneCell') = true := by
  unfold LineV.cells
  simp [Value.oneCell']
theorem line_info (l : LineV) : (Tryz.prog.info? 88).map (·.size) = some l.cells.size := by kernel_rfl
theorem zl_cells : zeroLine.cells = #[.string ⟨#[]⟩, .string ⟨#[]⟩, .string ⟨#[]⟩, .string ⟨#[]⟩, .string ⟨#[]⟩, .string ⟨#[]⟩, .string ⟨#[]⟩, .int .i64 0, .int .i64 0, .int .i64 0, .int .i64 0, .int .i64 0, .int .i64 0, .int .i64 0] := rfl
theorem Res3.there' {X : World} {b : Nat} {l : LineV} {i e : Int} (h : Res3 X b l i e) (l' : LineV) : X.there b 0 l'.cells.size := h.there
theorem size_setC (b : Nat) (vs : List Value) : ∀ (o : Nat) (W : World), (W.setCells b o vs).heap.size = W.heap.size := by
  induction vs with
  | nil => intro o W; rfl
  | cons v r ih => intro o W; exact (ih (o + 1) _).trans (set_size _ _ _)
theorem heap_lt {W : World} {D : Nat} {o : Obj} (h : W.heap[D]? = some o) : D < W.heap.size := (Array.getElem?_eq_some_iff.1 h).1
theorem put14 {X w : World} {b N : Nat} {l : LineV} {i e : Int} (h : Res3 X b l i e) (l' : LineV) (a0 a1 a2 a3 a4 a5 a6 a7 a8 a9 a10 a11 a12 a13 : Value) (ha : l'.cells.toList = [a0, a1, a2, a3, a4, a5, a6, a7, a8, a9, a10, a11, a12, a13]) (i' e' : Int) (hN : N ≤ b) (hB : Below N w X) :
    ∃ Y, Hid ((((((((((((((((X.setCell ⟨b, 0, none⟩ a0).setCell ⟨b, 1, none⟩ a1).setCell ⟨b, 2, none⟩ a2).setCell ⟨b, 3, none⟩ a3).setCell ⟨b, 4, none⟩ a4).setCell ⟨b, 5, none⟩ a5).setCell ⟨b, 6, none⟩ a6).setCell ⟨b, 7, none⟩ a7).setCell ⟨b, 8, none⟩ a8).setCell ⟨b, 9, none⟩ a9).setCell ⟨b, 10, none⟩ a10).setCell ⟨b, 11, none⟩ a11).setCell ⟨b, 12, none⟩ a12).setCell ⟨b, 13, none⟩ a13).setCell ⟨b + 1, 0, none⟩ (.int .i64 i')).setCell ⟨b + 1 + 1, 0, none⟩ (.int .i64 e') = Y) ∧ Res3 Y b l' i' e' ∧ KeepsOthers X Y ∧ Below N w Y ∧ (∀ c, c ≠ b → c ≠ b + 1 → c ≠ b + 1 + 1 → Y.heap[c]? = X.heap[c]?) ∧ Y.heap.size = X.heap.size := by
  have e0 : (((((((((((((((X.setCell ⟨b, 0, none⟩ a0).setCell ⟨b, 1, none⟩ a1).setCell ⟨b, 2, none⟩ a2).setCell ⟨b, 3, none⟩ a3).setCell ⟨b, 4, none⟩ a4).setCell ⟨b, 5, none⟩ a5).setCell ⟨b, 6, none⟩ a6).setCell ⟨b, 7, none⟩ a7).setCell ⟨b, 8, none⟩ a8).setCell ⟨b, 9, none⟩ a9).setCell ⟨b, 10, none⟩ a10).setCell ⟨b, 11, none⟩ a11).setCell ⟨b, 12, none⟩ a12).setCell ⟨b, 13, none⟩ a13).setCell ⟨b + 1, 0, none⟩ (.int .i64 i')).setCell ⟨b + 1 + 1, 0, none⟩ (.int .i64 e') = ((X.setCells b 0 l'.cells.toList).setCell ⟨b + 1, 0, none⟩ (.int .i64 i')).setCell ⟨b + 1 + 1, 0, none⟩ (.int .i64 e') := by rw [ha]; rfl
  refine ⟨_, Lib.hid e0, h.put l' i' e', ((others_setCells b _ 0 X).trans (KeepsOthers.setCell _ _ _)).trans (KeepsOthers.setCell _ _ _), ?_, fun c h1 h2 h3 => ?_, ?_⟩
  · exact ((hB.trans ((below_cells X b 0 _).mono hN)).setCell (p := ⟨b + 1, 0, none⟩) (show N ≤ b + 1 by omega) _).setCell (p := ⟨b + 1 + 1, 0, none⟩) (show N ≤ b + 1 + 1 by omega) _
  · exact ((Below.heap_setCell _ _ _ _ (fun e => h3 e)).trans (Below.heap_setCell _ _ _ _ (fun e => h2 e))).trans (blk_setCells b _ c h1 0 X)
  · rw [set_size, set_size]; exact size_setC b _ 0 X
theorem res3_new (w : World) (T : TypeId) : ∃ V0, Hid (((w.alloc (.cells #[.string ⟨#[]⟩, .string ⟨#[]⟩, .string ⟨#[]⟩, .string ⟨#[]⟩, .string ⟨#[]⟩, .string ⟨#[]⟩, .string ⟨#[]⟩, .int .i64 0, .int .i64 0, .int .i64 0, .int .i64 0, .int .i64 0, .int .i64 0, .int .i64 0] 88)).alloc (.cells #[.int .i64 0] 3)).alloc (.cells #[.int .i64 0] T) = V0) ∧ Res3 V0 w.heap.size zeroLine 0 0 ∧ Below w.heap.size w V0 ∧ V0.heap.size = w.heap.size + 1 + 1 + 1 := by
  obtain ⟨W1, h1, b1, s1, R1⟩ : ∃ W1, w.alloc (.cells #[.string ⟨#[]⟩, .string ⟨#[]⟩, .string ⟨#[]⟩, .string ⟨#[]⟩, .string ⟨#[]⟩, .string ⟨#[]⟩, .string ⟨#[]⟩, .int .i64 0, .int .i64 0, .int .i64 0, .int .i64 0, .int .i64 0, .int .i64 0, .int .i64 0] 88) = W1 ∧ Below w.heap.size w W1 ∧ W1.heap.size = w.heap.size + 1 ∧ LineBox W1 w.heap.size zeroLine := ⟨_, rfl, below_alloc _ _, by simp, LineBox.new w zeroLine _⟩
  obtain ⟨W2, h2, b2, s2, R2⟩ : ∃ W2, W1.alloc (.cells #[.int .i64 0] 3) = W2 ∧ Below W1.heap.size W1 W2 ∧ W2.heap.size = W1.heap.size + 1 ∧ RowV W1.heap.size W1.heap.size 1 (fun i => [Value.int .i64 0].getD i undef) W1 W2 := ⟨_, rfl, below_alloc _ _, by simp, RowV.new W1 [.int .i64 0] _⟩
  obtain ⟨W3, h3, b3, s3, R3⟩ : ∃ W3, W2.alloc (.cells #[.int .i64 0] T) = W3 ∧ Below W2.heap.size W2 W3 ∧ W3.heap.size = W2.heap.size + 1 ∧ RowV W2.heap.size W2.heap.size 1 (fun i => [Value.int .i64 0].getD i undef) W2 W3 := ⟨_, rfl, below_alloc _ _, by simp, RowV.new W2 [.int .i64 0] _⟩
  refine ⟨W3, Lib.hid (by rw [h1, h2, h3]), ?_, b_then (b_then b1 b2) b3, by omega⟩
  have c1 := R2.c 0 (by decide)
  have f1 := R2.f 0 (by decide)
  have c2 := R3.c 0 (by decide)
  have f2 := R3.f 0 (by decide)
  rw [s1] at c1 f1
  rw [s2, s1] at c2 f2
  have R1' := (R1.below b2).below b3
  exact ⟨R1'.c, R1'.f, b_old b3 c1, b_frozen b3 c1 f1, c2, f2⟩
/-- A store of a whole value, in a fenced walk. -/
theorem wpListIn_store_mid {F : Fence} {n : Nat} {P : Program} {ops : Array Oper} {rest : List Oper} {op : Oper} {a : Act} {w : World} {Q : Exit → Act → World → Prop} (hgd : op.guard = none) (ty : TypeId) (x y : Operand) (ho : op.op = .store ty x y)
    (b o : Nat) (cells : Array Value) (hx : a.eval x = .pointer (some ⟨b, o, none⟩)) (hy : a.eval y = .agg cells)
    (ht : w.there b o cells.size) (hi : (P.info? ty).map (·.size) = some cells.size) (h1 : cells.all (·.oneCell') = true)
    (h : wpListIn F n P ops Q rest (a.put op.dst undef) (w.setCells b o cells.toList)) : wpListIn F n P ops Q (op :: rest) a w := by
  refine wpListIn_plain hgd fun K hK => ?_
  unfold Oper.wpIn
  refine ⟨?_, ?_⟩
  · simp [Oper.about, ho]
  · rw [Oper.semAt_plain F _ _ (by rw [ho]; intro c hc'; cases hc')]
    unfold execOp
    simp only [ho, hx, hy, Instr.storeAt, Instr.sureAddr, Sem.run_bind, Sem.run_pure, Result.andThen_ok, run_storeVar_mid w b o ty cells ht hi h1]
    exact hK _ _ h
set_option maxRecDepth 100000 in
set_option maxHeartbeats 2000000 in
theorem ParseLine_in (n : Nat) (hn : 3 ≤ n) (s : ByteArray) (hs : s.size ≤ 100000) (w : World) :
    CallsIn Fence.wide n Tryz.prog 43 #[.string s] w fun e w' => e = .returned (.tuple #[.agg (lineIs s).1.cells, .int .i64 (lineIs s).2.1, .int .i64 (lineIs s).2.2]) ∧ Below w.heap.size w w' := by
  have hcw := fun w => countWords_any s w (by omega)
  refine callsIn_of_wp_marks Tryz.func43 rfl trivial ?_
  simp only [Tryz.ntmps43, List.size_toArray, List.length_cons, List.length_nil, Nat.reduceAdd, Nat.reduceSub, Array.replicate_succ, Array.replicate_zero, List.push_toArray, List.append_toArray, List.nil_append, List.cons_append]
  gi_wp2
  obtain ⟨V0, HV0, R0, hB0, hsz0⟩ : ∃ V0, Hid (((w.alloc (.cells #[.string ⟨#[]⟩, .string ⟨#[]⟩, .string ⟨#[]⟩, .string ⟨#[]⟩, .string ⟨#[]⟩, .string ⟨#[]⟩, .string ⟨#[]⟩, .int .i64 0, .int .i64 0, .int .i64 0, .int .i64 0, .int .i64 0, .int .i64 0, .int .i64 0] 88)).alloc (.cells #[.int .i64 0] 3)).alloc (.cells #[.int .i64 0] 26) = V0) ∧ Res3 V0 w.heap.size zeroLine 0 0 ∧ Below w.heap.size w V0 ∧ V0.heap.size = w.heap.size + 1 + 1 + 1 := res3_new w _
  rw [HV0.out]
  refine ⟨trivial, (fun h => by cases h), ?_⟩
  refine (callsIn_wide.2 (hcw _)).mono ?_
  rintro e1 w1 ⟨rfl, hb1⟩
  have hB1 := b_then hB0 hb1
  have R1 := R0.below hb1
  have hs1 : w.heap.size + 1 + 1 < w1.heap.size := cell_in R1.c2
  clear R0 hB0 hb1 HV0 hcw hsz0
  by_cases h14 : nWords s = 14
  · have h14b : (((nWords s : Nat) : Int) != 14) = false := by simp [h14]
    obtain ⟨V1, HV1, hbV1, LB, hsV1⟩ : ∃ V1, Hid (w1.alloc (.cells #[.string ⟨#[]⟩, .string ⟨#[]⟩, .string ⟨#[]⟩, .string ⟨#[]⟩, .string ⟨#[]⟩, .string ⟨#[]⟩, .string ⟨#[]⟩, .int .i64 0, .int .i64 0, .int .i64 0, .int .i64 0, .int .i64 0, .int .i64 0, .int .i64 0] 88) = V1) ∧ Below w1.heap.size w1 V1 ∧ LineBox V1 w1.heap.size zeroLine ∧ V1.heap.size = w1.heap.size + 1 := ⟨_, Lib.hid rfl, below_alloc _ _, LineBox.new w1 zeroLine _, by simp⟩
    gi_wp2
    rw [HV1.out]
    clear HV1
    refine ⟨trivial, (fun h => by cases h), ?_⟩
    refine (callsIn_wide.2 (fields_any V1)).mono ?_
    rintro e2 w2 ⟨⟨lst, hl14, rfl, HU, hsh⟩, hb2⟩
    have hsz : (pairFlat lst).toArray.size = 28 := by rw [List.size_toArray, pairFlat_len, hl14]
    have R2 := RowV.new w2 (List.replicate 28 .nilFunc) 161
    have hth : (w2.alloc (.cells #[.nilFunc, .nilFunc, .nilFunc, .nilFunc, .nilFunc, .nilFunc, .nilFunc, .nilFunc, .nilFunc, .nilFunc, .nilFunc, .nilFunc, .nilFunc, .nilFunc, .nilFunc, .nilFunc, .nilFunc, .nilFunc, .nilFunc, .nilFunc, .nilFunc, .nilFunc, .nilFunc, .nilFunc, .nilFunc, .nilFunc, .nilFunc, .nilFunc] 161)).there w2.heap.size 0 (pairFlat lst).toArray.size := fun j hj => by
      rw [hsz] at hj
      rw [Nat.zero_add]
      exact ⟨by have := R2.c j hj; exact (by rw [show (w2.alloc (.cells #[.nilFunc, .nilFunc, .nilFunc, .nilFunc, .nilFunc, .nilFunc, .nilFunc, .nilFunc, .nilFunc, .nilFunc, .nilFunc, .nilFunc, .nilFunc, .nilFunc, .nilFunc, .nilFunc, .nilFunc, .nilFunc, .nilFunc, .nilFunc, .nilFunc, .nilFunc, .nilFunc, .nilFunc, .nilFunc, .nilFunc, .nilFunc, .nilFunc] 161)).cell? ⟨w2.heap.size, j, none⟩ = _ from this]; rfl), R2.f j hj⟩
    have HTH := Lib.hid hth
    have HON := Lib.hid (all_oneCell_toArray (pairFlat_one hsh))
    have HSZ := Lib.hid hsz
    have hB2 := R2.below
    clear hth R2 hsz
    gi_wp2_with (refine wpListIn_store_mid rfl 161 _ _ rfl w2.heap.size 0 (pairFlat lst).toArray rfl rfl HTH.out (by rw [HSZ.out]; kernel_rfl) HON.out ?_)
    obtain ⟨W3, HW3, hT3, hB3⟩ : ∃ W3, Hid ((w2.alloc (.cells #[.nilFunc, .nilFunc, .nilFunc, .nilFunc, .nilFunc, .nilFunc, .nilFunc, .nilFunc, .nilFunc, .nilFunc, .nilFunc, .nilFunc, .nilFunc, .nilFunc, .nilFunc, .nilFunc, .nilFunc, .nilFunc, .nilFunc, .nilFunc, .nilFunc, .nilFunc, .nilFunc, .nilFunc, .nilFunc, .nilFunc, .nilFunc, .nilFunc] 161)).setCells w2.heap.size 0 (pairFlat lst) = W3) ∧ TabAt W3 w2.heap.size lst ∧ Below w2.heap.size w2 W3 :=
      ⟨_, Lib.hid rfl, tab_of (World.rangeAt_setCells_same _ _ _ _ (by have := HTH.out; rwa [List.size_toArray] at this)) hsh, hB2.trans (below_cells _ _ _ _)⟩
    rw [HW3.out]
    clear HW3 HTH HON hB2 HSZ
    gi_wp2
    refine ⟨trivial, (fun h => by cases h), ?_⟩
    refine (callsIn_wide.2 (wordsOf_any s W3)).mono ?_
    rintro e4 V ⟨rfl, hc4, hlt4, hb4⟩
    have HUV := Lib.hid (HU.below (b_then hB3 hb4))
    have HTV := Lib.hid (hT3.below hb4)
    have hV2 : V1.heap.size ≤ w2.heap.size := hb2.size
    have hW3 := cell_in hc4
    have h23 : w2.heap.size < W3.heap.size := by
      obtain ⟨f, c, f', c', -, q, -⟩ := hT3.c 0 (by omega)
      exact cell_in q
    have LBV := ((LB.below hb2).below hB3).below hb4
    have HRV := Lib.hid ((((R1.below hbV1).below hb2).below hB3).below hb4)
    have hBV : Below w.heap.size w V := b_then (b_then (b_then (b_then hB1 hbV1) hb2) hB3) hb4
    have HLI : Hid (LI V w1.heap.size (gL s []) V) := Lib.hid ⟨fun i hi => LBV.c i hi, LBV.f, fun _ _ _ => rfl, Nat.le_refl _⟩
    have HNW : Hid (∀ x : Fin (nWords s), x.1 < 14) := Lib.hid fun x => by have := x.2; omega
    have HSZ : Hid (∀ k, (cwAt s k).size ≤ maxLen) := Lib.hid fun k => Nat.le_trans (cwAt_size s k) (Nat.le_trans hs (by decide))
    have HBAD : Hid (∀ (p : List (Fin (nWords s))) (x : Fin (nWords s)), (p ++ [x]) <+: List.finRange (nWords s) → (∀ y ∈ p, rdOk y.1 (cwAt s y.1) = true) → rdOk x.1 (cwAt s x.1) = false → lineIs s = (zeroLine, ((x.1 : Nat) : Int), 25)) := Lib.hid (line_bad h14)
    have HGOOD : Hid ((∀ y ∈ List.finRange (nWords s), rdOk y.1 (cwAt s y.1) = true) → lineIs s = if lineErr (lineOf s) ≠ 0 then (zeroLine, 14, lineErr (lineOf s)) else (lineOf s, 0, 0)) := Lib.hid (line_good h14)
    clear hb2 hB3 hb4 hbV1 HU hT3 LB LBV R1
    gi_wp2
    refine wpIn_rangeFunc_ownF rfl (by omega) (gf := 162) (lb := #[.pointer (some ⟨W3.heap.size, 0, none⟩)]) rfl trivial (enters_of Tryz.func162 (by kernel_rfl) rfl)
      (words_stops (n - 1) (by omega) W3.heap.size s (by omega) V hlt4 hc4) KpB.trans (kpB_b hlt4) (Below.refl _ _) (fun _ => rfl)
      (fun (pre : List (Fin (nWords s))) W => ((∀ x ∈ pre, rdOk x.1 (cwAt s x.1) = true) ∧ LI V w1.heap.size (gL s (pre.map fun x : Fin (nWords s) => x.1)) W) ∧ Below w.heap.size w W)
      (fun c (pre : List (Fin (nWords s))) W => (c = .ret ∧ ∃ (p : List (Fin (nWords s))) (x : Fin (nWords s)), pre = p ++ [x] ∧ (∀ y ∈ p, rdOk y.1 (cwAt s y.1) = true) ∧ rdOk x.1 (cwAt s x.1) = false ∧ Res3 W w.heap.size zeroLine ((x.1 : Nat) : Int) 25) ∧ Below w.heap.size w W)
      (OwnFrom.and (fun _ X Y row hx hg hr => ⟨hx.1, hx.2.grown (by omega) hg (fun r e => (hr r e).1)⟩) (ownFrom_below (Nat.le_refl _) (by have := hBV.size; omega)))
      (fun c => OwnFrom.and (fun _ X Y row hx hg hr => by
        obtain ⟨h1, p, x, h2, h3, h4, h5⟩ := hx
        exact ⟨h1, p, x, h2, h3, h4, h5.grown (B := V.heap.size) (by omega) hg (fun r e => (hr r e).1)⟩) (ownFrom_below (Nat.le_refl _) (by have := hBV.size; omega)))
      ⟨⟨by simp, HLI.out⟩, hBV⟩
      (fun x => { tmps := #[.string s, undef, .pointer (some ⟨w.heap.size, 0, none⟩), .pointer (some ⟨w.heap.size + 1, 0, none⟩), .pointer (some ⟨w.heap.size + 1 + 1, 0, none⟩), .int .i64 14, .pointer (some ⟨w1.heap.size, 0, none⟩), .pointer (some ⟨w2.heap.size, 0, none⟩), .int .i64 x.1, .string (cwAt s x.1), undef, .string s, .int .i64 14, .int .i64 14, .bool false, undef, undef, undef, .agg (pairFlat lst).toArray, .string s, .func (.func 162) #[] #[.pointer (some ⟨W3.heap.size, 0, none⟩)], .int .i64 x.1, .string (cwAt s x.1), undef, undef, undef, undef, undef, undef, undef, undef, undef, undef, undef, undef, undef, undef, undef, undef], defers := [] }) ?assign ?body ?done ?stop
    case assign =>
      intro l x W K hK
      gi_wp2
      simpa using hK
    case body =>
      rintro l pre x W ⟨⟨hall, hli⟩, hB⟩ hlt
      have hx14 := HNW.out x
      obtain ⟨f, c, f', c', e0, y0, y1⟩ := HTV.out.c x.1 (by omega)
      have z1 := hli.cell (by omega) y1
      obtain ⟨id, caps, er, hen, hcall⟩ := (readAt x.1 hx14 ((HUV.out.at_ x.1 (by omega)).off (off_li hli) (by omega)) (by omega) hli (by omega) (HSZ.out x.1)).ex
      rw [e0] at er
      obtain ⟨rfl, rfl⟩ : f' = .func id ∧ c' = caps := by simpa using er
      unfold Enters at hen
      have HC := Lib.hid hcall
      clear hcall er e0 y0 y1
      gi_wp2
      refine ⟨trivial, (fun h => by cases h), ?_⟩
      refine (CallsIn.inRound l (callsIn_wide.2 HC.out)).mono ?_
      rintro e W' hr
      obtain ⟨rfl, hli', hoth, hlow⟩ := hr
      have hB' := hB.trans (hlow w.heap.size (by omega))
      have hKP : KpB W3.heap.size W W' := ⟨(hli'.blk _ hlt4 (by omega)).trans (hli.blk _ hlt4 (by omega)).symm, (hlow 0 (Nat.zero_le _)).size⟩
      rw [← gL_snoc] at hli'
      have hRW := HRV.out.li hli' (by omega)
      cases hok : rdOk x.1 (cwAt s x.1)
      · have q0 := range14 W' w.heap.size _ hRW.c
        have g0 := hRW.f
        obtain ⟨q0, q1, q2, q3, q4, q5, q6, q7, q8, q9, q10, q11, q12, q13⟩ := q0
        have p1 := hRW.c1
        have p2 := hRW.c2
        have h1 := hRW.f1
        have h2 := hRW.f2
        have f0 := g0 0 (by decide)
        have f1 := g0 1 (by decide)
        have f2 := g0 2 (by decide)
        have f3 := g0 3 (by decide)
        have f4 := g0 4 (by decide)
        have f5 := g0 5 (by decide)
        have f6 := g0 6 (by decide)
        have f7 := g0 7 (by decide)
        have f8 := g0 8 (by decide)
        have f9 := g0 9 (by decide)
        have f10 := g0 10 (by decide)
        have f11 := g0 11 (by decide)
        have f12 := g0 12 (by decide)
        have f13 := g0 13 (by decide)
        have HRW := Lib.hid hRW
        have HLI' := Lib.hid hli'
        have HALL := Lib.hid hall
        clear HC z1 hli g0 hRW hli' hall
        gi_wp2
        obtain ⟨Y, HY, hRY, hKY, hBY, -, -⟩ := put14 HRW.out zeroLine (.string ⟨#[]⟩) (.string ⟨#[]⟩) (.string ⟨#[]⟩) (.string ⟨#[]⟩) (.string ⟨#[]⟩) (.string ⟨#[]⟩) (.string ⟨#[]⟩) (.int .i64 0) (.int .i64 0) (.int .i64 0) (.int .i64 0) (.int .i64 0) (.int .i64 0) (.int .i64 0) rfl ((x.1 : Nat) : Int) 25 (Nat.le_refl _) hB'
        rw [HY.out]
        exact ⟨hoth.trans hKY, ⟨rfl, pre, x, rfl, HALL.out, hok, hRY⟩, hBY⟩
      · gi_wp2
        refine ⟨hoth, hKP, ⟨fun y hy => ?_, by simpa using hli'⟩, hB'⟩
        rcases List.mem_append.1 hy with hy | hy
        · exact hall y hy
        · obtain rfl : y = x := by simpa using hy
          exact hok
    case done =>
      rintro D ys W hD rfl ⟨⟨hall, hli⟩, hB⟩ hK
      have HG := Lib.hid (HGOOD.out hall)
      rw [fin_range, h14] at hli
      have LBW : LineBox W w1.heap.size (lineOf s) := ⟨fun t ht => (hli.c t ht).trans (congrArg some (gL_line s t ht)), hli.f⟩
      have hck := fun W => CheckLine_any (lineOf s) (HSZ.out 0) W
      have hRW := HRV.out.li hli (by omega)
      have hDW := hK
      generalize lineErr (lineOf s) = er at *
      generalize lineOf s = l at *
      obtain ⟨r0, r1, r2, r3, r4, r5, r6, r7, r8, r9, r10, r11, r12, r13⟩ := LBW.line
      obtain ⟨act, ⟨name, carrier, kind, terminal, partner, link, x, y, d, m, sx, z, nn⟩⟩ := l
      simp only [LineV.cells] at hck
      dsimp only at r0 r1 r2 r3 r4 r5 r6 r7 r8 r9 r10 r11 r12 r13
      have HRW := Lib.hid hRW
      have HK := Lib.hid hK
      clear hall hli hRW hDW LBW
      gi_wp2
      refine ⟨trivial, (fun h => by cases h), ?_⟩
      refine (callsIn_wide.2 (hck _)).mono ?_
      rintro e W5 ⟨rfl, hb5⟩
      have s0 := b_old hb5 r0
      have s1 := b_old hb5 r1
      have s2 := b_old hb5 r2
      have s3 := b_old hb5 r3
      have s4 := b_old hb5 r4
      have s5 := b_old hb5 r5
      have s6 := b_old hb5 r6
      have s7 := b_old hb5 r7
      have s8 := b_old hb5 r8
      have s9 := b_old hb5 r9
      have s10 := b_old hb5 r10
      have s11 := b_old hb5 r11
      have s12 := b_old hb5 r12
      have s13 := b_old hb5 r13
      have hR5 := HRW.out.below hb5
      have hB5 := b_then hB hb5
      have HK5 : Hid (W5.heap[D]? = some (.deferred (some []))) := Lib.hid ((hb5.block D (heap_lt HK.out)).trans HK.out)
      clear r0 r1 r2 r3 r4 r5 r6 r7 r8 r9 r10 r11 r12 r13 hb5 hck HK HRW
      obtain ⟨q0, q1, q2, q3, q4, q5, q6, q7, q8, q9, q10, q11, q12, q13⟩ := range14 _ w.heap.size _ hR5.c
      have f0 := hR5.f 0 (by decide)
      have f1 := hR5.f 1 (by decide)
      have f2 := hR5.f 2 (by decide)
      have f3 := hR5.f 3 (by decide)
      have f4 := hR5.f 4 (by decide)
      have f5 := hR5.f 5 (by decide)
      have f6 := hR5.f 6 (by decide)
      have f7 := hR5.f 7 (by decide)
      have f8 := hR5.f 8 (by decide)
      have f9 := hR5.f 9 (by decide)
      have f10 := hR5.f 10 (by decide)
      have f11 := hR5.f 11 (by decide)
      have f12 := hR5.f 12 (by decide)
      have f13 := hR5.f 13 (by decide)
      have p1 := hR5.c1
      have p2 := hR5.c2
      have g1 := hR5.f1
      have g2 := hR5.f2
      have HR5 := Lib.hid hR5
      clear hR5
      by_cases he : er = 0
      · have HE : Hid (lineIs s = (⟨act, ⟨name, carrier, kind, terminal, partner, link, x, y, d, m, sx, z, nn⟩⟩, 0, 0)) := Lib.hid (by rw [HG.out, if_neg (by simp [he])])
        subst he
        clear HG
        gi_wp2
        obtain ⟨Y, HY, hRY, -, hBY, hblk, -⟩ := put14 HR5.out ⟨act, ⟨name, carrier, kind, terminal, partner, link, x, y, d, m, sx, z, nn⟩⟩ (.string act) (.string name) (.string carrier) (.string kind) (.string terminal) (.string partner) (.string link) (.int .i64 x) (.int .i64 y) (.int .i64 d) (.int .i64 m) (.int .i64 sx) (.int .i64 z) (.int .i64 nn) rfl 0 0 (Nat.le_refl _) hB5
        rw [HY.out]
        have hKY := (hblk D (by have := hBV.size; omega) (by omega) (by omega)).trans HK5.out
        clear q0 q1 q2 q3 q4 q5 q6 q7 q8 q9 q10 q11 q12 q13 f0 f1 f2 f3 f4 f5 f6 f7 f8 f9 f10 f11 f12 f13 p1 p2 g1 g2
        clear s0 s1 s2 s3 s4 s5 s6 s7 s8 s9 s10 s11 s12 s13
        refine ⟨by simp, .inl ⟨_, _, rfl, run_takeDeferred hKY, ?_⟩⟩
        have hRZ := hRY.grown (B := V.heap.size) (by omega) (grownBy_putObj' Y D (.deferred none)) (fun r e => by cases e; exact hD)
        have hBZ := hBY.trans (belowK_b (w := w) (n₀ := w.heap.size) (Nat.le_refl _) Y D _ (.deferred none) (by have := hBV.size; omega) hKY rfl rfl)
        obtain ⟨t0, t1, t2, t3, t4, t5, t6, t7, t8, t9, t10, t11, t12, t13⟩ := (LineBox.mk hRZ.c hRZ.f).line
        dsimp only at t0 t1 t2 t3 t4 t5 t6 t7 t8 t9 t10 t11 t12 t13
        have u1 := hRZ.c1
        have u2 := hRZ.c2
        exact ⟨.tuple #[.agg #[.string act, .string name, .string carrier, .string kind, .string terminal, .string partner, .string link, .int .i64 x, .int .i64 y, .int .i64 d, .int .i64 m, .int .i64 sx, .int .i64 z, .int .i64 nn], .int .i64 0, .int .i64 0], by simp [results, Tryz.f43, go_sem, t0, t1, t2, t3, t4, t5, t6, t7, t8, t9, t10, t11, t12, t13, u1, u2], ⟨by rw [HE.out]; rfl, hBZ⟩⟩
      · have HE : Hid (lineIs s = (zeroLine, 14, er)) := Lib.hid (by rw [HG.out, if_pos he])
        have hb : (er != 0) = true := by simpa using he
        clear HG
        gi_wp2
        obtain ⟨Y, HY, hRY, -, hBY, hblk, -⟩ := put14 HR5.out zeroLine (.string ⟨#[]⟩) (.string ⟨#[]⟩) (.string ⟨#[]⟩) (.string ⟨#[]⟩) (.string ⟨#[]⟩) (.string ⟨#[]⟩) (.string ⟨#[]⟩) (.int .i64 0) (.int .i64 0) (.int .i64 0) (.int .i64 0) (.int .i64 0) (.int .i64 0) (.int .i64 0) rfl 14 er (Nat.le_refl _) hB5
        rw [HY.out]
        have hKY := (hblk D (by have := hBV.size; omega) (by omega) (by omega)).trans HK5.out
        clear q0 q1 q2 q3 q4 q5 q6 q7 q8 q9 q10 q11 q12 q13 f0 f1 f2 f3 f4 f5 f6 f7 f8 f9 f10 f11 f12 f13 p1 p2 g1 g2
        clear s0 s1 s2 s3 s4 s5 s6 s7 s8 s9 s10 s11 s12 s13
        refine ⟨by simp, .inl ⟨_, _, rfl, run_takeDeferred hKY, ?_⟩⟩
        have hRZ := hRY.grown (B := V.heap.size) (by omega) (grownBy_putObj' Y D (.deferred none)) (fun r e => by cases e; exact hD)
        have hBZ := hBY.trans (belowK_b (w := w) (n₀ := w.heap.size) (Nat.le_refl _) Y D _ (.deferred none) (by have := hBV.size; omega) hKY rfl rfl)
        obtain ⟨t0, t1, t2, t3, t4, t5, t6, t7, t8, t9, t10, t11, t12, t13⟩ := (LineBox.mk hRZ.c hRZ.f).line
        simp only [zeroLine, zeroReq] at t0 t1 t2 t3 t4 t5 t6 t7 t8 t9 t10 t11 t12 t13
        have u1 := hRZ.c1
        have u2 := hRZ.c2
        exact ⟨.tuple #[.agg #[.string ⟨#[]⟩, .string ⟨#[]⟩, .string ⟨#[]⟩, .string ⟨#[]⟩, .string ⟨#[]⟩, .string ⟨#[]⟩, .string ⟨#[]⟩, .int .i64 0, .int .i64 0, .int .i64 0, .int .i64 0, .int .i64 0, .int .i64 0, .int .i64 0], .int .i64 14, .int .i64 er], by simp [results, Tryz.f43, go_sem, t0, t1, t2, t3, t4, t5, t6, t7, t8, t9, t10, t11, t12, t13, u1, u2], ⟨by rw [HE.out]; rfl, hBZ⟩⟩
    case stop =>
      rintro D c pre Y hD hsp ⟨⟨rfl, p, x, rfl, hall, hbad, hRY⟩, hBY⟩ hKY
      have HE := Lib.hid (HBAD.out p x hsp hall hbad)
      clear hall hbad hsp
      gi_wp2
      refine ⟨by simp, .inl ⟨_, _, rfl, run_takeDeferred hKY, ?_⟩⟩
      have hRZ := hRY.grown (B := V.heap.size) (by omega) (grownBy_putObj' Y D (.deferred none)) (fun r e => by cases e; exact hD)
      have hBZ := hBY.trans (belowK_b (w := w) (n₀ := w.heap.size) (Nat.le_refl _) Y D _ (.deferred none) (by have := hBV.size; omega) hKY rfl rfl)
      obtain ⟨t0, t1, t2, t3, t4, t5, t6, t7, t8, t9, t10, t11, t12, t13⟩ := (LineBox.mk hRZ.c hRZ.f).line
      simp only [zeroLine, zeroReq] at t0 t1 t2 t3 t4 t5 t6 t7 t8 t9 t10 t11 t12 t13
      have u1 := hRZ.c1
      have u2 := hRZ.c2
      exact ⟨.tuple #[.agg #[.string ⟨#[]⟩, .string ⟨#[]⟩, .string ⟨#[]⟩, .string ⟨#[]⟩, .string ⟨#[]⟩, .string ⟨#[]⟩, .string ⟨#[]⟩, .int .i64 0, .int .i64 0, .int .i64 0, .int .i64 0, .int .i64 0, .int .i64 0, .int .i64 0], .int .i64 ((x.1 : Nat) : Int), .int .i64 25], by simp [results, Tryz.f43, go_sem, t0, t1, t2, t3, t4, t5, t6, t7, t8, t9, t10, t11, t12, t13, u1, u2], ⟨by rw [HE.out]; rfl, hBZ⟩⟩
  · have h14b : (((nWords s : Nat) : Int) != 14) = true := by rw [bne_iff_ne]; omega
    have HE : Hid (lineIs s = (zeroLine, min ((nWords s : Nat) : Int) 13, 25)) := Lib.hid (by unfold lineIs; rw [if_pos h14]; simp only [Prod.mk.injEq, true_and, and_true]; omega)
    have HR1 := Lib.hid R1
    obtain ⟨q0, q1, q2, q3, q4, q5, q6, q7, q8, q9, q10, q11, q12, q13⟩ := range14 _ w.heap.size _ R1.c
    have f0 := R1.f 0 (by decide)
    have f1 := R1.f 1 (by decide)
    have f2 := R1.f 2 (by decide)
    have f3 := R1.f 3 (by decide)
    have f4 := R1.f 4 (by decide)
    have f5 := R1.f 5 (by decide)
    have f6 := R1.f 6 (by decide)
    have f7 := R1.f 7 (by decide)
    have f8 := R1.f 8 (by decide)
    have f9 := R1.f 9 (by decide)
    have f10 := R1.f 10 (by decide)
    have f11 := R1.f 11 (by decide)
    have f12 := R1.f 12 (by decide)
    have f13 := R1.f 13 (by decide)
    have p1 := R1.c1
    have p2 := R1.c2
    have g1 := R1.f1
    have g2 := R1.f2
    clear R1 h14
    gi_wp2
    obtain ⟨Y, HY, hRZ, -, hBZ, -, -⟩ := put14 HR1.out zeroLine (.string ⟨#[]⟩) (.string ⟨#[]⟩) (.string ⟨#[]⟩) (.string ⟨#[]⟩) (.string ⟨#[]⟩) (.string ⟨#[]⟩) (.string ⟨#[]⟩) (.int .i64 0) (.int .i64 0) (.int .i64 0) (.int .i64 0) (.int .i64 0) (.int .i64 0) (.int .i64 0) rfl (min ((nWords s : Nat) : Int) 13) 25 (Nat.le_refl _) hB1
    rw [HY.out]
    obtain ⟨t0, t1, t2, t3, t4, t5, t6, t7, t8, t9, t10, t11, t12, t13⟩ := (LineBox.mk hRZ.c hRZ.f).line
    simp only [zeroLine, zeroReq] at t0 t1 t2 t3 t4 t5 t6 t7 t8 t9 t10 t11 t12 t13
    have u1 := hRZ.c1
    have u2 := hRZ.c2
    exact ⟨.tuple #[.agg #[.string ⟨#[]⟩, .string ⟨#[]⟩, .string ⟨#[]⟩, .string ⟨#[]⟩, .string ⟨#[]⟩, .string ⟨#[]⟩, .string ⟨#[]⟩, .int .i64 0, .int .i64 0, .int .i64 0, .int .i64 0, .int .i64 0, .int .i64 0, .int .i64 0], .int .i64 (min ((nWords s : Nat) : Int) 13), .int .i64 25], by simp [results, Tryz.f43, go_sem, t0, t1, t2, t3, t4, t5, t6, t7, t8, t9, t10, t11, t12, t13, u1, u2], ⟨by rw [HE.out]; rfl, hBZ⟩⟩
theorem ParseLine_any (s : ByteArray) (hs : s.size ≤ 100000) (w : World) :
    Calls Tryz.prog 43 #[.string s] w fun e w' => e = .returned (.tuple #[.agg (lineIs s).1.cells, .int .i64 (lineIs s).2.1, .int .i64 (lineIs s).2.2]) ∧ Below w.heap.size w w' :=
  callsIn_wide.1 (ParseLine_in 3 (Nat.le_refl _) s hs w)
end Go.Proofs.YtphoclgibnhjfaaGreat
