/- Contract of readMessage, for every text. -/
import Derived.Test.YtphoclgibnhjfaaGreatPm18
import Derived.Test.YtphoclgibnhjfaaGreatPm22
import Derived.Test.YtphoclgibnhjfaaGreatPm25
import Derived.Test.YtphoclgibnhjfaaGreatPm20
namespace Go.Proofs.YtphoclgibnhjfaaGreat
open Go Go.RowKit Go.Shelf
attribute [local go_sem] Oper.semAt_some
/-- The results of a reader of messages, in blocks. -/
structure Res5 (w : World) (b : Nat) (h : HeadV) (v : Value) (i e : Int) : Prop where
  m : MB w b h v
  c1 : w.cell? ⟨b + 1, 0, none⟩ = some (.int .i64 i)
  f1 : w.frozen? ⟨b + 1, 0, none⟩ = false
  c2 : w.cell? ⟨b + 1 + 1, 0, none⟩ = some (.int .i64 e)
  f2 : w.frozen? ⟨b + 1 + 1, 0, none⟩ = false
theorem Res5.of {X Y : World} {b : Nat} {h : HeadV} {v : Value} {i e : Int} (r : Res5 X b h v i e) (hk : ∀ c, c ≤ b + 1 + 1 → Y.heap[c]? = X.heap[c]?) : Res5 Y b h v i e :=
  ⟨r.m.of (hk b (by omega)), (cell_of_blk (hk (b + 1) (by omega))).trans r.c1, (frozen_of_blk (hk (b + 1) (by omega))).trans r.f1, (cell_of_blk (hk (b + 1 + 1) (by omega))).trans r.c2, (frozen_of_blk (hk (b + 1 + 1) (by omega))).trans r.f2⟩
theorem Res5.put {X w : World} {b : Nat} {h : HeadV} {v : Value} {i e : Int} (r : Res5 X b h v i e) (h' : HeadV) (a0 a1 a2 a3 a4 : Value) (v' : Value) (ha : h'.cells v' = #[a0, a1, a2, a3, a4]) (i' e' : Int) (hB : Below b w X) :
    ∃ Y, Hid (((((((X.setCell ⟨b, 0, none⟩ a0).setCell ⟨b, 1, none⟩ a1).setCell ⟨b, 2, none⟩ a2).setCell ⟨b, 3, none⟩ a3).setCell ⟨b, 4, none⟩ a4).setCell ⟨b + 1, 0, none⟩ (.int .i64 i')).setCell ⟨b + 1 + 1, 0, none⟩ (.int .i64 e') = Y) ∧ Res5 Y b h' v' i' e' ∧ Below b w Y ∧ (∀ c, b + 1 + 1 < c → Y.heap[c]? = X.heap[c]?) ∧ KeepsOthers X Y ∧ Y.heap.size = X.heap.size := by
  obtain ⟨Z, HZ, hm, hb, hk, hs⟩ := put5 r.m h' a0 a1 a2 a3 a4 v' ha (Nat.le_refl b) hB
  have r2 : ∀ c, c ≠ b → Z.heap[c]? = X.heap[c]? := hk
  have s1 : ∀ (W : World) (k : Nat) (u : Value) (c : Nat), c ≠ k → (W.setCell ⟨k, 0, none⟩ u).heap[c]? = W.heap[c]? := fun W k u c hc => Below.heap_setCell _ _ _ _ (fun e => hc (by rw [e]))
  refine ⟨(Z.setCell ⟨b + 1, 0, none⟩ (.int .i64 i')).setCell ⟨b + 1 + 1, 0, none⟩ (.int .i64 e'), Lib.hid (by rw [HZ.out]), ⟨?_, ?_, ?_, ?_, ?_⟩, ?_, fun c hc => ?_, ?_, ?_⟩
  · exact (hm.of (s1 Z (b + 1) (.int .i64 i') b (by omega))).of (s1 _ (b + 1 + 1) _ b (by omega))
  · exact set_other (set_same ((cell_of_blk (r2 (b + 1) (by omega))).trans r.c1)) (by simp)
  · rw [World.frozen?_setCell, World.frozen?_setCell]; exact (frozen_of_blk (r2 (b + 1) (by omega))).trans r.f1
  · exact set_same (set_other ((cell_of_blk (r2 (b + 1 + 1) (by omega))).trans r.c2) (by simp))
  · rw [World.frozen?_setCell, World.frozen?_setCell]; exact (frozen_of_blk (r2 (b + 1 + 1) (by omega))).trans r.f2
  · exact (hb.setCell (p := ⟨b + 1, 0, none⟩) (by show b ≤ b + 1; omega) _).setCell (p := ⟨b + 1 + 1, 0, none⟩) (by show b ≤ b + 1 + 1; omega) _
  · rw [s1 _ (b + 1 + 1) _ c (by omega), s1 _ (b + 1) _ c (by omega), r2 c (by omega)]
  · rw [← HZ.out]
    exact ((((((KeepsOthers.setCell _ _ _).trans (KeepsOthers.setCell _ _ _)).trans (KeepsOthers.setCell _ _ _)).trans (KeepsOthers.setCell _ _ _)).trans (KeepsOthers.setCell _ _ _)).trans (KeepsOthers.setCell _ _ _)).trans (KeepsOthers.setCell _ _ _)
  · rw [set_size, set_size, hs]
/-- What readMessage holds between two lines. -/
structure RMv (W : World) (b : Nat) (x : RS) (v : Value) : Prop where
  r : Res5 W b zeroHead (.slice none 0 0) 0 0
  m : MB W (b + 1 + 1 + 1) x.h v
  a : W.cell? ⟨b + 1 + 1 + 1 + 1, 0, none⟩ = some (.int .i64 x.at_)
  fa : W.frozen? ⟨b + 1 + 1 + 1 + 1, 0, none⟩ = false
  e : W.cell? ⟨b + 1 + 1 + 1 + 1 + 1, 0, none⟩ = some (.bool x.ended)
  fe : W.frozen? ⟨b + 1 + 1 + 1 + 1 + 1, 0, none⟩ = false
theorem RMv.of {X Y : World} {b : Nat} {x : RS} {v : Value} (h : RMv X b x v) (hk : ∀ c, c ≤ b + 5 → Y.heap[c]? = X.heap[c]?) : RMv Y b x v :=
  ⟨h.r.of (fun c hc => hk c (by omega)), h.m.of (hk _ (by omega)), (cell_of_blk (hk _ (by omega))).trans h.a, (frozen_of_blk (hk _ (by omega))).trans h.fa, (cell_of_blk (hk _ (by omega))).trans h.e, (frozen_of_blk (hk _ (by omega))).trans h.fe⟩
theorem RMv.below {X Y : World} {b : Nat} {x : RS} {v : Value} (h : RMv X b x v) (hb : Below X.heap.size X Y) : RMv Y b x v :=
  h.of fun c hc => hb.block c (by have h5 : b + 1 + 1 + 1 + 1 + 1 < X.heap.size := cell_in h.e; omega)
theorem rm_new (w : World) : ∃ V, Hid ((((((w.alloc (.cells #[.string ⟨#[]⟩, .string ⟨#[]⟩, .string ⟨#[]⟩, .int .i64 0, .slice none 0 0] 25)).alloc (.cells #[.int .i64 0] 3)).alloc (.cells #[.int .i64 0] 26)).alloc (.cells #[.string ⟨#[]⟩, .string ⟨#[]⟩, .string ⟨#[]⟩, .int .i64 0, .slice none 0 0] 25)).alloc (.cells #[.int .i64 0] 3)).alloc (.cells #[.bool false] 4) = V) ∧ RMv V w.heap.size zeroRS (.slice none 0 0) ∧ Below w.heap.size w V ∧ V.heap.size = w.heap.size + 6 := by
  refine ⟨_, Lib.hid rfl, ?_, ?_, ?_⟩
  · have h1 := MB.new w zeroHead (.slice none 0 0) 25
    have hs1 := World.size_alloc w (.cells (zeroHead.cells (.slice none 0 0)) 25)
    show RMv ((((((w.alloc (.cells (zeroHead.cells (.slice none 0 0)) 25)).alloc _).alloc _).alloc (.cells (zeroHead.cells (.slice none 0 0)) 25)).alloc _).alloc _) _ _ _
    generalize w.alloc (.cells (zeroHead.cells (.slice none 0 0)) 25) = W1 at *
    have R2 := RowV.new W1 [.int .i64 0] 3
    have hs2 := World.size_alloc W1 (.cells #[.int .i64 0] 3)
    have b2 := below_alloc W1 (.cells #[.int .i64 0] 3)
    change RowV _ _ _ _ W1 (W1.alloc (.cells #[.int .i64 0] 3)) at R2
    generalize W1.alloc (.cells #[.int .i64 0] 3) = W2 at *
    have R3 := RowV.new W2 [.int .i64 0] 26
    have hs3 := World.size_alloc W2 (.cells #[.int .i64 0] 26)
    have b3 := below_alloc W2 (.cells #[.int .i64 0] 26)
    change RowV _ _ _ _ W2 (W2.alloc (.cells #[.int .i64 0] 26)) at R3
    generalize W2.alloc (.cells #[.int .i64 0] 26) = W3 at *
    have h4 := MB.new W3 zeroHead (.slice none 0 0) 25
    have hs4 := World.size_alloc W3 (.cells (zeroHead.cells (.slice none 0 0)) 25)
    have b4 := below_alloc W3 (.cells (zeroHead.cells (.slice none 0 0)) 25)
    generalize W3.alloc (.cells (zeroHead.cells (.slice none 0 0)) 25) = W4 at *
    have R5 := RowV.new W4 [.int .i64 0] 3
    have hs5 := World.size_alloc W4 (.cells #[.int .i64 0] 3)
    have b5 := below_alloc W4 (.cells #[.int .i64 0] 3)
    change RowV _ _ _ _ W4 (W4.alloc (.cells #[.int .i64 0] 3)) at R5
    generalize W4.alloc (.cells #[.int .i64 0] 3) = W5 at *
    have R6 := RowV.new W5 [.bool false] 4
    have b6 := below_alloc W5 (.cells #[.bool false] 4)
    change RowV _ _ _ _ W5 (W5.alloc (.cells #[.bool false] 4)) at R6
    generalize W5.alloc (.cells #[.bool false] 4) = W6 at *
    have k5 := b_then b5 b6
    have k4 := b_then b4 k5
    have k3 := b_then b3 k4
    have k2 := b_then b2 k3
    have c2 := R2.c 0 (Nat.lt_succ_self 0)
    have f2 := R2.f 0 (Nat.lt_succ_self 0)
    have c3 := R3.c 0 (Nat.lt_succ_self 0)
    have f3 := R3.f 0 (Nat.lt_succ_self 0)
    have c5 := R5.c 0 (Nat.lt_succ_self 0)
    have f5 := R5.f 0 (Nat.lt_succ_self 0)
    have c6 := R6.c 0 (Nat.lt_succ_self 0)
    have f6 := R6.f 0 (Nat.lt_succ_self 0)
    have q1 := hs1
    have q2 := hs2.trans (congrArg (· + 1) q1)
    have q3 := hs3.trans (congrArg (· + 1) q2)
    have q4 := hs4.trans (congrArg (· + 1) q3)
    have q5 := hs5.trans (congrArg (· + 1) q4)
    have m4 := h4.below k5
    have u2 := b_old k3 c2
    have v2 := b_frozen k3 c2 f2
    have u3 := b_old k4 c3
    have v3 := b_frozen k4 c3 f3
    have u5 := b_old b6 c5
    have v5 := b_frozen b6 c5 f5
    rw [q1] at u2 v2
    rw [q2] at u3 v3
    rw [q3] at m4
    rw [q4] at u5 v5
    rw [q5] at c6 f6
    exact ⟨⟨h1.below k2, u2, v2, u3, v3⟩, m4, u5, v5, c6, f6⟩
  · exact b_then (b_then (b_then (b_then (b_then (below_alloc _ _) (below_alloc _ _)) (below_alloc _ _)) (below_alloc _ _)) (below_alloc _ _)) (below_alloc _ _)
  · simp
theorem hset {X : World} {k o : Nat} {u : Value} {c : Nat} (h : c ≠ k) : (X.setCell ⟨k, o, none⟩ u).heap[c]? = X.heap[c]? := Below.heap_setCell _ _ _ _ (fun e => h (by rw [e]))
theorem RMv.setAt {X : World} {b : Nat} {x : RS} {v : Value} (h : RMv X b x v) (k : Nat) (L : List LineV) : RMv (X.setCell ⟨b + 1 + 1 + 1 + 1, 0, none⟩ (.int .i64 k)) b ⟨x.h, L, k, x.ended⟩ v :=
  ⟨h.r.of (fun c hc => hset (by omega)), h.m.of (hset (by omega)), set_same h.a, by rw [World.frozen?_setCell]; exact h.fa, set_other h.e (by simp), by rw [World.frozen?_setCell]; exact h.fe⟩
theorem RMv.setEn {X : World} {b : Nat} {x : RS} {v : Value} (h : RMv X b x v) (k : Bool) : RMv (X.setCell ⟨b + 1 + 1 + 1 + 1 + 1, 0, none⟩ (.bool k)) b ⟨x.h, x.L, x.at_, k⟩ v :=
  ⟨h.r.of (fun c hc => hset (by omega)), h.m.of (hset (by omega)), set_other h.a (by simp), by rw [World.frozen?_setCell]; exact h.fa, set_same h.e, by rw [World.frozen?_setCell]; exact h.fe⟩
theorem RMv.setLn {X : World} {b : Nat} {x : RS} {v : Value} (h : RMv X b x v) (v' : Value) (L : List LineV) : RMv (X.setCell ⟨b + 1 + 1 + 1, 4, none⟩ v') b ⟨x.h, L, x.at_, x.ended⟩ v' :=
  ⟨h.r.of (fun c hc => hset (by omega)), h.m.set4 v', set_other h.a (by simp), by rw [World.frozen?_setCell]; exact h.fa, set_other h.e (by simp), by rw [World.frozen?_setCell]; exact h.fe⟩
theorem RMv.putM {X w : World} {b : Nat} {x : RS} {v : Value} (h : RMv X b x v) (h' : HeadV) (a0 a1 a2 a3 a4 : Value) (v' : Value) (ha : h'.cells v' = #[a0, a1, a2, a3, a4]) (L : List LineV) (hB : Below b w X) :
    ∃ Y, Hid (((((X.setCell ⟨b + 1 + 1 + 1, 0, none⟩ a0).setCell ⟨b + 1 + 1 + 1, 1, none⟩ a1).setCell ⟨b + 1 + 1 + 1, 2, none⟩ a2).setCell ⟨b + 1 + 1 + 1, 3, none⟩ a3).setCell ⟨b + 1 + 1 + 1, 4, none⟩ a4 = Y) ∧ RMv Y b ⟨h', L, x.at_, x.ended⟩ v' ∧ Below b w Y ∧ (∀ c, c ≠ b + 1 + 1 + 1 → Y.heap[c]? = X.heap[c]?) ∧ KeepsOthers X Y ∧ Y.heap.size = X.heap.size := by
  obtain ⟨Y, HY, hm, hb, hk, hs⟩ := put5 h.m h' a0 a1 a2 a3 a4 v' ha (show b ≤ b + 1 + 1 + 1 by omega) hB
  refine ⟨Y, HY, ⟨h.r.of (fun c hc => hk c (by omega)), hm, (cell_of_blk (hk _ (by omega))).trans h.a, (frozen_of_blk (hk _ (by omega))).trans h.fa, (cell_of_blk (hk _ (by omega))).trans h.e, (frozen_of_blk (hk _ (by omega))).trans h.fe⟩, hb, hk, ?_, hs⟩
  rw [← HY.out]
  exact ((((KeepsOthers.setCell _ _ _).trans (KeepsOthers.setCell _ _ _)).trans (KeepsOthers.setCell _ _ _)).trans (KeepsOthers.setCell _ _ _)).trans (KeepsOthers.setCell _ _ _)
theorem own_cells {X : World} {base : Nat} {e : TypeId} {size : Nat} {v : Value} {n : Nat} {xs : List Value} (h : X.ownsRow base e size v n xs) {j : Nat} {o : Obj} (hj : v.ownBlock = some j) (ho : X.heap[j]? = some o) : o.isCells = true := by
  rcases h.2 with ⟨rfl, _⟩ | ⟨g, cap, cur, rfl, hgb, hcell, _⟩
  · cases hj
  · obtain rfl : g = j := by simpa [Value.ownBlock] using hj
    rw [hcell] at ho
    cases ho
    rfl
theorem own_of {X Y : World} {base : Nat} {e : TypeId} {size : Nat} {v : Value} {n : Nat} {xs : List Value} (h : X.ownsRow base e size v n xs) (hk : ∀ c, base ≤ c → Y.heap[c]? = X.heap[c]?) : Y.ownsRow base e size v n xs := by
  refine ⟨h.1, ?_⟩
  rcases h.2 with hn | ⟨g, cap, cur, hv, h1, hcell, rest⟩
  · exact .inl hn
  · exact .inr ⟨g, cap, cur, hv, h1, (hk g h1).trans hcell, rest⟩
/-- The state between two lines, with all that is kept beside it. -/
def RMI (w : World) (b : Nat) (L : List ByteArray) (W : World) : Prop :=
  ∃ x v, OkM L x ∧ x.at_ = L.length ∧ x.L.length ≤ L.length ∧ SzL x.L ∧ RMv W b x v ∧ W.ownsRow (b + 7) 88 14 v x.L.length (flatG LineV.cells x.L) ∧ Below b w W ∧ b + 6 < W.heap.size
theorem own_box {X Y : World} {row : Option Nat} {Bn B base : Nat} {e : TypeId} {size : Nat} {v : Value} {n : Nat} {xs : List Value} (h : X.ownsRow base e size v n xs) (hg : X.grownBy Y row) (hb : Bn < base)
    (hr : ∀ r, row = some r → r = Bn ∨ (B ≤ r ∧ ∃ o : Obj, X.heap[r]? = some o ∧ o.isCells = false)) : Y.ownsRow base e size v n xs := by
  refine h.kept hg ?_
  rcases h.2 with ⟨rfl, _⟩ | ⟨g, cap, cur, rfl, hgb, hcell, _⟩
  · exact .inl rfl
  · refine .inr fun e' => ?_
    have hgr : row = some g := by rw [← e']; rfl
    rcases hr g hgr with h1 | ⟨_, o, ho, hc⟩
    · omega
    · rw [hcell] at ho
      cases ho
      cases hc
theorem rmi_box (w : World) (b : Nat) {β : Type} (T : β → List ByteArray) : OwnBox (b + 6) (b + 7) (fun p W => RMI w b (T p) W) := by
  rintro p X Y row ⟨x, v, h1, h2, h3, h4, hv, hown, hB, hz⟩ hg hr
  have hk : ∀ c, c ≤ b + 5 → Y.heap[c]? = X.heap[c]? := fun c hc => hg.block c (by omega) (fun e => by rcases hr c e.symm with h | ⟨h, _⟩ <;> omega)
  exact ⟨x, v, h1, h2, h3, h4, hv.of hk, own_box hown hg (by omega) hr, hB.grown hg (by omega) (fun r e => by rcases hr r e with h | ⟨h, _⟩ <;> omega), by have := hg.size; omega⟩
/-- The state at a line that is wrong. -/
def RMX (w : World) (b : Nat) (L : List ByteArray) (t : ByteArray) (W : World) : Prop :=
  ∃ x, OkM L x ∧ x.at_ = L.length ∧ (stepM x t).2 ≠ 0 ∧ Res5 W b zeroHead (.slice none 0 0) (x.at_ : Int) (stepM x t).2 ∧ Below b w W ∧ b + 6 < W.heap.size
theorem rmx_box (w : World) (b : Nat) {β : Type} (C : β → Prop) (T : β → List ByteArray × ByteArray → Prop) : OwnBox (b + 6) (b + 7) (fun p W => C p ∧ ∃ y, T p y ∧ RMX w b y.1 y.2 W) := by
  rintro p X Y row ⟨hc, y, hy, x, h1, h2, h3, hv, hB, hz⟩ hg hr
  have hk : ∀ c, c ≤ b + 5 → Y.heap[c]? = X.heap[c]? := fun c hc => hg.block c (by omega) (fun e => by rcases hr c e.symm with h | ⟨h, _⟩ <;> omega)
  exact ⟨hc, y, hy, x, h1, h2, h3, hv.of (fun c hc => hk c (by omega)), hB.grown hg (by omega) (fun r e => by rcases hr r e with h | ⟨h, _⟩ <;> omega), by have := hg.size; omega⟩
/-- What readMessage hands back. -/
structure RMO (N : Nat) (e : Ending) (w' : World) (r : RS × Int × Int) : Prop where
  ex : ∃ h A n c, e = .returned (.tuple #[.agg (h.cells (.slice A n c)), .int .i64 r.2.1, .int .i64 r.2.2]) ∧ (r.2.2 = 0 → h = r.1.h ∧ SzL r.1.L ∧ r.1.L.length ≤ 20000 ∧ w'.ownsRow N 88 14 (.slice A n c) r.1.L.length (flatG LineV.cells r.1.L))
theorem fin_texts (l : List ByteArray) : (List.finRange l.length).map (fun x : Fin l.length => l.getD x.1 default) = l := by
  apply List.ext_getElem (by simp)
  intro i h1 h2
  simp [List.getD_eq_getElem?_getD]
theorem fin_split (l : List ByteArray) {p : List (Fin l.length)} {x : Fin l.length} (h : p ++ [x] <+: List.finRange l.length) : ∃ ts, l = (p.map fun x : Fin l.length => l.getD x.1 default) ++ l.getD x.1 default :: ts := by
  obtain ⟨q, hq⟩ := h
  refine ⟨q.map fun x : Fin l.length => l.getD x.1 default, ?_⟩
  have e := fin_texts l
  rw [← hq] at e
  simpa using e.symm
theorem step_at {x : RS} {t : ByteArray} (h : (stepM x t).2 = 0) : (stepM x t).1.at_ = x.at_ + 1 := by
  unfold stepM at h ⊢
  split
  · rename_i h1; rw [if_pos h1] at h; exact absurd h (show ¬ (25 : Int) = 0 by decide)
  · split
    · rfl
    · split <;> rfl
end Go.Proofs.YtphoclgibnhjfaaGreat
