
/- Contracts of check.List, check.Named at requests: message.checkRequests. -/
import Derived.Test.YtnakmgeompjhpaaGreatNamed
import Derived.OwnWalk
namespace Go.Proofs.YtnakmgeompjhpaaGreat
open Go Go.RowKit Go.ChangeMaps Go.MapKept
theorem store_func (w : World) (a : Addr) (m : Mode) (fn : Fn) (first captured : Array Value) : (store a (.func fn first captured) m).run Tryz.prog w = stored Tryz.prog w a (.func fn first captured) m := run_store Tryz.prog w a _ m rfl
instance : Inhabited ReqV := ⟨⟨ByteArray.empty, ByteArray.empty, ByteArray.empty, ByteArray.empty, ByteArray.empty, ByteArray.empty, 0, 0, 0, 0, 0, 0, 0⟩⟩
/-- The cells of a slice of requests. -/
structure RqsAt (w : World) (b off : Nat) (l : List ReqV) : Prop where
  c : ∀ k, k < l.length → ∀ t v, (l.getD k default).cells[t]? = some v → w.cell? ⟨b, off + k * 13 + t, none⟩ = some v
theorem RqsAt.below {w w' : World} {b off : Nat} {l : List ReqV} (h : RqsAt w b off l) (hb : Below w.heap.size w w') : RqsAt w' b off l := ⟨fun k hk t v hv => b_old hb (h.c k hk t v hv)⟩
theorem RqsAt.grown {w w' : World} {b off : Nat} {l : List ReqV} {r : Nat} (h : RqsAt w b off l) (hg : w.grownBy w' (some r)) (hne : b ≠ r) : RqsAt w' b off l := ⟨fun k hk t v hv => gb_cell hg (h.c k hk t v hv) hne⟩
theorem RqsAt.row {w : World} {b off : Nat} {l : List ReqV} (h : RqsAt w b off l) {k : Nat} (hk : k < l.length) {q : ReqV} (hq : l.getD k default = q) :
    w.cell? ⟨b, off + k * 13, none⟩ = some (.string q.name) ∧ w.cell? ⟨b, off + k * 13 + 1, none⟩ = some (.string q.carrier) ∧ w.cell? ⟨b, off + k * 13 + 2, none⟩ = some (.string q.kind) ∧ w.cell? ⟨b, off + k * 13 + 3, none⟩ = some (.string q.terminal) ∧ w.cell? ⟨b, off + k * 13 + 4, none⟩ = some (.string q.partner) ∧ w.cell? ⟨b, off + k * 13 + 5, none⟩ = some (.string q.link) ∧ w.cell? ⟨b, off + k * 13 + 6, none⟩ = some (.int .i64 q.from_) ∧ w.cell? ⟨b, off + k * 13 + 7, none⟩ = some (.int .i64 q.to) ∧ w.cell? ⟨b, off + k * 13 + 8, none⟩ = some (.int .i64 q.days) ∧ w.cell? ⟨b, off + k * 13 + 9, none⟩ = some (.int .i64 q.minute) ∧ w.cell? ⟨b, off + k * 13 + 10, none⟩ = some (.int .i64 q.seats) ∧ w.cell? ⟨b, off + k * 13 + 11, none⟩ = some (.int .i64 q.size) ∧ w.cell? ⟨b, off + k * 13 + 12, none⟩ = some (.int .i64 q.noise) := by
  subst hq
  exact ⟨h.c k hk 0 _ rfl, h.c k hk 1 _ rfl, h.c k hk 2 _ rfl, h.c k hk 3 _ rfl, h.c k hk 4 _ rfl, h.c k hk 5 _ rfl, h.c k hk 6 _ rfl, h.c k hk 7 _ rfl, h.c k hk 8 _ rfl, h.c k hk 9 _ rfl, h.c k hk 10 _ rfl, h.c k hk 11 _ rfl, h.c k hk 12 _ rfl⟩
theorem NamedW.grown {w w' : World} {c1 c2 c3 cm m n n' : Nat} {S S' : ByteArray → Bool} (h : NamedW w c1 c2 c3 cm m n S) (hg : w.grownBy w' (some m)) (hS : SeenM w' m n' S') : NamedW w' c1 c2 c3 cm m n' S' :=
  ⟨gb_cell hg h.f1 h.n1, gb_cell hg h.f2 h.n2, gb_cell hg h.f3 h.n3, gb_cell hg h.f4 h.n4, hS, h.n1, h.n2, h.n3, h.n4⟩
theorem NamedW.below {w w' : World} {c1 c2 c3 cm m n : Nat} {S : ByteArray → Bool} (h : NamedW w c1 c2 c3 cm m n S) (hb : Below w.heap.size w w') : NamedW w' c1 c2 c3 cm m n S :=
  h.grown (gb_but (grown_below hb) _) (h.seen.below hb)
/-- The first error of requests, with the names that were seen before them. -/
def namedErr : List ReqV → (ByteArray → Bool) → Int
  | [], _ => 0
  | q :: r, S => if fst [reqErr q, unl (!(S q.name)) 9] ≠ 0 then fst [reqErr q, unl (!(S q.name)) 9] else namedErr r (onceStep S q.name)
theorem namedErr_drop (l : List ReqV) (k : Nat) (h : k < l.length) (S : ByteArray → Bool) (q : ReqV) (hq : l.getD k default = q) :
    namedErr (l.drop k) S = if fst [reqErr q, unl (!(S q.name)) 9] ≠ 0 then fst [reqErr q, unl (!(S q.name)) 9] else namedErr (l.drop (k + 1)) (onceStep S q.name) := by
  subst hq
  rw [List.drop_eq_getElem_cons h]
  simp only [List.getD_eq_getElem?_getD, List.getElem?_eq_getElem h, Option.getD_some]
  rfl
theorem reqList_many (A : Option Addr) (n cap : Nat) (most : Int) (f : Value) (w : World) (h : most < (n : Int)) :
    Calls Tryz.prog 125 #[.slice A n cap, .int .i64 most, f] w fun e w' => e = .returned (.int .i64 5) ∧ w' = w := by
  go_enter Tryz.func125, Tryz.ntmps125
  go_wp2_with fail
  go_ret
  exact ⟨rfl, rfl⟩
set_option maxRecDepth 100000 in
set_option maxHeartbeats 2000000 in
theorem reqList_any (c1 c2 c3 cm m : Nat) (S : ByteArray → Bool) (l : List ReqV) (b off cap : Nat) (most : Int) (w : World) (h : NamedW w c1 c2 c3 cm m 0 S) (hl : RqsAt w b off l) (hbm : b ≠ m) (hn : (l.length : Int) ≤ most) (hm : most ≤ 900)
    (hs : ∀ k, k < l.length → (l.getD k default).name.size ≤ maxLen) :
    Calls Tryz.prog 125 #[.slice (some ⟨b, off, none⟩) l.length cap, .int .i64 most, .func (.func 126) #[] #[.pointer (some ⟨c1, 0, none⟩), .pointer (some ⟨c2, 0, none⟩), .pointer (some ⟨c3, 0, none⟩)]] w
      fun e w' => e = .returned (.int .i64 (namedErr l S)) ∧ w.grownBy w' (some m) := by
  have hgt : ¬ (most < (l.length : Int)) := by omega
  have HN := Lib.hid h
  have HL := Lib.hid hl
  have HS := Lib.hid hs
  clear h hl hs
  have hlen : l.length ≤ 900 := by omega
  go_enter Tryz.func125, Tryz.ntmps125
  go_wp2_with fail
  go_loopw [16] (fun i wr => ∃ (k : Nat) (T : ByteArray → Bool), k ≤ l.length ∧ i = .int .i64 k ∧ Hid (namedErr l S = namedErr (l.drop k) T) ∧ Hid (NamedW wr c1 c2 c3 cm m k T) ∧ Hid (RqsAt wr b off l) ∧ Hid (w.grownBy wr (some m))) (fun i _ => l.length - (intOf i).toNat)
  case atStart => exact ⟨0, S, Nat.zero_le _, rfl, Lib.hid (by simp), HN, HL, Lib.hid (World.grownBy.refl _ _)⟩
  case round =>
    obtain ⟨k, T, hk, rfl, HF, HNW, HQ, HG⟩ := hrel
    by_cases hlt : k < l.length
    · have hd := namedErr_drop l k hlt T _ rfl
      have hsz := HS.out k hlt
      have hrow := HQ.out.row hlt rfl
      generalize l.getD k default = q at hd hsz hrow
      have hcall : ∀ w1 : World, NamedW w1 c1 c2 c3 cm m k T → Calls Tryz.prog 126 #[.agg q.cells, .pointer (some ⟨c1, 0, none⟩), .pointer (some ⟨c2, 0, none⟩), .pointer (some ⟨c3, 0, none⟩)] w1
          fun e w' => e = .returned (.int .i64 (fst [reqErr q, unl (!(T q.name)) 9])) ∧ SeenM w' m (k + 1) (onceStep T q.name) ∧ w1.grownBy w' (some m) := fun w1 h1 => named1_any c1 c2 c3 cm m k T q w1 h1 hsz (by omega)
      generalize fst [reqErr q, unl (!(T q.name)) 9] = e at hd hcall
      generalize onceStep T q.name = T' at hd hcall
      have HD := Lib.hid hd
      clear hd
      obtain ⟨qa, qb, qc, qd, qe, qf, qg, qh, qi, qj, qk, ql, qm⟩ := q
      dsimp only [ReqV.cells] at hcall hrow
      obtain ⟨x0, x1, x2, x3, x4, x5, x6, x7, x8, x9, x10, x11, x12⟩ := hrow
      go_wp2_with fail
      refine (hcall _ (HNW.out.below (below_alloc _ _))).mono ?_
      rintro e1 w1 ⟨rfl, hS1, hg1⟩
      have HN1 : Hid (NamedW w1 c1 c2 c3 cm m (k + 1) T') := Lib.hid ((HNW.out.below (below_alloc _ _)).grown hg1 hS1)
      have hg2 : wr.grownBy w1 (some m) := gb_trans (gb_but (grown_below (below_alloc _ _)) _) hg1
      have HG1 : Hid (w.grownBy w1 (some m)) := Lib.hid (gb_trans HG.out hg2)
      have HQ1 : Hid (RqsAt w1 b off l) := Lib.hid (HQ.out.grown hg2 hbm)
      clear x0 x1 x2 x3 x4 x5 x6 x7 x8 x9 x10 x11 x12 hg1 hg2 hS1 hcall
      by_cases he : e = 0
      · subst he
        go_wp2_with fail
        go_round
        case rel => exact ⟨k + 1, T', by omega, by go_num, Lib.hid (by rw [HF.out, HD.out, if_neg (by simp)]), HN1, HQ1, HG1⟩
        case measure => simp [intOf]; omega
      · have hb : (e != 0) = true := by simpa using he
        have HE := Lib.hid (show namedErr l S = e by rw [HF.out, HD.out, if_pos he])
        clear he
        go_wp2_with fail
        go_ret
        exact ⟨by rw [HE.out]; rfl, HG1.out⟩
    · have HE := Lib.hid (show namedErr l S = 0 by rw [HF.out, List.drop_of_length_le (by omega)]; rfl)
      go_wp2_with fail
      go_ret
      exact ⟨by rw [HE.out]; rfl, HG.out⟩
set_option maxRecDepth 100000 in
set_option maxHeartbeats 2000000 in
theorem reqNamed_any (l : List ReqV) (b off cap : Nat) (most : Int) (w : World) (hl : RqsAt w b off l) (hbs : b < w.heap.size) (hn : (l.length : Int) ≤ most) (hm : most ≤ 900)
    (hs : ∀ k, k < l.length → (l.getD k default).name.size ≤ maxLen) :
    Calls Tryz.prog 70 #[.slice (some ⟨b, off, none⟩) l.length cap, .int .i64 most, .func (.func 71) #[] #[], .func (.func 11) #[] #[]] w
      fun e w' => e = .returned (.int .i64 (namedErr l fun _ => false)) ∧ Below w.heap.size w w' := by
  have HL := Lib.hid hl
  have HS := Lib.hid hs
  clear hl hs
  go_enter Tryz.func70, Tryz.ntmps70
  go_wp2_with fail
  obtain ⟨W2, HW2, hb2, hs2, x0, x1⟩ : ∃ W2, (w.alloc (.cells #[.func (.func 71) #[] #[]] 126)).alloc (.cells #[.func (.func 11) #[] #[]] 38) = W2 ∧
      Below w.heap.size w W2 ∧ W2.heap.size = w.heap.size + 2 ∧ W2.cell? ⟨w.heap.size, 0, none⟩ = some (.func (.func 71) #[] #[]) ∧ W2.cell? ⟨w.heap.size + 1, 0, none⟩ = some (.func (.func 11) #[] #[]) :=
    ⟨_, rfl, below_alloc2 _ _ _, by simp, b_old (below_alloc _ _) (cell_fresh w [_] _ 0 _ rfl), by have := cell_fresh (w.alloc (.cells #[.func (.func 71) #[] #[]] 126)) [.func (.func 11) #[] #[]] 38 0 (.func (.func 11) #[] #[]) rfl; rw [show (w.alloc (.cells #[.func (.func 71) #[] #[]] 126)).heap.size = w.heap.size + 1 by simp] at this; exact this⟩
  rw [HW2]
  clear HW2
  have hon := Once_new W2
  rw [hs2] at hon
  refine hon.mono ?_
  rintro e1 w1 ⟨rfl, hS1, hcm, hb1, hs1⟩
  clear hon
  have hB1 : Below w.heap.size w w1 := hb2.trans (hb1.mono (by omega))
  have y0 := b_keep hb1 (show w.heap.size < w.heap.size + 2 by omega) x0
  have y1 := b_keep hb1 (show w.heap.size + 1 < w.heap.size + 2 by omega) x1
  have HS1 := Lib.hid hs1
  have hsf := store_func
  clear x0 x1 hb1 hb2 hs1
  go_wp2_with fail
  have hs1 := HS1.out
  have hb3 := below_alloc w1 (.cells #[.func (.func 150) #[] #[.pointer (some ⟨w.heap.size + 2 + 1, 0, none⟩)]] 80)
  have hNW : NamedW (w1.alloc (.cells #[.func (.func 150) #[] #[.pointer (some ⟨w.heap.size + 2 + 1, 0, none⟩)]] 80)) (w.heap.size + 1) w1.heap.size w.heap.size (w.heap.size + 2 + 1) (w.heap.size + 2) 0 (fun _ => false) :=
    ⟨b_old hb3 y1, cell_fresh w1 [_] _ 0 _ rfl, b_old hb3 y0, b_old hb3 hcm, hS1.below hb3, by omega, by omega, by omega, by omega⟩
  have hB3 := hB1.trans (hb3.mono (by omega))
  refine (reqList_any _ _ _ _ _ _ l b off cap most _ hNW (HL.out.below hB3) (by omega) hn hm HS.out).mono ?_
  rintro e2 w2 ⟨rfl, hg⟩
  have hB := hB3.grown hg (by simp; omega) (by rintro k ⟨⟩; omega)
  clear hNW hg hb3
  go_wp2_with fail
  go_ret
  exact ⟨rfl, hB⟩
set_option maxRecDepth 100000 in
theorem reqNamed_many (A : Option Addr) (n cap : Nat) (most : Int) (w : World) (h : most < (n : Int)) :
    Calls Tryz.prog 70 #[.slice A n cap, .int .i64 most, .func (.func 71) #[] #[], .func (.func 11) #[] #[]] w
      fun e w' => e = .returned (.int .i64 5) ∧ Below w.heap.size w w' := by
  go_enter Tryz.func70, Tryz.ntmps70
  go_wp2_with fail
  obtain ⟨W2, HW2, hb2⟩ : ∃ W2, (w.alloc (.cells #[.func (.func 71) #[] #[]] 126)).alloc (.cells #[.func (.func 11) #[] #[]] 38) = W2 ∧
      Below w.heap.size w W2 := ⟨_, rfl, below_alloc2 _ _ _⟩
  rw [HW2]
  clear HW2
  refine (Once_new W2).mono ?_
  rintro e1 w1 ⟨rfl, hS1, hcm, hb1, hs1⟩
  have hB1 := b_then hb2 hb1
  have hsf := store_func
  clear hS1 hcm hb1 hb2 hs1
  go_wp2_with fail
  have hB3 := b_then hB1 (below_alloc w1 (.cells #[.func (.func 150) #[] #[.pointer (some ⟨W2.heap.size + 1, 0, none⟩)]] 80))
  refine (reqList_many _ _ _ _ _ _ h).mono ?_
  rintro e2 w2 ⟨rfl, rfl⟩
  go_wp2_with fail
  go_ret
  exact ⟨rfl, hB3⟩
/-- The error of requests. -/
def reqsErr (l : List ReqV) : Int := if 64 < l.length then 5 else namedErr l fun _ => false
theorem checkReqs_any (l : List ReqV) (b off cap : Nat) (w : World) (hl : RqsAt w b off l) (hbs : b < w.heap.size) (hs : ∀ k, k < l.length → (l.getD k default).name.size ≤ maxLen) :
    Calls Tryz.prog 25 #[.slice (some ⟨b, off, none⟩) l.length cap] w fun e w' => e = .returned (.int .i64 (reqsErr l)) ∧ Below w.heap.size w w' := by
  have hH : Calls Tryz.prog 70 #[.slice (some ⟨b, off, none⟩) l.length cap, .int .i64 64, .func (.func 71) #[] #[], .func (.func 11) #[] #[]] w
      fun e w' => e = .returned (.int .i64 (reqsErr l)) ∧ Below w.heap.size w w' := by
    unfold reqsErr
    by_cases h : 64 < l.length
    · rw [if_pos h]; exact reqNamed_many _ _ _ _ _ (by omega)
    · rw [if_neg h]; exact reqNamed_any l b off cap 64 w hl hbs (by omega) (by omega) hs
  generalize reqsErr l = e at *
  generalize l.length = n at *
  go_enter Tryz.func25, Tryz.ntmps25
  go_wp2_with fail
  refine hH.mono ?_
  rintro e2 w2 ⟨rfl, hb⟩
  go_wp2_with fail
  go_ret
  exact ⟨rfl, hb⟩
end Go.Proofs.YtnakmgeompjhpaaGreat
