/- A law for a loop over an iterator that writes a variable that it has captured. · Contracts of the small functions of package calendar, over any world. · Plain arithmetic of the Gregorian calendar: no program. · Contracts of the functions of package calendar that count days. · Contracts of package calendar: days of dates, Sundays, checks. · What a walk keeps: old cells, and the laid variables. · The runes of a text, one by one: a byte below 128 is a rune of its own; at any other byte the rune is 128 or more. -/
import Derived.RangeFuncNested
import Derived.RangeFuncWrites
import Derived.RangeFuncLeaves
import Derived.RangeFuncCalls
import Derived.Test.YtphoclgibnhjfaaGreatProg
import Derived.WalkKit
import Derived.IntWalk
import Derived.Outline
import Derived.Lib.Hide
import Derived.LoopTactic
import Derived.Deep.QuietTactic
import Derived.BigQuiet
import Derived.StillTailTactics
import Derived.KernelRfl
import Derived.Below
import Derived.Deep.DeepFit
import Derived.Laws.RangeString
import Derived.Laws.RangeAny
import Derived.Lib.OthersKept
namespace Go.Proofs.YtphoclgibnhjfaaGreat
open Go Go.RowKit
variable {F : Fence} {n : Nat} {P : Program}
/-- A block lies as it lay, in a world that has grown. -/
def KpZ (Bn : Nat) (W W' : World) : Prop := W'.heap[Bn]? = W.heap[Bn]? ∧ W.heap.size ≤ W'.heap.size
/-- What does not mind the iterator's own steps: it may write its block Bn. -/
def AbidesBox {β : Type} (Bn B : Nat) (J : β → World → Prop) : Prop :=
  ∀ s W W' row, J s W → W.grownBy W' row → (∀ r, row = some r → r = Bn ∨ (B ≤ r ∧ ∃ o : Obj, W.heap[r]? = some o ∧ o.isWalk = true)) → J s W'
/-- What does not mind these, nor what the loop itself writes. -/
def OwnBox {β : Type} (Bn B : Nat) (I : β → World → Prop) : Prop :=
  ∀ s W W' row, I s W → W.grownBy W' row → (∀ r, row = some r → r = Bn ∨ (B ≤ r ∧ ∃ o : Obj, W.heap[r]? = some o ∧ o.isCells = false)) → I s W'
theorem OwnBox.putObj {β : Type} {Bn B : Nat} {I : β → World → Prop} (h : OwnBox Bn B I) {s : β} {W : World} {l : Nat} {o : Obj} (o' : Obj) (hs : I s W) (hB : B ≤ l) (hl : W.heap[l]? = some o) (ho : o.isCells = false) : I s (W.putObj l o') :=
  h s W _ (some l) hs (grownBy_putObj' W l o') (fun r e => by cases e; exact .inr ⟨hB, o, hl, ho⟩)
theorem OwnBox.alloc {β : Type} {Bn B : Nat} {I : β → World → Prop} (h : OwnBox Bn B I) {s : β} {W : World} (o : Obj) (hs : I s W) : I s (W.alloc o) :=
  h s W _ none hs (World.grownBy_alloc W o none) (fun r e => by cases e)
/-- The contract of such an iterator. -/
def SeqBox {α : Type} (F : Fence) (n : Nat) (P : Program) (g : Nat) (lb : Array Value) (encs : α → Array Value) (Kp : World → World → Prop) (S Sp : List α → Prop) (N Bn : Nat) (w : World) : Prop :=
  ∀ (l : Nat) (J Jx : List α → World → Prop) (W : World), KpZ Bn w W → AbidesBox Bn W.heap.size J → AbidesBox Bn W.heap.size Jx →
    (∀ pre x W1, J pre W1 → pre.length < N → YieldAt F (n - 1) P l (encs x) W1 fun e W' =>
      (e = .returned (.bool true) ∧ J (pre ++ [x]) W' ∧ Kp W1 W') ∨ (e = .returned (.bool false) ∧ Jx (pre ++ [x]) W')) →
    J [] W →
    CallsIn F n P g (#[.func (.yield l) #[] #[]] ++ lb) W fun e W' => (∃ v, e = .returned v) ∧ ((∃ xs, S xs ∧ J xs W') ∨ (∃ pre, Sp pre ∧ Jx pre W'))
theorem wpIn_rangeFunc_box {α : Type} {g : Operand} {ps : Array Tmp} {assign body : Code} {Q : Exit → Act → World → Prop} {a : Act} {w : World}
    (hro : F.round = none) (h1 : 1 ≤ n) {gf : Nat} {lb : Array Value} (hg : a.eval g = .func (.func gf) #[] lb) (hFg : F.fn gf) (eg : ∀ args w, (callFunc gf args).run P w = .ok (.enter gf args) w)
    {encs : α → Array Value} {Kp : World → World → Prop} {S Sp : List α → Prop} {N Bn : Nat} (hBn : Bn < w.heap.size) (hseq : SeqBox F (n - 1) P gf lb encs Kp S Sp N Bn w)
    (hKt : ∀ {A B C : World}, Kp A B → Kp B C → Kp A C) (hKb : ∀ (W : World) (l : Nat) (o o' : Obj), w.heap.size ≤ l → W.heap[l]? = some o → o.isCells = false → o.isWalk = false → Kp W (W.putObj l o')) (hps : ∀ x, (encs x).size = ps.size)
    (I : List α → World → Prop) (Ix : Code → List α → World → Prop) (hI : OwnBox Bn w.heap.size I) (hIx : ∀ c, OwnBox Bn w.heap.size (Ix c)) (h0 : I [] w) (a₁ : α → Act)
    (hassign : ∀ (l : Nat) (x : α) (W : World) (K : Act → World → Prop), K (a₁ x) W →
      assign.wpIn (F.inRound l) (n - 1 - 1) P (Exit.then K (fun _ _ _ => False)) { tmps := (ps.zip (encs x)).foldl (fun t (p, v) => t.setIfInBounds p v) a.tmps, defers := [] } W)
    (hbody : ∀ (l : Nat) (pre : List α) (x : α) (W : World), I pre W → pre.length < N → body.wpIn (F.inRound l) (n - 1 - 1) P (ownPostK Kp I Ix (pre ++ [x]) W) (a₁ x) W)
    (hdone : ∀ (D : Nat) (xs : List α) (W : World), w.heap.size ≤ D → S xs → I xs W → W.heap[D]? = some (.deferred (some [])) → Q .normal { a with defers := { target := .collected D, args := #[] } :: a.defers } W)
    (hstop : ∀ (D : Nat) (c : Code) (pre : List α) (W : World), w.heap.size ≤ D → Sp pre → Ix c pre W → W.heap[D]? = some (.deferred (some [])) → c.wpIn F n P Q { a with defers := { target := .collected D, args := #[] } :: a.defers } W) :
    (Code.rangeFunc g ps assign body).wpIn F n P Q a w := by
  refine wpIn_rangeFunc ?_
  intro fn hfn
  rw [hro]
  obtain ⟨rec, hrec⟩ : ∃ rec : LoopState → Option Code → Loop, rec = fun st pe => { state := st, pending := pe, fn, tmps := a.tmps, params := ps, assign, body, defers := w.heap.size } := ⟨_, rfl⟩
  obtain ⟨W1, hW1⟩ : ∃ W1, (w.alloc (.deferred (some []))).alloc (.loop (rec .ready none)) = W1 := ⟨_, rfl⟩
  have hs1 : W1.heap.size = w.heap.size + 2 := by rw [← hW1]; simp
  have hL1 : W1.heap[w.heap.size + 1]? = some (.loop (rec .ready none)) := by
    rw [← hW1]
    have e := World.alloc_heap_new (w.alloc (.deferred (some []))) (.loop (rec .ready none))
    rwa [World.size_alloc] at e
  have hK1 : W1.heap[w.heap.size]? = some (.deferred (some [])) := by
    rw [← hW1]; exact (Below.heap_alloc _ _ _ (by simp)).trans (World.alloc_heap_new w _)
  have hI1 : I [] W1 := by rw [← hW1]; exact hI.alloc _ (hI.alloc _ h0)
  have hz1 : KpZ Bn w W1 := by
    rw [← hW1]
    exact ⟨((Below.heap_alloc _ _ _ (by simp; omega)).trans (Below.heap_alloc _ _ _ hBn)), by simp; omega⟩
  refine ⟨w.heap.size + 1, [{ target := .collected w.heap.size, args := #[] }], W1, { target := .fn (.func gf) lb, args := #[.func (.yield (w.heap.size + 1)) #[] #[]] }, W1, gf,
    #[.func (.yield (w.heap.size + 1)) #[] #[]] ++ lb, W1, ?_, ?_, ?_, ?_, fun _ => h1, ?_⟩
  · rw [← hW1, hrec]; exact run_enterLoop_outer _ _ _ _ _
  · simp only [resolve, hg]
    simp [go_sem]
  · intro f' hf'; simp [Target.leads] at hf'; subst hf'; exact hFg
  · simp [invoke, go_sem, eg]
  · have hnw : ∀ {A : World} {row : Option Nat}, (∀ r, row = some r → r = Bn ∨ (W1.heap.size ≤ r ∧ ∃ o : Obj, A.heap[r]? = some o ∧ o.isWalk = true)) → (∀ r, row = some r → r = Bn ∨ (w.heap.size ≤ r ∧ ∃ o : Obj, A.heap[r]? = some o ∧ o.isCells = false)) :=
      fun hr r e => (hr r e).imp id fun ⟨hB, o, ho, hw⟩ => ⟨by omega, o, ho, Obj.not_cells_of_walk hw⟩
    have hst : ∀ {A B : World} {row : Option Nat} {k : Nat} {o : Obj}, A.grownBy B row → (∀ r, row = some r → r = Bn ∨ (W1.heap.size ≤ r ∧ ∃ o : Obj, A.heap[r]? = some o ∧ o.isWalk = true)) → w.heap.size ≤ k → k < w.heap.size + 2 → A.heap[k]? = some o → B.heap[k]? = some o :=
      fun hg' hr h1 h2 ho => (hg'.block _ (Array.getElem?_eq_some_iff.1 ho).1 (fun e => by rcases hr _ e.symm with h | ⟨h, _⟩ <;> omega)).trans ho
    refine (hseq (w.heap.size + 1)
      (fun pre W => I pre W ∧ W.heap[w.heap.size + 1]? = some (.loop (rec .ready none)) ∧ W.heap[w.heap.size]? = some (.deferred (some [])))
      (fun pre W => ∃ c, Ix c pre W ∧ W.heap[w.heap.size + 1]? = some (.loop (rec .done (some c))) ∧ W.heap[w.heap.size]? = some (.deferred (some [])))
      W1 hz1
      (fun s A B row hs hg' hr => ⟨hI s A B row hs.1 hg' (hnw hr), hst hg' hr (by omega) (by omega) hs.2.1, hst hg' hr (by omega) (by omega) hs.2.2⟩)
      (fun s A B row hs hg' hr => by
        obtain ⟨c, hc, hl, hk⟩ := hs
        exact ⟨c, hIx c s A B row hc hg' (hnw hr), hst hg' hr (by omega) (by omega) hl, hst hg' hr (by omega) (by omega) hk⟩)
      ?_ ⟨hI1, hL1, hK1⟩).mono ?_
    · rintro pre x W ⟨hi, hl, hk⟩ hlen
      have hlt : w.heap.size + 1 < W.heap.size := (Array.getElem?_eq_some_iff.1 hl).1
      have hy := run_yield (P := P) (args := encs x) hl (by rw [hrec]; exact hps x)
      rw [hrec] at hy
      refine ⟨fn, _, assign, body, hy, roundIn_of_wpIn hfn (hassign _ x W _ ⟨_, run_beginRound hl (by rw [hrec]), ?_⟩)⟩
      have hl2 : (W.putObj (w.heap.size + 1) (.loop { rec .ready none with state := .busy })).heap[w.heap.size + 1]? = some (.loop { rec .ready none with state := .busy }) := World.putObj_heap_same hlt
      have hk2 : (W.putObj (w.heap.size + 1) (.loop { rec .ready none with state := .busy })).heap[w.heap.size]? = some (.deferred (some [])) := (World.putObj_heap_other (by omega)).trans hk
      have hw2 : Kp W (W.putObj (w.heap.size + 1) (.loop { rec .ready none with state := .busy })) := hKb _ _ _ _ (by omega) hl rfl rfl
      refine wpIn_mono (hbody _ pre x _ (hI.putObj _ hi (by omega) hl rfl) hlen) ?_
      have fin : ∀ (jump : Option Code) (W3 : World), KeepsOthers (W.putObj (w.heap.size + 1) (.loop { rec .ready none with state := .busy })) W3 →
          (Instr.endRound (w.heap.size + 1) jump).run P W3 = .ok (.bool jump.isNone) (W3.putObj (w.heap.size + 1) (.loop (rec (if jump.isNone then .ready else .done) jump))) ∧
          W3.heap[w.heap.size + 1]? = some (.loop { rec .ready none with state := .busy }) ∧
          (W3.putObj (w.heap.size + 1) (.loop (rec (if jump.isNone then .ready else .done) jump))).heap[w.heap.size + 1]? = some (.loop (rec (if jump.isNone then .ready else .done) jump)) ∧
          (W3.putObj (w.heap.size + 1) (.loop (rec (if jump.isNone then .ready else .done) jump))).heap[w.heap.size]? = some (.deferred (some [])) := fun jump W3 hk3 => by
        have hl3 := hk3.same _ _ hl2 rfl
        have hr3 := run_endRound (P := P) jump hl3
        rw [hrec] at hr3 ⊢
        exact ⟨hr3, by rw [hrec] at hl3; exact hl3, World.putObj_heap_same (Array.getElem?_eq_some_iff.1 hl3).1, (World.putObj_heap_other (by omega)).trans (hk3.same _ _ hk2 rfl)⟩
      rintro e a3 W3 hp
      cases e with
      | normal =>
        obtain ⟨hk3, hkp3, hi3⟩ := hp
        obtain ⟨hr, hl3, hl4, hk4⟩ := fin none W3 hk3
        exact ⟨_, _, hr, .inl ⟨rfl, ⟨hI.putObj _ hi3 (by omega) hl3 rfl, hl4, hk4⟩, hKt (hKt hw2 hkp3) (hKb _ _ _ _ (by omega) hl3 rfl rfl)⟩⟩
      | ret =>
        obtain ⟨hk3, hi3⟩ := hp
        obtain ⟨hr, hl3, hl4, hk4⟩ := fin (some .ret) W3 hk3
        exact ⟨_, _, hr, .inr ⟨rfl, .ret, (hIx _).putObj _ hi3 (by omega) hl3 rfl, hl4, hk4⟩⟩
      | exit id =>
        obtain ⟨hk3, hi3⟩ := hp
        obtain ⟨hr, hl3, hl4, hk4⟩ := fin (some (.exit id)) W3 hk3
        exact ⟨_, _, hr, .inr ⟨rfl, .exit id, (hIx _).putObj _ hi3 (by omega) hl3 rfl, hl4, hk4⟩⟩
      | goto t =>
        obtain ⟨hk3, hi3⟩ := hp
        obtain ⟨hr, hl3, hl4, hk4⟩ := fin (some (.goto t)) W3 hk3
        exact ⟨_, _, hr, .inr ⟨rfl, .goto t, (hIx _).putObj _ hi3 (by omega) hl3 rfl, hl4, hk4⟩⟩
      | panic ch => exact hp.elim
      | outgrown => exact hp.elim
    · rintro e W2 ⟨⟨v, rfl⟩, (⟨xs, hS, hi, hl, hk⟩ | ⟨pre, hSp, c, hi, hl, hk⟩)⟩
      · exact ⟨none, _, by have hr := run_endLoop (P := P) hl (by rw [hrec]; simp); rw [hrec] at hr; exact hr, hdone _ xs _ (Nat.le_refl _) hS (hI.putObj _ hi (by omega) hl rfl) ((World.putObj_heap_other (by omega)).trans hk)⟩
      · exact ⟨some c, _, by have hr := run_endLoop (P := P) hl (by rw [hrec]; simp); rw [hrec] at hr; exact hr, hstop _ c pre _ (Nat.le_refl _) hSp ((hIx c).putObj _ hi (by omega) hl rfl) ((World.putObj_heap_other (by omega)).trans hk)⟩
end Go.Proofs.YtphoclgibnhjfaaGreat
namespace Go.Proofs.YtphoclgibnhjfaaGreat
open Go.RowKit
theorem ret_int {k : IntKind} {a b : Int} (h : a = b) : Ending.returned (.int k a) = .returned (.int k b) := by rw [h]

/-- A number and an error: the number is 0 beside an error. -/
def num2 (bad v : Int) : Value := .tuple #[.int .i64 (if bad = 0 then v else 0), .int .i64 bad]
theorem num2_ok (v : Int) : num2 0 v = .tuple #[.int .i64 v, .int .i64 0] := rfl
theorem num2_bad {bad : Int} (v : Int) (h : bad ≠ 0) : num2 bad v = .tuple #[.int .i64 0, .int .i64 bad] := by unfold num2; rw [if_neg h]

/-- What unless returns. -/
def unl (b : Bool) (e : Int) : Int := if b = true then 0 else e
theorem unl_t (e : Int) : unl true e = 0 := rfl
theorem unl_f (e : Int) : unl false e = e := rfl
theorem unless_any (b : Bool) (e : Int) (w : World) :
    Calls Tryz.prog 99 #[.bool b, .int .i64 e] w fun r w' => r = .returned (.int .i64 (unl b e)) ∧ w' = w := by
  cases b
  all_goals
    go_enter Tryz.func99, Tryz.ntmps99
    go_wp2
    go_ret
    exact ⟨rfl, rfl⟩

theorem unless_t (e : Int) (w : World) :
    Calls Tryz.prog 99 #[.bool true, .int .i64 e] w fun r w' => r = .returned (.int .i64 0) ∧ w' = w := unless_any true e w
theorem unless_f (e : Int) (w : World) :
    Calls Tryz.prog 99 #[.bool false, .int .i64 e] w fun r w' => r = .returned (.int .i64 e) ∧ w' = w := unless_any false e w
/-- ErrRange if n is not from a to b. -/
def rng (n a b : Int) : Int := if a ≤ n ∧ n ≤ b then 0 else 3
theorem checkRange_any (n a b : Int) (w : World) :
    Calls Tryz.prog 164 #[.int .i64 n, .int .i64 a, .int .i64 b] w fun r w' => r = .returned (.int .i64 (rng n a b)) ∧ w' = w := by
  have R : rng n a b = if (decide (a ≤ n) && decide (n ≤ b)) = true then 0 else 3 := by simp [rng]
  by_cases h1 : a ≤ n
  · by_cases h2 : n ≤ b
    · have H : Hid (rng n a b = 0) := Lib.hid (by simp [rng, h1, h2])
      clear R
      go_enter Tryz.func164, Tryz.ntmps164
      go_wp2_with (go_at_call 99; refine (unless_any _ _ _).mono ?_; rintro e w' ⟨rfl, rfl⟩)
      go_ret
      exact ⟨by rw [H.out]; rfl, rfl⟩
    · have H : Hid (rng n a b = 3) := Lib.hid (by simp [rng, h2])
      clear R
      go_enter Tryz.func164, Tryz.ntmps164
      go_wp2_with (go_at_call 99; refine (unless_any _ _ _).mono ?_; rintro e w' ⟨rfl, rfl⟩)
      go_ret
      exact ⟨by rw [H.out]; rfl, rfl⟩
  · have H : Hid (rng n a b = 3) := Lib.hid (by simp [rng, h1])
    clear R
    go_enter Tryz.func164, Tryz.ntmps164
    go_wp2_with (go_at_call 99; refine (unless_any _ _ _).mono ?_; rintro e w' ⟨rfl, rfl⟩)
    go_ret
    exact ⟨by rw [H.out]; rfl, rfl⟩

/-- The first of some numbers that is not 0. -/
def fst (l : List Int) : Int := match l with
  | [] => 0
  | x :: r => if x = 0 then fst r else x

theorem fst_drop (es : List Int) (k : Nat) (h : k < es.length) : fst (es.drop k) = if es.getD k 0 = 0 then fst (es.drop (k + 1)) else es.getD k 0 := by
  rw [List.drop_eq_getElem_cons h]
  simp [fst, h]
theorem firstError_any (es : List Int) (b c : Nat) (w : World) (hc : ∀ i, i < es.length → w.cell? ⟨b, i, none⟩ = some (.int .i64 (es.getD i 0))) (hl : es.length ≤ 100) :
    Calls Tryz.prog 67 #[.slice (some ⟨b, 0, none⟩) es.length c] w fun r w' => r = .returned (.int .i64 (fst es)) ∧ w' = w := by
  have HC := Lib.hid hc
  clear hc
  go_enter Tryz.func67, Tryz.ntmps67
  go_wp2
  go_loop [7] (fun i => ∃ k : Nat, k ≤ es.length ∧ i = .int .i64 k ∧ Hid (fst es = fst (es.drop k))) (fun i => es.length - (intOf i).toNat)
  case atStart => exact ⟨0, Nat.zero_le _, rfl, Lib.hid (by simp)⟩
  case round =>
    obtain ⟨k, hk, rfl, HF⟩ := hrel
    by_cases hlt : k < es.length
    · have hcell := HC.out k hlt
      have hd := fst_drop es k hlt
      by_cases hz : es.getD k 0 = 0
      · have HD := Lib.hid hd; clear hd
        have HZ := Lib.hid hz; 
        rw [hz] at hcell
        clear hz
        go_wp2
        go_round
        case rel => exact ⟨k + 1, by omega, by go_num, Lib.hid (by rw [HF.out, HD.out, if_pos HZ.out])⟩
        case measure => simp [intOf]; omega
      · have HD := Lib.hid (show fst es = es.getD k 0 by rw [HF.out, hd, if_neg hz]); clear hd
        generalize es.getD k 0 = x at *
        have hb : (x != 0) = true := by simpa using hz
        clear hz
        go_wp2
        go_ret
        exact ⟨by rw [HD.out]; rfl, rfl⟩
    · have HD := Lib.hid (show fst es = 0 by rw [HF.out, List.drop_of_length_le (by omega)]; rfl)
      go_wp2
      go_ret
      exact ⟨by rw [HD.out]; rfl, rfl⟩
end Go.Proofs.YtphoclgibnhjfaaGreat
namespace Go.Proofs.YtphoclgibnhjfaaGreat.Cal
def lp (y : Int) : Int := y / 4 - y / 100 + y / 400
def db (y : Int) : Int := 365 * (y - 2000) + lp (y - 1) - 484
def leap (y : Int) : Bool := decide (lp (y - 1) < lp y)
def tab : List Int := [31, 28, 31, 30, 31, 30, 31, 31, 30, 31, 30, 31]
def ml (y : Int) (m : Nat) : Int := if m = 2 ∧ leap y = true then 29 else tab.getD (m - 1) 0
def cum (y : Int) : Nat → Int
  | 0 => 0
  | k + 1 => cum y k + ml y (k + 1)
def dn (y : Int) (m : Nat) (d : Int) : Int := db y + d - 1 + cum y (m - 1)
def wd (d : Int) : Int := (d + 5) % 7
def ls (y : Int) (m : Nat) : Int := dn y m 31 - (wd (dn y m 31) - 6 + 7) % 7
theorem lp_bd (y : Int) (h1 : 1 ≤ y) (h2 : y ≤ 3000) : 0 ≤ lp y ∧ lp y ≤ 800 := by unfold lp; omega
theorem lp_step (y : Int) : lp (y - 1) ≤ lp y ∧ lp y ≤ lp (y - 1) + 1 := by unfold lp; omega
def lv (y : Int) : Int := if leap y = true then 1 else 0
theorem lv_bd (y : Int) : 0 ≤ lv y ∧ lv y ≤ 1 := by unfold lv; split <;> omega
theorem db_succ (y : Int) : db (y + 1) = db y + 365 + lv y := by
  have := lp_step y
  unfold db lv leap
  simp only [Int.add_sub_cancel]
  by_cases h : lp (y - 1) < lp y
  · simp only [h, decide_true, if_true]; omega
  · simp only [h, decide_false, Bool.false_eq_true, if_false]; omega
theorem db_bd (y : Int) (h1 : 2000 ≤ y) (h2 : y ≤ 2400) : 0 ≤ db y ∧ db y ≤ 147000 := by unfold db lp; omega
theorem db_lo (y : Int) (h1 : 2000 ≤ y) (h2 : y ≤ 2400) : 365 * (y - 2000) ≤ db y ∧ db y ≤ 366 * (y - 2000) := by unfold db lp; omega
theorem db_mono (a b : Int) (h : a ≤ b) : db a ≤ db b := by unfold db lp; omega
theorem db_2000 : db 2000 = 0 := by decide
theorem db_2273 : db 2273 = 99712 := by decide
theorem ml_bd (y : Int) (m : Nat) (h1 : 1 ≤ m) (h2 : m ≤ 12) : 28 ≤ ml y m ∧ ml y m ≤ 31 := by
  unfold ml
  split
  · omega
  · match m, h1, h2 with
    | 1, _, _ | 2, _, _ | 3, _, _ | 4, _, _ | 5, _, _ | 6, _, _ | 7, _, _ | 8, _, _ | 9, _, _ | 10, _, _ | 11, _, _ | 12, _, _ => decide
theorem ml_2 (y : Int) : ml y 2 = 28 + lv y := by unfold ml lv; cases leap y <;> decide
theorem ml_ne (y : Int) (m : Nat) (h : m ≠ 2) : ml y m = tab.getD (m - 1) 0 := by unfold ml; rw [if_neg (by simp [h])]
theorem cum_1 (y : Int) : cum y 1 = 31 := by simp only [cum, ml_ne y 1 (by decide)]; decide
theorem cum_2 (y : Int) : cum y 2 = 59 + lv y := by rw [cum, cum_1, ml_2]; omega
theorem cum_3 (y : Int) : cum y 3 = 90 + lv y := by rw [cum, cum_2, ml_ne y 3 (by decide), show tab.getD (3 - 1) 0 = (31 : Int) from rfl]; omega
theorem cum_4 (y : Int) : cum y 4 = 120 + lv y := by rw [cum, cum_3, ml_ne y 4 (by decide), show tab.getD (4 - 1) 0 = (30 : Int) from rfl]; omega
theorem cum_5 (y : Int) : cum y 5 = 151 + lv y := by rw [cum, cum_4, ml_ne y 5 (by decide), show tab.getD (5 - 1) 0 = (31 : Int) from rfl]; omega
theorem cum_6 (y : Int) : cum y 6 = 181 + lv y := by rw [cum, cum_5, ml_ne y 6 (by decide), show tab.getD (6 - 1) 0 = (30 : Int) from rfl]; omega
theorem cum_7 (y : Int) : cum y 7 = 212 + lv y := by rw [cum, cum_6, ml_ne y 7 (by decide), show tab.getD (7 - 1) 0 = (31 : Int) from rfl]; omega
theorem cum_8 (y : Int) : cum y 8 = 243 + lv y := by rw [cum, cum_7, ml_ne y 8 (by decide), show tab.getD (8 - 1) 0 = (31 : Int) from rfl]; omega
theorem cum_9 (y : Int) : cum y 9 = 273 + lv y := by rw [cum, cum_8, ml_ne y 9 (by decide), show tab.getD (9 - 1) 0 = (30 : Int) from rfl]; omega
theorem cum_10 (y : Int) : cum y 10 = 304 + lv y := by rw [cum, cum_9, ml_ne y 10 (by decide), show tab.getD (10 - 1) 0 = (31 : Int) from rfl]; omega
theorem cum_11 (y : Int) : cum y 11 = 334 + lv y := by rw [cum, cum_10, ml_ne y 11 (by decide), show tab.getD (11 - 1) 0 = (30 : Int) from rfl]; omega
theorem cum_12 (y : Int) : cum y 12 = 365 + lv y := by rw [cum, cum_11, ml_ne y 12 (by decide), show tab.getD (12 - 1) 0 = (31 : Int) from rfl]; omega
theorem cum_bd (y : Int) (m : Nat) (h : m ≤ 12) : 28 * m ≤ cum y m ∧ cum y m ≤ 31 * m := by
  induction m with
  | zero => simp [cum]
  | succ k ih =>
    have := ih (by omega)
    have b := ml_bd y (k + 1) (by omega) h
    rw [cum]; omega
theorem dn_bd (y : Int) (m : Nat) (d : Int) (h1 : 2000 ≤ y) (h2 : y ≤ 2300) (h3 : m ≤ 12) (h4 : 1 ≤ d) (h5 : d ≤ 31) : 0 ≤ dn y m d ∧ dn y m d ≤ 150000 := by
  have a := db_bd y h1 (by omega)
  have b := cum_bd y (m - 1) (by omega)
  unfold dn; omega
theorem wd_bd (d : Int) : 0 ≤ wd d ∧ wd d ≤ 6 := by unfold wd; omega
/-- Each day up to the last one has its year. -/
theorem year_ex (d : Int) (h0 : 0 ≤ d) (h1 : d ≤ 99999) : ∃ y : Int, 2000 ≤ y ∧ y ≤ 2273 ∧ db y ≤ d ∧ d < db (y + 1) := by
  have key : ∀ n : Nat, ∀ d : Int, 0 ≤ d → d < db (2000 + n) → ∃ y : Int, 2000 ≤ y ∧ y < 2000 + n ∧ db y ≤ d ∧ d < db (y + 1) := by
    intro n
    induction n with
    | zero => intro d h0 h1; rw [show (2000 : Int) + (0 : Nat) = 2000 from rfl, db_2000] at h1; omega
    | succ k ih =>
      intro d h0 h1
      by_cases h : d < db (2000 + k)
      · obtain ⟨y, a, b, c, e⟩ := ih d h0 h
        exact ⟨y, a, by omega, c, e⟩
      · exact ⟨2000 + k, by omega, by omega, by omega, by rw [show (2000 : Int) + (k : Int) + 1 = 2000 + ((k + 1 : Nat) : Int) from by omega]; exact h1⟩
  obtain ⟨y, a, b, c, e⟩ := key 274 d h0 (by rw [show db (2000 + ((274 : Nat) : Int)) = 100077 from by decide]; omega)
  exact ⟨y, a, by omega, c, e⟩
/-- Each day of a year has its month. -/
theorem month_ex (y r : Int) (h0 : 0 ≤ r) (h1 : r < 365 + lv y) : ∃ m : Nat, 1 ≤ m ∧ m ≤ 12 ∧ cum y (m - 1) ≤ r ∧ r < cum y m := by
  have key : ∀ n : Nat, n ≤ 12 → r < cum y n → ∃ m : Nat, 1 ≤ m ∧ m ≤ n ∧ cum y (m - 1) ≤ r ∧ r < cum y m := by
    intro n
    induction n with
    | zero => intro _ h; simp [cum] at h; omega
    | succ k ih =>
      intro hk h
      by_cases hh : r < cum y k
      · obtain ⟨m, a, b, c, e⟩ := ih (by omega) hh
        exact ⟨m, a, by omega, c, e⟩
      · exact ⟨k + 1, by omega, Nat.le_refl _, by simp; omega, h⟩
  exact key 12 (Nat.le_refl _) (by rw [cum_12]; exact h1)
end Go.Proofs.YtphoclgibnhjfaaGreat.Cal
namespace Go.Proofs.YtphoclgibnhjfaaGreat
open Go.RowKit
end Go.Proofs.YtphoclgibnhjfaaGreat
namespace Go.Proofs.YtphoclgibnhjfaaGreat
open Go.RowKit
theorem checkDay_any (d : Int) (w : World) : Calls Tryz.prog 132 #[.int .i64 d] w fun r w' => r = .returned (.int .i64 (rng d 0 99999)) ∧ w' = w := by
  go_enter Tryz.func132, Tryz.ntmps132
  go_wp2_with fail
  refine (checkRange_any _ _ _ _).mono ?_
  rintro e w' ⟨rfl, rfl⟩
  go_wp2_with fail
  go_ret
  exact ⟨rfl, rfl⟩
theorem checkMask_any (d : Int) (w : World) : Calls Tryz.prog 194 #[.int .i64 d] w fun r w' => r = .returned (.int .i64 (rng d 1 127)) ∧ w' = w := by
  go_enter Tryz.func194, Tryz.ntmps194
  go_wp2_with fail
  refine (checkRange_any _ _ _ _).mono ?_
  rintro e w' ⟨rfl, rfl⟩
  go_wp2_with fail
  go_ret
  exact ⟨rfl, rfl⟩
theorem rng_ok {n a b : Int} (h1 : a ≤ n) (h2 : n ≤ b) : rng n a b = 0 := by simp [rng, h1, h2]
theorem rng_bad {n a b : Int} (h : ¬ (a ≤ n ∧ n ≤ b)) : rng n a b = 3 := by simp only [rng, if_neg h]
end Go.Proofs.YtphoclgibnhjfaaGreat
namespace Go.Proofs.YtphoclgibnhjfaaGreat
open Go.RowKit
theorem cell_in {w : World} {a : Addr} {v : Value} (h : w.cell? a = some v) : a.block < w.heap.size := by
  unfold World.cell? at h
  rcases Nat.lt_or_ge a.block w.heap.size with h' | h'
  · exact h'
  · rw [Array.getElem?_eq_none h'] at h; simp at h
theorem b_old {w w' : World} (hb : Below w.heap.size w w') {a : Addr} {v : Value} (h : w.cell? a = some v) : w'.cell? a = some v := by
  rw [hb.cell (cell_in h)]; exact h
theorem below_alloc (w : World) (o : Obj) : Below w.heap.size w (w.alloc o) := (Below.refl _ w).alloc (Nat.le_refl _) o
theorem b_then {w w1 w2 : World} (h : Below w.heap.size w w1) (k : Below w1.heap.size w1 w2) : Below w.heap.size w w2 := h.trans (k.mono h.size)
theorem cell_fresh (w : World) (l : List Value) (T : TypeId) (i : Nat) (v : Value) (h : l[i]? = some v) : (w.alloc (.cells l.toArray T)).cell? ⟨w.heap.size, i, none⟩ = some v := by
  have e : (w.alloc (.cells l.toArray T)).heap[w.heap.size]? = some (.cells l.toArray T (0, 0)) := by show (w.heap.push _)[_]? = _; simp
  simp only [World.cell?, e]
  simp [h]
/-- firstError of a list that has just been made. -/
theorem fe_new (es : List Int) (b n c T : Nat) (w : World) (hb : b = w.heap.size) (hn : n = es.length) (hl : es.length ≤ 100) :
    Calls Tryz.prog 67 #[.slice (some ⟨b, 0, none⟩) n c] (w.alloc (.cells (es.map (Value.int .i64)).toArray T)) fun r w' => r = .returned (.int .i64 (fst es)) ∧ w' = w.alloc (.cells (es.map (Value.int .i64)).toArray T) := by
  subst hn hb
  exact firstError_any es _ c _ (fun i hi => cell_fresh _ _ _ _ _ (by simp [hi])) hl
theorem still_tail {P : Program} {id : Nat} {Q : Exit → Act → World → Prop} {a : Act} {w : World} {l : List Oper} (n : Nat) (hm : P.follows .mixedOrders = true) (hB : Region.lexTailB .any l.toArray n = true)
    (h : wpStill P l.toArray w.drew (fun a' => wpList P l.toArray Q (l.drop n) a' w.drew) (l.take n) a) : (Code.region id l.toArray true).wp P Q a w :=
  wp_region_still_tail n hm hB h
theorem b_frozen {w w' : World} (hb : Below w.heap.size w w') {a : Addr} {v : Value} (h : w.cell? a = some v) (f : w.frozen? a = false) : w'.frozen? a = false := by
  rw [hb.frozen (cell_in h)]; exact f
theorem below_drew (w : World) : Below w.heap.size w w.drew := (Below.refl _ w).drew
/-- A block N of n cells that the call may write; below N all is as in W. -/
structure Res (n N : Nat) (W w' : World) : Prop where
  cell : ∀ i, i < n → ∃ v, w'.cell? ⟨N, i, none⟩ = some v
  frozen : ∀ i, i < n → w'.frozen? ⟨N, i, none⟩ = false
  below : Below N W w'
theorem Res.drew {n N : Nat} {W w' : World} (h : Res n N W w') : Res n N W w'.drew := ⟨h.cell, h.frozen, h.below.drew⟩
theorem Res.more {n N : Nat} {W w' w2 : World} (h : Res n N W w') (hN : N ≤ w'.heap.size) (hb : Below w'.heap.size w' w2) : Res n N W w2 :=
  ⟨fun i hi => by obtain ⟨v, hv⟩ := h.cell i hi; exact ⟨v, b_old hb hv⟩, fun i hi => by obtain ⟨v, hv⟩ := h.cell i hi; exact b_frozen hb hv (h.frozen i hi), h.below.trans (hb.mono hN)⟩
theorem Res.set {n N : Nat} {W w' : World} (h : Res n N W w') (k : Nat) (v : Value) : Res n N W (w'.setCell ⟨N, k, none⟩ v) :=
  ⟨fun i hi => by
    obtain ⟨u, hu⟩ := h.cell i hi
    obtain ⟨x, hx⟩ := cell?_setCell_some (w := w') (p := ⟨N, k, none⟩) (x := v) (q := ⟨N, i, none⟩) (v := u) hu
    exact ⟨x, hx⟩, fun i hi => by rw [World.frozen?_setCell]; exact h.frozen i hi, h.below.setCell (p := ⟨N, k, none⟩) (Nat.le_refl _) v⟩
theorem Res.old {n N : Nat} {W w' : World} (h : Res n N W w') {b o : Nat} {v : Value} (hb : b < N) (hc : W.cell? ⟨b, o, none⟩ = some v) : w'.cell? ⟨b, o, none⟩ = some v := by
  rw [h.below.cell (p := ⟨b, o, none⟩) hb]; exact hc
theorem Res.pos {n N : Nat} {W w' : World} (h : Res n N W w') (hn : 0 < n) : N ≤ w'.heap.size := by
  obtain ⟨v, hv⟩ := h.cell 0 hn
  exact Nat.le_of_lt (cell_in hv)
theorem Res.up {n N : Nat} {W w' w2 : World} (h : Res n N W w') (hb : Below (N + 1) w' w2) : Res n N W w2 :=
  ⟨fun i hi => by obtain ⟨v, hv⟩ := h.cell i hi; exact ⟨v, by rw [hb.cell (p := ⟨N, i, none⟩) (Nat.lt_succ_self N)]; exact hv⟩, fun i hi => by rw [hb.frozen (p := ⟨N, i, none⟩) (Nat.lt_succ_self N)]; exact h.frozen i hi, h.below.trans (hb.mono (Nat.le_succ N))⟩
theorem below_alloc2 (w : World) (o o' : Obj) : Below w.heap.size w ((w.alloc o).alloc o') := (below_alloc w o).alloc (by simp) o'
theorem b_keep {B : Nat} {w w' : World} (hb : Below B w w') {b o : Nat} {v : Value} (h : b < B) (hc : w.cell? ⟨b, o, none⟩ = some v) : w'.cell? ⟨b, o, none⟩ = some v := by
  rw [hb.cell (p := ⟨b, o, none⟩) h]; exact hc
theorem set_other {w : World} {a b : Addr} {u v : Value} (h : w.cell? b = some v) (hne : a ≠ b) : (w.setCell a u).cell? b = some v := by
  rw [World.cell?_setCell_other _ _ _ _ hne]; exact h
theorem set_same {w : World} {a : Addr} {u v : Value} (h : w.cell? a = some v) : (w.setCell a u).cell? a = some u := World.cell?_setCell_same _ _ _ h
theorem set_size (w : World) (a : Addr) (u : Value) : (w.setCell a u).heap.size = w.heap.size := by simp [World.setCell]
end Go.Proofs.YtphoclgibnhjfaaGreat
namespace Go.Proofs.YtphoclgibnhjfaaGreat
open Go Go.RowKit
def byteAt (s : ByteArray) (i : Nat) : Nat := if h : i < s.size then (s[i]'h).toNat else 0
theorem byteAt_eq {s : ByteArray} {i : Nat} (h : i < s.size) : byteAt s i = (s[i]'h).toNat := dif_pos h
theorem byteAt_lt (s : ByteArray) (i : Nat) : byteAt s i < 256 := by
  unfold byteAt
  split
  · exact UInt8.toNat_lt _
  · omega
theorem next_byte {P : Program} (wr : World) (k pos : Nat) (s : ByteArray) (hit : wr.heap[k]? = some (.stringIter s pos)) (h : pos < s.size) :
    ∃ (r p2 : Nat), (∀ ty, (Instr.next (.pointer (some ⟨k, 0, none⟩)) true ty).run P wr = .ok (.tuple #[.bool true, .int .i64 pos, .int .i32 r]) (wr.iterAt k s p2)) ∧ (byteAt s pos < 128 → r = byteAt s pos ∧ p2 = pos + 1) ∧ (128 ≤ byteAt s pos → 128 ≤ r) ∧ r ≤ 2147483647 := by
  rw [byteAt_eq h]
  refine ⟨(Utf8.decode s pos).1, pos + (Utf8.decode s pos).2, fun ty => Lib.run_next_any_at wr k s pos ty hit h, fun ha => ?_, fun ha => (decode_high s pos h ha).1, decode_le s pos⟩
  rw [decode_ascii s pos h ha]
  exact ⟨rfl, rfl⟩
theorem nb_below (V : World) (k : Nat) (s : ByteArray) (pos : Nat) : Below k V (World.iterAt V k s pos) := ⟨rfl, rfl, rfl, by simp [World.iterAt], fun j hj => by
  simp only [World.iterAt]
  rw [Array.getElem?_setIfInBounds, if_neg (by omega)]⟩
end Go.Proofs.YtphoclgibnhjfaaGreat
