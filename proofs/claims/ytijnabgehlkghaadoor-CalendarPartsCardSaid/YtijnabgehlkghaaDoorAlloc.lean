/-
  A region that draws its order, in whose head (its first n operations) one operation makes a block that no other one of the head waits for or touches: it may be taken first. The others are quiet in the worlds that keep what the world at the region's beginning holds, whatever that world is; behind the head the walk goes on in any world that keeps all this, and the block.
-/
import Derived.Test.YtijnabgehlkghaaDoorKept
namespace Go.Proofs.YtijnabgehlkghaaDoor
open Go Go.RowKit
section
variable {P : Program}
/-- A frame that ends the run as soon as it is resumed. -/
def deadEnd : Frame := { fn := 0, tmps := #[], todo := [.code (.goto 0)], defers := [], mode := .run, kind := .normal }
theorem deadEnd_finish (v : Value) : deadEnd.finish v = deadEnd := rfl
theorem deadEnd_step (w : World) : ∃ o w', step P (lone deadEnd [] w) = .ended o w' := by
  refine ⟨_, _, step_lone_ended (o := .stuck "exit, goto: no such block or label" (deadEnd.pos P)) (w' := w) ?_⟩
  simp [stepG, stepG.exec, deadEnd, gotoIn]
theorem leaves_once {fr1 fr2 : Frame} {w1 w2 : World} {v : Value} (hl : fr1.leaving P w1 (.returned v)) : ∀ k, runN P k (lone fr1 [deadEnd] w1) = .next (lone fr2 [deadEnd] w2) → fr1 = fr2 ∧ w1 = w2
  | 0, h => by
    simp only [runN, Stepped.next.injEq, lone, Machine.mk.injEq] at h
    obtain ⟨h1, h2, _⟩ := h
    have h3 : fr1 = fr2 := by simpa using h2
    exact ⟨h3, h1⟩
  | 1, h => by
    have h' : (match step P (lone fr1 [deadEnd] w1) with | .next m => runN P 0 m | e => e) = .next (lone fr2 [deadEnd] w2) := h
    rw [step_leave_returned hl] at h'
    simp only [runN, Stepped.next.injEq, lone, Machine.mk.injEq] at h'
    obtain ⟨_, h2, _⟩ := h'
    simp at h2
  | k + 2, h => by
    obtain ⟨o, w', he⟩ := deadEnd_step (P := P) w1
    have h' : (match step P (lone fr1 [deadEnd] w1) with | .next m => runN P (k + 1) m | e => e) = .next (lone fr2 [deadEnd] w2) := h
    rw [step_leave_returned hl, deadEnd_finish] at h'
    have h'' : (match step P (lone deadEnd [] w1) with | .next m => runN P k m | e => e) = .next (lone fr2 [deadEnd] w2) := h'
    rw [he] at h''
    cases h''
theorem leaving_one {fr : Frame} {w : World} {v v' : Value} (h : fr.leaving P w (.returned v)) (h' : fr.leaving P w (.returned v')) : v = v' := by
  obtain ⟨_, _, _, fn, hf, hr⟩ := h
  obtain ⟨_, _, _, fn', hf', hr'⟩ := h'
  rw [hf] at hf'
  cases hf'
  rw [hr] at hr'
  cases hr'
  rfl
theorem calls_one {f : FuncId} {args : Array Value} {w : World} {v v' : Value} {R R' : World → Prop} (h : Calls P f args w fun e w' => e = .returned v ∧ R w') (h' : Calls P f args w fun e w' => e = .returned v' ∧ R' w') : v = v' := by
  obtain ⟨_, w1, fr1, ⟨rfl, _⟩, ⟨n1, h1⟩, _, hl1⟩ := h [deadEnd]
  obtain ⟨_, w2, fr2, ⟨rfl, _⟩, ⟨n2, h2⟩, _, hl2⟩ := h' [deadEnd]
  rcases Nat.le_total n1 n2 with hle | hle
  · obtain ⟨k, rfl⟩ := Nat.le.dest hle
    rw [runN_add, h1] at h2
    obtain ⟨rfl, rfl⟩ := leaves_once hl1 k h2
    exact leaving_one hl1 hl2
  · obtain ⟨k, rfl⟩ := Nat.le.dest hle
    rw [runN_add, h2] at h1
    obtain ⟨rfl, rfl⟩ := leaves_once hl2 k h1
    exact leaving_one hl1 hl2
theorem quietAt_one {o : Oper} {a : Act} {C C' : World → Prop} {w : World} {v v' : Value} (h : o.quietAt P a C w v) (h' : o.quietAt P a C' w v') : v = v' := by
  unfold Oper.quietAt at h h'
  generalize (execOp a.eval o).run P w = r at *
  cases r with
  | ok n w' =>
    cases n <;> simp only [Oper.quietUpon] at h h'
    case value u => exact h.2.symm.trans h'.2
    case skip => exact h.2.trans h'.2.symm
    case enter f args => exact calls_one h.2 h'.2
  | halt x w' => simp only [Oper.quietUpon] at h
variable {ops : Array Oper} {md : Region.Mode}
theorem yieldsIn_one {o : Oper} {a : Act} {C C' : World → Prop} {w : World} {v v' : Value} (hw : C w) (hw' : C' w) (h : YieldsIn P ops C o v a) (h' : YieldsIn P ops C' o v' a) : v = v' := by
  rcases h with ⟨g, h⟩ | ⟨g, h⟩ <;> rcases h' with ⟨g', h'⟩ | ⟨g', h'⟩
  · exact quietAt_one (h w hw) (h' w hw')
  · rw [g] at g'; cases g'
  · rw [g] at g'; cases g'
  · rw [h, h']
/-- The worlds that keep what w holds. -/
def Kp (w : World) : World → Prop := fun w' => ∃ x : KeptW w, w' = x.v
theorem Kp.iff {w w' : World} : Kp w w' ↔ Below w.heap.size w w' := ⟨fun ⟨x, h⟩ => h ▸ x.below, fun h => ⟨⟨w', h⟩, rfl⟩⟩
theorem Kp.self (w : World) : Kp w w := Kp.iff.2 (Below.refl _ w)
theorem Kp.trans {w w1 w2 : World} (h : Kp w w1) (k : Kp w1 w2) : Kp w w2 := Kp.iff.2 (b_then (Kp.iff.1 h) (Kp.iff.1 k))
/-- The walk's order: a run of neighbours, from k on. -/
def segB (md : Region.Mode) (ops : Array Oper) : Nat → Nat → Array Bool → Bool
  | 0, _, _ => true
  | f + 1, k, listed => (Region.ready md ops listed).contains k && Region.free md ops listed k && segB md ops f (k + 1) (listed.setIfInBounds k true)
def segTo : Nat → Nat → Array Bool → Array Bool
  | 0, _, listed => listed
  | f + 1, k, listed => segTo f (k + 1) (listed.setIfInBounds k true)
theorem HeadQ.seg {C : World → Prop} {n f : Nat} {L : Array Bool → Act → Prop} (hsel : Region.noSelect ops = true) (hs : Region.sinkB md ops n = true) (hc : Region.chainB md ops n = true) (hn : n < ops.size) (hL : ∀ listed a, L listed a → ∀ j ∈ Region.ready md ops listed, n ≤ j) (l : List Oper) :
    ∀ (k : Nat) (listed : Array Bool) (a : Act), (∀ j, j < l.length → l[j]? = ops[k + j]?) → k + l.length ≤ n → HeadInv md ops n listed → segB md ops l.length k listed = true →
      wpQuiet P ops C (fun a' => HeadInv md ops n (segTo l.length k listed) → HeadQ P md ops C n L f (segTo l.length k listed) a') l a → HeadQ P md ops C n L (l.length + f) listed a := by
  induction l with
  | nil => intro k listed a _ _ inv _ h; rw [List.length_nil, Nat.zero_add]; exact h inv
  | cons o l ih =>
    intro k listed a hl hk inv hB h
    have h0 : ops[k]? = some o := by simpa using (hl 0 (by simp)).symm
    simp only [List.length_cons, segB, Bool.and_eq_true, List.contains_iff_mem] at hB
    have hkn : k < n := by simp only [List.length_cons] at hk; omega
    obtain ⟨v, hy, hK⟩ := yieldsIn_of_qOp (K := wpQuiet P ops C _ l) h0 (by unfold qOp; simp only [h0]; exact h)
    rw [List.length_cons, Nat.succ_add]
    exact HeadQ.first h0 (Region.noSelect_spec hsel) hs hc hn hkn hL _ listed a inv (Region.free_spec h0 hB.1.2) hB.1.1 hy
      (ih (k + 1) _ _ (fun j hj => by have := hl (j + 1) (by simp; omega); simpa [Nat.add_assoc, Nat.add_comm 1 j] using this) (by simp only [List.length_cons] at hk; omega) (inv.set hB.1.1 hkn) hB.2 hK)
theorem wpQuiet_append {C : World → Prop} {Q : Act → Prop} (l1 l2 : List Oper) : ∀ a, wpQuiet P ops C Q (l1 ++ l2) a → wpQuiet P ops C (wpQuiet P ops C Q l2) l1 a := by
  induction l1 with
  | nil => intro a h; exact h
  | cons o l ih =>
    intro a h
    have h' : (if Region.wanted o (yielded ops a.tmps) then o.quiet P a C (wpQuiet P ops C Q (l ++ l2)) else wpQuiet P ops C Q (l ++ l2) (a.put o.dst undef)) := h
    show (if Region.wanted o (yielded ops a.tmps) then o.quiet P a C (wpQuiet P ops C (wpQuiet P ops C Q l2) l) else wpQuiet P ops C (wpQuiet P ops C Q l2) l (a.put o.dst undef))
    split
    · rename_i hw; rw [if_pos hw] at h'; exact Oper.quiet_mono ih h'
    · rename_i hw; rw [if_neg hw] at h'; exact ih _ h'
theorem wpQuiet_mono {C : World → Prop} {Q Q' : Act → Prop} (hQ : ∀ a, Q a → Q' a) (l : List Oper) : ∀ a, wpQuiet P ops C Q l a → wpQuiet P ops C Q' l a := by
  induction l with
  | nil => intro a h; exact hQ a h
  | cons o l ih =>
    intro a h
    have h' : (if Region.wanted o (yielded ops a.tmps) then o.quiet P a C (wpQuiet P ops C Q l) else wpQuiet P ops C Q l (a.put o.dst undef)) := h
    show (if Region.wanted o (yielded ops a.tmps) then o.quiet P a C (wpQuiet P ops C Q' l) else wpQuiet P ops C Q' l (a.put o.dst undef))
    split
    · rename_i hw; rw [if_pos hw] at h'; exact Oper.quiet_mono ih h'
    · rename_i hw; rw [if_neg hw] at h'; exact ih _ h'
/-- An operation that makes the block o and yields its address, in whatever world. -/
def Makes (P : Program) (oi : Oper) (o : Obj) : Prop := oi.guard = none ∧ ∀ (a : Act) (w : World), (execOp a.eval oi).run P w = .ok (.value (.pointer (some ⟨w.heap.size, 0, none⟩))) (w.alloc o)
theorem Makes.wpOp {oi : Oper} {o : Obj} {i : Nat} {Q : Exit → Act → World → Prop} {K : Act → World → Prop} {a : Act} {w : World} (h : Makes P oi o) (hi : ops[i]? = some oi) (hk : K (a.put oi.dst (.pointer (some ⟨w.heap.size, 0, none⟩))) (w.alloc o)) : wpOp P ops Q i K a w := by
  unfold Go.wpOp
  simp only [hi]
  have hw : Region.wanted oi (yielded ops a.tmps) = true := by simp [Region.wanted, h.1]
  simp only [hw, if_true, Oper.wp, h.2 a w, Oper.upon]
  exact .inl hk
/-- The operation that makes a block may be taken first. -/
theorem alloc_first {w0 : World} {n i g : Nat} {oi : Oper} {o : Obj} {L : Nat → Array Bool → Act → Prop} {Q : Exit → Act → World → Prop} (hi : ops[i]? = some oi) (hm : Makes P oi o) (hsel : ∀ (j : Nat) (o : Oper) cs b, ops[j]? = some o → o.op ≠ .select cs b)
    (hs : Region.sinkB md ops n = true) (hc : Region.chainB md ops n = true) (hn : n < ops.size) (hin : i < n) (hdone : ∀ A listed a, L A listed a → ∀ j ∈ Region.ready md ops listed, n ≤ j)
    (hL : ∀ A listed a w, Kp w0 w → w0.heap.size ≤ A → w.heap[A]? = some o → L A listed a → wpAny P md ops Q g listed a w) (f : Nat) :
    ∀ (listed : Array Bool) (a : Act) (w : World), Kp w0 w → HeadInv md ops n listed →
      (∀ j oj, ops[j]? = some oj → j ≠ i → listed.getD j true = false → (∀ e ∈ oj.after, Region.binds md e = true → e.on ≠ i) → oi.apart ops oj = true) →
      i ∈ Region.ready md ops listed → (∀ A w1, Kp w0 w1 → HeadQ P md ops (Kp w1) n (L A) f (listed.setIfInBounds i true) (a.put oi.dst (.pointer (some ⟨A, 0, none⟩)))) → wpAny P md ops Q (f + 1 + g) listed a w := by
  have atI : ∀ (f : Nat) (listed : Array Bool) (a : Act) (w : World), Kp w0 w → (∀ A w1, Kp w0 w1 → HeadQ P md ops (Kp w1) n (L A) f (listed.setIfInBounds i true) (a.put oi.dst (.pointer (some ⟨A, 0, none⟩)))) →
      wpOp P ops Q i (wpAny P md ops Q (f + g) (listed.setIfInBounds i true)) a w := fun f listed a w hw H => by
    refine hm.wpOp hi ?_
    have hk : Kp w0 (w.alloc o) := hw.trans (Kp.iff.2 (below_alloc w o))
    refine HeadQ.any (C := Kp (w.alloc o)) (L := L w.heap.size) (fun listed' a' w' hw' hl => hL _ _ _ _ (hk.trans hw') (Kp.iff.1 hw).size ?_ hl) f _ _ _ (Kp.self _) (H _ _ hk)
    rw [(Kp.iff.1 hw').block w.heap.size (by show _ < (w.heap.push o).size; simp)]
    show (w.heap.push o)[w.heap.size]? = _
    simp
  have heq : ∀ m, m + 1 + g = (m + g) + 1 := fun m => by omega
  induction f with
  | zero =>
    intro listed a w hw inv _ hr H
    rw [heq]
    refine ⟨fun h0 => absurd h0 (List.ne_nil_of_mem hr), fun j hj => ?_⟩
    have hjn : j < n := Nat.lt_of_not_le fun h => tail_waits hs hc hn inv _ i rfl hin (mem_ready.1 hr).1 j h hj
    rcases Nat.decEq j i with hji | hji
    · exact absurd (hdone _ _ _ (H 0 w0 (Kp.self _)) j (ready_mono hj hji)) (by omega)
    · subst hji; exact atI 0 listed a w hw H
  | succ f ih =>
    intro listed a w hw inv hfree hr H
    rw [heq]
    refine ⟨fun h0 => absurd h0 (List.ne_nil_of_mem hr), fun j hj => ?_⟩
    have hjn : j < n := Nat.lt_of_not_le fun h => tail_waits hs hc hn inv _ i rfl hin (mem_ready.1 hr).1 j h hj
    rcases Nat.decEq j i with hji | hji
    · obtain ⟨hun, oj, hoj, hall⟩ := mem_ready.1 hj
      have hnot : ∀ e ∈ oj.after, Region.binds md e = true → e.on ≠ i := fun e he hb heq => by
        have h1 := hall e he hb
        rw [heq, getD_both (mem_ready.1 hr).1] at h1
        cases h1
      have hap := hfree j oj hoj hji hun hnot
      obtain ⟨p1, p2, p3⟩ := Oper.apart_spec hap
      have hone : ∀ A w1, Kp w0 w1 → ∃ v, YieldsIn P ops (Kp w1) oj v a ∧ HeadQ P md ops (Kp w1) n (L A) f ((listed.setIfInBounds i true).setIfInBounds j true) ((a.put oi.dst (.pointer (some ⟨A, 0, none⟩))).put oj.dst v) := fun A w1 hw1 => by
        obtain ⟨v, hy, hk⟩ := yieldsIn_of_qOp hoj ((H A w1 hw1).2 j (ready_mono hj hji)).2
        exact ⟨v, hy.of_same (execOp_put oj (fun cs b => hsel j oj cs b hoj) a oi.dst _ p1).symm (wanted_put oj a oi.dst _ p1).symm, hk⟩
      obtain ⟨v, hv, -⟩ := hone 0 w0 (Kp.self _)
      have hall : ∀ A w1, Kp w0 w1 → HeadQ P md ops (Kp w1) n (L A) f ((listed.setIfInBounds j true).setIfInBounds i true) ((a.put oj.dst v).put oi.dst (.pointer (some ⟨A, 0, none⟩))) := fun A w1 hw1 => by
        obtain ⟨u, hu, hk⟩ := hone A w1 hw1
        obtain rfl : v = u := yieldsIn_one hw1 (Kp.self w1) hv hu
        rw [Array.setIfInBounds_comm _ _ hji, ← Act.put_comm a (.pointer (some ⟨A, 0, none⟩)) v p2]
        exact hk
      obtain ⟨u, hu, -⟩ := hone 0 w hw
      obtain rfl : v = u := yieldsIn_one hw (Kp.self w) hv hu
      refine wpOp_of_qOp (C := Kp w) (K := fun a' => a' = a.put oj.dst v) (Kp.self w) (fun a' w' hw' ha => ?_) (hu.qOp hoj rfl)
      subst ha
      have := ih (listed.setIfInBounds j true) (a.put oj.dst v) w' (hw.trans hw') (inv.set hj hjn) (fun k ok hk hki hk2 hno => hfree k ok hk hki (by
        rcases Nat.decEq j k with hjk | hjk
        · rwa [getD_set_ne true hjk] at hk2
        · subst hjk; exact hun) hno) (ready_mono hr (Ne.symm hji)) hall
      exact this
    · subst hji; exact atI _ listed a w hw H
/-- What the order must be like: number i may come first. -/
def allocB (md : Region.Mode) (ops : Array Oper) (n i : Nat) : Bool :=
  let l0 := Array.replicate ops.size false
  let l1 := l0.setIfInBounds i true
  let l2 := segTo i 0 l1
  Region.noSelect ops && decide (n < ops.size) && decide (i < n) && Region.sinkB md ops n && Region.chainB md ops n && (Region.ready md ops l0).contains i && Region.free md ops l0 i &&
    segB md ops i 0 l1 && segB md ops (n - i - 1) (i + 1) l2 && Region.seqB md ops (ops.size - n) n (segTo (n - i - 1) (i + 1) l2)
theorem alloc_tail {id : Nat} {Q : Exit → Act → World → Prop} {a : Act} {w : World} {l : List Oper} {oi : Oper} {o : Obj} (n i : Nat) (hm : P.follows .mixedOrders = true) (hB : allocB .any l.toArray n i = true) (hi : l[i]? = some oi) (hmk : Makes P oi o)
    (h : ∀ (A : Nat) (w1 : World), Below w.heap.size w w1 → wpQuiet P l.toArray (fun w' => ∃ x : KeptW w1, w' = x.v) (fun a' => ∀ w', Below w.heap.size w w' → w.heap.size ≤ A → w'.heap[A]? = some o → wpList P l.toArray Q (l.drop n) a' w') (l.take i ++ (l.take n).drop (i + 1)) (a.put oi.dst (.pointer (some ⟨A, 0, none⟩)))) :
    (Code.region id l.toArray true).wp P Q a w := by
  simp only [allocB, Bool.and_eq_true, decide_eq_true_eq, List.contains_iff_mem] at hB
  obtain ⟨⟨⟨⟨⟨⟨⟨⟨⟨hsel, hn⟩, hin⟩, hs⟩, hc⟩, hr⟩, hf⟩, hs1⟩, hs2⟩, hq⟩ := hB
  have hlen : n < l.length := by simpa using hn
  have hdl : (l.drop n).length = l.toArray.size - n := by simp
  have hi' : l.toArray[i]? = some oi := by simpa using hi
  have l1 : (l.take i).length = i := by simp; omega
  have l2 : ((l.take n).drop (i + 1)).length = n - i - 1 := by simp; omega
  have inv0 : HeadInv .any l.toArray n (Array.replicate l.toArray.size false) :=
    ⟨by simp, fun j oj _ hl => (by rw [getD_replicate_false] at hl; cases hl), fun t _ ht => getD_in (by simpa using ht) (getD_replicate_false _ _)⟩
  have T := alloc_first (md := .any) (w0 := w) (Q := Q) (g := l.toArray.size - n) (f := n - 1) (L := fun A listed' a' => Region.seqB .any l.toArray (l.toArray.size - n) n listed' = true ∧ ∀ w', Kp w w' → w.heap.size ≤ A → w'.heap[A]? = some o → wpList P l.toArray Q (l.drop n) a' w')
    hi' hmk (Region.noSelect_spec hsel) hs hc hn hin (fun _ _ _ hL => seqB_ready hL.1) (fun A listed' a' w' hw' hA hb hL => by
      have := wpAny_of_seq (md := .any) (Q' := Q) (l.drop n) n listed' a' w' (fun j => by simp [List.getElem?_drop]) (by rw [hdl]; exact hL.1) (hL.2 w' hw' hA hb)
      rwa [hdl] at this) _ a w.drew (Kp.iff.2 (below_drew w)) inv0 (Region.free_spec hi' hf) hr (fun A w1 hw1 => by
        have H := wpQuiet_append _ _ _ (h A w1 (Kp.iff.1 hw1))
        have e1 : n - 1 = (l.take i).length + (((l.take n).drop (i + 1)).length + 0) := by rw [l1, l2]; omega
        rw [e1]
        refine HeadQ.seg hsel hs hc hn (fun _ _ hL => seqB_ready hL.1) _ 0 _ _ (fun j hj => by rw [l1] at hj; simp [hj]) (by rw [l1]; omega) (inv0.set hr hin) (by rw [l1]; exact hs1) ?_
        refine wpQuiet_mono (fun a' h' inv1 => ?_) _ _ H
        rw [l1] at inv1 ⊢
        refine HeadQ.seg hsel hs hc hn (fun _ _ hL => seqB_ready hL.1) _ (i + 1) _ _ (fun j hj => by rw [l2] at hj; rw [List.getElem?_drop, List.getElem?_take_of_lt (by omega)]; simp) (by rw [l2]; omega) inv1 (by rw [l2]; exact hs2) ?_
        refine wpQuiet_mono (fun a'' h'' _ => ?_) _ _ h'
        rw [l2]
        exact ⟨hq, fun w' hw' => h'' w' (Kp.iff.1 hw')⟩)
  rw [Nat.sub_add_cancel (by omega), Nat.add_sub_cancel' (Nat.le_of_lt hn)] at T
  exact wp_region_any hm T
end
end Go.Proofs.YtijnabgehlkghaaDoor
