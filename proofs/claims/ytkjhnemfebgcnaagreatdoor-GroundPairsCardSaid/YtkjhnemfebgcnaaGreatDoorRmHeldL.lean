/-
  A region that draws its order, with operations in its head that make memory of their own: each may lean on what is known of those that it names ('ln o p': o leans on p). Two of them whose turns may come in either order lean on neither. One walk in the order of the text serves every order.
-/
import Derived.Test.YtkjhnemfebgcnaaGreatDoorGc3
namespace Go.Proofs.YtkjhnemfebgcnaaGreatDoor
open Go Go.RowKit
namespace HL
section
variable {P : Program} {ops : Array Oper} {md : Region.Mode} {w0 : World} {hb : Oper → Bool} {ln : Oper → Oper → Bool} {S : Oper → Value → World → Prop}
/-- What an operation may lean on ('none': what follows the head: everything). -/
def sees (ln : Oper → Oper → Bool) : Option Oper → Oper → Bool
  | none, _ => true
  | some y, o => ln y o
structure KOK (w0 : World) (K : Option Oper → World → Prop) : Prop where
  ex : ∃ w, KpW w0 w ∧ ∀ x, K x w
  st : ∀ x w w', K x w → KpW w w' → K x w'
def HeldXK (P : Program) (w0 : World) (hb : Oper → Bool) (S : Oper → Value → World → Prop) (K : Option Oper → World → Prop) (o : Oper) (x : Sem Next) : Prop := ∀ w, KpW w0 w → (hb o = true → K (some o) w) → HN.heldUpon P w (HN.RX P w0 hb S o x) (x.run P w)
theorem HeldXK.some {K : Option Oper → World → Prop} (hK : KOK w0 K) {o : Oper} {x : Sem Next} (h : HeldXK P w0 hb S K o x) : ∃ v w, KpW w0 w ∧ (∀ y, K y w) ∧ HN.RX P w0 hb S o x v w := by
  obtain ⟨w, h1, h2⟩ := hK.ex
  have h0 := h w h1 (fun _ => h2 _)
  generalize x.run P w = r at h0
  cases r with
  | ok n w' =>
    cases n
    case value v => exact ⟨v, w', h1.trans h0.1, fun y => hK.st _ _ _ (h2 y) h0.1, h0.2⟩
    case skip => exact ⟨_, w', h1.trans h0.1, fun y => hK.st _ _ _ (h2 y) h0.1, h0.2⟩
    case enter f args =>
      obtain ⟨e, w'', fr, ⟨v, -, h3, h4⟩, -⟩ := h0.2 []
      exact ⟨v, w'', h1.trans h3, fun y => hK.st _ _ _ (h2 y) h3, h4⟩
    all_goals exact (h0 : False).elim
  | halt y w' => exact absurd h0 (by cases y <;> exact id)
/-- What is known once an operation has yielded. -/
def more (P : Program) (w0 : World) (hb : Oper → Bool) (ln : Oper → Oper → Bool) (S : Oper → Value → World → Prop) (K : Option Oper → World → Prop) (o : Oper) (x : Sem Next) (v : Value) : Option Oper → World → Prop := fun y w => K y w ∧ (sees ln y o = true → HN.RX P w0 hb S o x v w)
theorem KOK.next {K : Option Oper → World → Prop} (hS : ∀ o v w w', S o v w → KpW w w' → S o v w') (hK : KOK w0 K) {o : Oper} {x : Sem Next} {v : Value} (h : ∃ w, KpW w0 w ∧ (∀ y, K y w) ∧ HN.RX P w0 hb S o x v w) : KOK w0 (more P w0 hb ln S K o x v) :=
  ⟨by obtain ⟨w, h1, h2, h3⟩ := h; exact ⟨w, h1, fun y => ⟨h2 y, fun _ => h3⟩⟩, fun _ _ _ hx hy => ⟨hK.st _ _ _ hx.1 hy, fun hs => (hx.2 hs).stay hS hy⟩⟩
def hOpK (P : Program) (ops : Array Oper) (w0 : World) (hb : Oper → Bool) (ln : Oper → Oper → Bool) (S : Oper → Value → World → Prop) (o : Oper) (K : Option Oper → World → Prop) (a : Act) (next : (Option Oper → World → Prop) → Act → Prop) : Prop :=
  if Region.wanted o (yielded ops a.tmps) then HeldXK P w0 hb S K o (execOp a.eval o) ∧ ∀ v, (∃ w, KpW w0 w ∧ (∀ y, K y w) ∧ HN.RX P w0 hb S o (execOp a.eval o) v w) → next (more P w0 hb ln S K o (execOp a.eval o) v) (a.put o.dst v)
  else next K (a.put o.dst undef)
theorem hOpK.mono (hS : ∀ o v w w', S o v w → KpW w w' → S o v w') {o : Oper} {K : Option Oper → World → Prop} (hK : KOK w0 K) {a : Act} {next next' : (Option Oper → World → Prop) → Act → Prop} (hn : ∀ K a, KOK w0 K → next K a → next' K a) (h : hOpK P ops w0 hb ln S o K a next) : hOpK P ops w0 hb ln S o K a next' := by
  unfold hOpK at *
  split
  · rename_i e; rw [if_pos e] at h; exact ⟨h.1, fun v hv => hn _ _ (hK.next hS hv) (h.2 v hv)⟩
  · rename_i e; rw [if_neg e] at h; exact hn _ _ hK h
theorem hOpK.swap {oi oj : Oper} {K : Option Oper → World → Prop} (hK : KOK w0 K) {a : Act} {next : (Option Oper → World → Prop) → Act → Prop} (hap : oi.apart ops oj = true) (hd : hb oi = true → hb oj = true → ln oi oj = false ∧ ln oj oi = false) (hsi : ∀ cs b, oi.op ≠ .select cs b) (hsj : ∀ cs b, oj.op ≠ .select cs b)
    (h : hOpK P ops w0 hb ln S oi K a (fun K' a' => hOpK P ops w0 hb ln S oj K' a' next)) : hOpK P ops w0 hb ln S oj K a (fun K' a' => hOpK P ops w0 hb ln S oi K' a' next) := by
  obtain ⟨p1, p2, p3⟩ := Oper.apart_spec hap
  have ej : ∀ v, execOp (a.put oi.dst v).eval oj = execOp a.eval oj := fun v => execOp_put oj hsj a oi.dst v p1
  have wj : ∀ v, Region.wanted oj (yielded ops (a.put oi.dst v).tmps) = Region.wanted oj (yielded ops a.tmps) := fun v => wanted_put oj a oi.dst v p1
  have ei : ∀ v, execOp (a.put oj.dst v).eval oi = execOp a.eval oi := fun v => execOp_put oi hsi a oj.dst v p3
  have wi : ∀ v, Region.wanted oi (yielded ops (a.put oj.dst v).tmps) = Region.wanted oi (yielded ops a.tmps) := fun v => wanted_put oi a oj.dst v p3
  have hcomm : ∀ v u, (a.put oi.dst v).put oj.dst u = (a.put oj.dst u).put oi.dst v := fun v u => Act.put_comm a v u p2
  simp only [hOpK, ej, wj, ei, wi] at h ⊢
  by_cases hi : Region.wanted oi (yielded ops a.tmps) = true
  · simp only [hi, if_true] at h ⊢
    obtain ⟨hI, hN⟩ := h
    obtain ⟨v0, w1, h1, h2, h3⟩ := hI.some hK
    by_cases hj : Region.wanted oj (yielded ops a.tmps) = true
    · simp only [hj, if_true] at hN ⊢
      refine ⟨fun w hw hk => (hN v0 ⟨w1, h1, h2, h3⟩).1 w hw (fun hbj => ⟨hk hbj, fun hs => ?_⟩), fun u hu => ⟨fun w hw hk => hI w hw (fun hbi => (hk hbi).1), fun v hv => ?_⟩⟩
      · unfold HN.RX at h3 ⊢
        split
        · rename_i hbi
          have := (hd hbi hbj).2
          rw [show sees ln (some oj) oi = ln oj oi from rfl, this] at hs
          cases hs
        · rename_i hbi; rw [if_neg hbi] at h3; exact h3
      · obtain ⟨w, g1, g2, g3⟩ := hv
        have g4 : HN.RX P w0 hb S oj (execOp a.eval oj) u w := (g2 none).2 rfl
        have := (hN v ⟨w, g1, fun y => (g2 y).1, g3⟩).2 u ⟨w, g1, fun y => ⟨(g2 y).1, fun _ => g3⟩, g4⟩
        rw [hcomm] at this
        have e : more P w0 hb ln S (more P w0 hb ln S K oi (execOp a.eval oi) v) oj (execOp a.eval oj) u = more P w0 hb ln S (more P w0 hb ln S K oj (execOp a.eval oj) u) oi (execOp a.eval oi) v := funext fun y => funext fun w => propext ⟨fun h => ⟨⟨h.1.1, h.2⟩, h.1.2⟩, fun h => ⟨⟨h.1.1, h.2⟩, h.1.2⟩⟩
        rw [← e]
        exact this
    · simp only [hj] at hN ⊢
      refine ⟨hI, fun v hv => ?_⟩
      have := hN v hv
      rw [if_neg (by simp)] at this
      rw [hcomm] at this
      exact this
  · simp only [hi] at h ⊢
    rw [if_neg (by simp)] at h
    by_cases hj : Region.wanted oj (yielded ops a.tmps) = true
    · simp only [hj, if_true] at h ⊢
      refine ⟨h.1, fun u hu => ?_⟩
      rw [if_neg (by simp)]
      have := h.2 u hu
      rw [hcomm] at this
      exact this
    · simp only [hj] at h ⊢
      rw [if_neg (by simp)] at h ⊢
      rw [if_neg (by simp)]
      rw [hcomm] at h
      exact h
def HeadK (P : Program) (md : Region.Mode) (ops : Array Oper) (w0 : World) (hb : Oper → Bool) (ln : Oper → Oper → Bool) (S : Oper → Value → World → Prop) (n : Nat) (L : Array Bool → (Option Oper → World → Prop) → Act → Prop) (f : Nat) : Array Bool → (Option Oper → World → Prop) → Act → Prop :=
  f.rec L fun _ next listed K a => Region.ready md ops listed ≠ [] ∧ ∀ i ∈ Region.ready md ops listed, i < n ∧ ∃ o, ops[i]? = some o ∧ hOpK P ops w0 hb ln S o K a (next (listed.setIfInBounds i true))
theorem HeadK.any {n g : Nat} {L : Array Bool → (Option Oper → World → Prop) → Act → Prop} {Q' : Exit → Act → World → Prop} (hS : ∀ o v w w', S o v w → KpW w w' → S o v w')
    (hL : ∀ listed K a w, KpW w0 w → (∀ y, K y w) → L listed K a → wpAny P md ops Q' g listed a w) (f : Nat) :
    ∀ (listed : Array Bool) (K : Option Oper → World → Prop) (a : Act) (w : World), (∀ y w w', K y w → KpW w w' → K y w') → KpW w0 w → (∀ y, K y w) → HeadK P md ops w0 hb ln S n L f listed K a → wpAny P md ops Q' (f + g) listed a w := by
  induction f with
  | zero => intro listed K a w _ hw hk h; rw [Nat.zero_add]; exact hL _ _ _ _ hw hk h
  | succ f ih =>
    intro listed K a w hK hw hk h
    rw [Nat.succ_add]
    refine ⟨fun h0 => absurd h0 h.1, fun i hi => ?_⟩
    obtain ⟨-, o, ho, h2⟩ := h.2 i hi
    unfold wpOp
    simp only [ho]
    unfold hOpK at h2
    split
    · rename_i hwt
      rw [if_pos hwt] at h2
      refine .inl ?_
      have h3 := h2.1 w hw (fun _ => hk _)
      unfold Oper.wp
      have hgo : ∀ v w', KpW w w' → HN.RX P w0 hb S o (execOp a.eval o) v w' → wpAny P md ops Q' (f + g) (listed.setIfInBounds i true) (a.put o.dst v) w' := fun v w' h4 h5 =>
        ih _ _ _ w' (fun _ x y hx hy => ⟨hK _ _ _ hx.1 hy, fun hs => (hx.2 hs).stay hS hy⟩) (hw.trans h4) (fun y => ⟨hK _ _ _ (hk y) h4, fun _ => h5⟩) (h2.2 v ⟨w', hw.trans h4, fun y => hK _ _ _ (hk y) h4, h5⟩)
      generalize (execOp a.eval o).run P w = r at h3
      cases r with
      | ok nx w' =>
        cases nx
        case value v => exact hgo _ _ h3.1 h3.2
        case skip => exact hgo _ _ h3.1 h3.2
        case enter fn args => exact Calls.mono h3.2 (fun e w'' h => by obtain ⟨v, he, h4, h5⟩ := h; subst he; exact hgo _ _ h4 h5)
        all_goals exact (h3 : False).elim
      | halt y w' => exact absurd h3 (by cases y <;> exact id)
    · rename_i hwt
      rw [if_neg hwt] at h2
      exact ih _ _ _ w hK hw hk h2
theorem hOpK.out {o : Oper} {K : Option Oper → World → Prop} (hK : KOK w0 K) {a : Act} {next : (Option Oper → World → Prop) → Act → Prop} (h : hOpK P ops w0 hb ln S o K a next) : ∃ K' a', next K' a' := by
  unfold hOpK at h
  split at h
  · obtain ⟨v, w, h1, h2⟩ := h.1.some hK
    exact ⟨_, _, h.2 v ⟨w, h1, h2⟩⟩
  · exact ⟨_, _, h⟩
def Free (md : Region.Mode) (ops : Array Oper) (hb : Oper → Bool) (ln : Oper → Oper → Bool) (n : Nat) : Prop := ∀ (listed : Array Bool) (i j : Nat) (oi oj : Oper), HeadInv md ops n listed → ops[i]? = some oi → ops[j]? = some oj → i ≠ j → i ∈ Region.ready md ops listed → j ∈ Region.ready md ops listed → hb oi = true → hb oj = true → ln oi oj = false ∧ ln oj oi = false
theorem HeadK.first {n i : Nat} {oi : Oper} {L : Array Bool → (Option Oper → World → Prop) → Act → Prop} (hS : ∀ o v w w', S o v w → KpW w w' → S o v w') (hdep : Free md ops hb ln n)
    (hi : ops[i]? = some oi) (hsel : ∀ (j : Nat) (o : Oper) cs b, ops[j]? = some o → o.op ≠ .select cs b)
    (hs : Region.sinkB md ops n = true) (hc : Region.chainB md ops n = true) (hn : n < ops.size) (hin : i < n) (hdone : ∀ listed K a, L listed K a → ∀ j ∈ Region.ready md ops listed, n ≤ j) (f : Nat) :
    ∀ (listed : Array Bool) (K : Option Oper → World → Prop) (a : Act), KOK w0 K → HeadInv md ops n listed →
      (∀ j oj, ops[j]? = some oj → j ≠ i → listed.getD j true = false → (∀ e ∈ oj.after, Region.binds md e = true → e.on ≠ i) → oi.apart ops oj = true) →
      i ∈ Region.ready md ops listed → hOpK P ops w0 hb ln S oi K a (HeadK P md ops w0 hb ln S n L f (listed.setIfInBounds i true)) → HeadK P md ops w0 hb ln S n L (f + 1) listed K a := by
  induction f with
  | zero =>
    intro listed K a hK inv _ hr H
    refine ⟨List.ne_nil_of_mem hr, fun j hj => ?_⟩
    have hjn : j < n := Nat.lt_of_not_le fun h => tail_waits hs hc hn inv _ i rfl hin (mem_ready.1 hr).1 j h hj
    rcases Nat.decEq j i with hji | hji
    · obtain ⟨K', a', hl⟩ := H.out hK
      exact absurd (hdone _ _ _ hl j (ready_mono hj hji)) (by omega)
    · subst hji; exact ⟨hjn, oi, hi, H⟩
  | succ f ih =>
    intro listed K a hK inv hfree hr H
    refine ⟨List.ne_nil_of_mem hr, fun j hj => ?_⟩
    have hjn : j < n := Nat.lt_of_not_le fun h => tail_waits hs hc hn inv _ i rfl hin (mem_ready.1 hr).1 j h hj
    refine ⟨hjn, ?_⟩
    rcases Nat.decEq j i with hji | hji
    · obtain ⟨hun, oj, hoj, hall⟩ := mem_ready.1 hj
      have hnot : ∀ e ∈ oj.after, Region.binds md e = true → e.on ≠ i := fun e he hb heq => by
        have h1 := hall e he hb
        rw [heq, getD_both (mem_ready.1 hr).1] at h1
        cases h1
      have hap := hfree j oj hoj hji hun hnot
      refine ⟨oj, hoj, ?_⟩
      have H2 : hOpK P ops w0 hb ln S oi K a (fun K' a' => hOpK P ops w0 hb ln S oj K' a' (HeadK P md ops w0 hb ln S n L f ((listed.setIfInBounds j true).setIfInBounds i true))) := H.mono hS hK (fun K' a' _ h => by
        obtain ⟨-, o, ho, h3⟩ := h.2 j (ready_mono hj hji)
        rw [hoj] at ho
        cases ho
        rw [Array.setIfInBounds_comm _ _ hji]
        exact h3)
      refine (H2.swap hK hap (hdep listed i j oi oj inv hi hoj (Ne.symm hji) hr hj) (fun cs b => hsel i oi cs b hi) (fun cs b => hsel j oj cs b hoj)).mono hS hK (fun K' a' hK' h => ?_)
      refine ih _ K' a' hK' (inv.set hj hjn) (fun k ok hk hki hk2 hno => hfree k ok hk hki ?_ hno) (ready_mono hr (Ne.symm hji)) h
      rcases Nat.decEq j k with hjk | hjk
      · rwa [getD_set_ne true hjk] at hk2
      · subst hjk; exact hun
    · subst hji; exact ⟨oi, hi, H⟩
def wpHoldK (P : Program) (ops : Array Oper) (w0 : World) (hb : Oper → Bool) (ln : Oper → Oper → Bool) (S : Oper → Value → World → Prop) (Q : (Option Oper → World → Prop) → Act → Prop) : List Oper → (Option Oper → World → Prop) → Act → Prop
  | [], K, a => Q K a
  | o :: r, K, a => hOpK P ops w0 hb ln S o K a (wpHoldK P ops w0 hb ln S Q r)
theorem HeadK.lex {n g : Nat} {Lq : (Option Oper → World → Prop) → Act → Prop} (hS : ∀ o v w w', S o v w → KpW w w' → S o v w') (hdep : Free md ops hb ln n)
    (hsel : Region.noSelect ops = true) (hs : Region.sinkB md ops n = true) (hc : Region.chainB md ops n = true) (hn : n < ops.size) (l : List Oper) :
    ∀ (k : Nat) (listed : Array Bool) (K : Option Oper → World → Prop) (a : Act), KOK w0 K → (∀ j, j < l.length → l[j]? = ops[k + j]?) → k + l.length = n → HeadInv md ops n listed → Region.lexHead md ops g l.length k listed = true → wpHoldK P ops w0 hb ln S Lq l K a →
    HeadK P md ops w0 hb ln S n (fun listed' K' a' => Region.seqB md ops g n listed' = true ∧ Lq K' a') l.length listed K a := by
  induction l with
  | nil =>
    intro k listed K a _ _ hk _ hB h
    obtain rfl : k = n := by simpa using hk
    exact ⟨by simpa [Region.lexHead] using hB, h⟩
  | cons o l ih =>
    intro k listed K a hK hl hk inv hB h
    have h0 : ops[k]? = some o := by simpa using (hl 0 (by simp)).symm
    simp only [List.length_cons, Region.lexHead, Bool.and_eq_true, List.contains_iff_mem] at hB
    have hkn : k < n := by simp only [List.length_cons] at hk; omega
    refine HeadK.first hS hdep h0 (Region.noSelect_spec hsel) hs hc hn hkn (fun _ _ _ hL => seqB_ready hL.1) l.length listed K a hK inv (Region.free_spec h0 hB.1.2) hB.1.1 ?_
    exact hOpK.mono hS hK (fun K' a' hK' h' => ih (k + 1) _ K' a' hK' (fun j hj => by have := hl (j + 1) (by simp; omega); simpa [Nat.add_assoc, Nat.add_comm 1 j] using this) (by simp only [List.length_cons] at hk; omega) (inv.set hB.1.1 hkn) hB.2 h') h
/-- Ways through the operations: of two held ones of which one leans on the other, both lie on one of the ways. -/
def waysB (md : Region.Mode) (ops : Array Oper) (hb : Oper → Bool) (ln : Oper → Oper → Bool) (ps : List (List Nat)) : Bool :=
  ps.all (HN.pathB md ops) && (List.range ops.size).all fun i => match ops[i]? with
    | none => true
    | some oi => !hb oi || (List.range ops.size).all fun j => match ops[j]? with
      | none => true
      | some oj => i == j || !hb oj || !ln oi oj || ps.any fun p => p.contains i && p.contains j
theorem waysB_spec {ps : List (List Nat)} (h : waysB md ops hb ln ps = true) {n : Nat} : Free md ops hb ln n := by
  simp only [waysB, Bool.and_eq_true] at h
  have key : ∀ (listed : Array Bool) (i j : Nat) (oi oj : Oper), HeadInv md ops n listed → ops[i]? = some oi → ops[j]? = some oj → i ≠ j → i ∈ Region.ready md ops listed → j ∈ Region.ready md ops listed → hb oi = true → hb oj = true → ln oi oj = false := fun listed i j oi oj inv hi hj hne hri hrj h2 h3 => by
    have li := (Array.getElem?_eq_some_iff.1 hi).1
    have lj := (Array.getElem?_eq_some_iff.1 hj).1
    have ki := List.all_eq_true.1 h.2 i (List.mem_range.2 li)
    rw [hi] at ki
    simp only [h2, Bool.not_true, Bool.false_or] at ki
    have kj := List.all_eq_true.1 ki j (List.mem_range.2 lj)
    rw [hj] at kj
    cases hln : ln oi oj
    · rfl
    · simp only [h3, hln, Bool.not_true, Bool.or_false, Bool.or_eq_true, beq_iff_eq, List.any_eq_true, Bool.and_eq_true, List.contains_iff_mem] at kj
      rcases kj with kj | ⟨p, hp, k1, k2⟩
      · exact (hne kj).elim
      · exact (HN.path_two inv hne hri hrj p (List.all_eq_true.1 h.1 p hp) k1 k2).elim
  intro listed i j oi oj inv hi hj hne hri hrj h2 h3
  exact ⟨key listed i j oi oj inv hi hj hne hri hrj h2 h3, key listed j i oj oi inv hj hi (Ne.symm hne) hrj hri h3 h2⟩
theorem held_ways {id : Nat} {Q : Exit → Act → World → Prop} {a : Act} {w : World} {l : List Oper} (hb : Oper → Bool) (ln : Oper → Oper → Bool) (S : Oper → Value → World → Prop) (n : Nat) (ps : List (List Nat)) (hm : P.follows .mixedOrders = true) (hB : Region.lexTailB .any l.toArray n = true) (hD : waysB .any l.toArray hb ln ps = true)
    (hS : ∀ o v w w', S o v w → Below w.heap.size w w' → S o v w')
    (h : wpHoldK P l.toArray w hb ln S (fun K a' => ∀ w', Below w.heap.size w w' → K none w' → wpList P l.toArray Q (l.drop n) a' w') (l.take n) (fun _ _ => True) a) : (Code.region id l.toArray true).wp P Q a w := by
  simp only [Region.lexTailB, Bool.and_eq_true, decide_eq_true_eq] at hB
  obtain ⟨⟨⟨⟨hsel, hn⟩, hs⟩, hc⟩, hlex⟩ := hB
  have hlen : n < l.length := by simpa using hn
  have hln : (l.take n).length = n := by simp; omega
  have hdl : (l.drop n).length = l.toArray.size - n := by simp
  have hS' : ∀ o v x y, S o v x → KpW x y → S o v y := fun o v x y hx hy => hS o v x y hx (KpW.iff.1 hy)
  have inv0 : HeadInv .any l.toArray n (Array.replicate l.toArray.size false) :=
    ⟨by simp, fun j oj _ hl => (by rw [getD_replicate_false] at hl; cases hl), fun t _ ht => getD_in (by simpa using ht) (getD_replicate_false _ _)⟩
  have H := HeadK.lex (md := .any) (g := l.toArray.size - n) hS' (waysB_spec hD) hsel hs hc hn (l.take n) 0 _ (fun _ _ => True) a ⟨⟨w, KpW.self _, fun _ => trivial⟩, fun _ _ _ _ _ => trivial⟩ (fun j hj => by
    have hj' : j < n := by rw [hln] at hj; exact hj
    simp [hj']) (by simpa using hln) inv0 (by rw [hln]; exact hlex) h
  have T := HeadK.any (Q' := Q) (g := l.toArray.size - n) hS' (fun listed K' a' w' hw' hk hL => by
    have := wpAny_of_seq (md := .any) (Q' := Q) (l.drop n) n listed a' w' (fun j => by simp [List.getElem?_drop]) (by rw [hdl]; exact hL.1) (hL.2 w' (KpW.iff.1 hw') (hk none))
    rwa [hdl] at this) _ _ _ a w.drew (fun _ _ _ _ _ => trivial) (KpW.iff.2 (below_drew w)) (fun _ => trivial) H
  rw [hln, Nat.add_sub_cancel' (Nat.le_of_lt hn)] at T
  exact wp_region_any hm T
theorem wpHoldK_append {Q : (Option Oper → World → Prop) → Act → Prop} (l1 l2 : List Oper) : wpHoldK P ops w0 hb ln S Q (l1 ++ l2) = wpHoldK P ops w0 hb ln S (wpHoldK P ops w0 hb ln S Q l2) l1 := by
  induction l1 with
  | nil => rfl
  | cons o l ih =>
    funext K a
    show hOpK P ops w0 hb ln S o K a (wpHoldK P ops w0 hb ln S Q (l ++ l2)) = hOpK P ops w0 hb ln S o K a (wpHoldK P ops w0 hb ln S (wpHoldK P ops w0 hb ln S Q l2) l)
    rw [ih]
theorem hold_quiet {Q : (Option Oper → World → Prop) → Act → Prop} {QQ : Act → Prop} (l : List Oper) (hl : l.all (fun o => !hb o) = true) :
    ∀ (K : Option Oper → World → Prop) (a : Act), (∀ K' a', (∀ y w, K' y w → K y w) → QQ a' → Q K' a') → (∀ w1, KpW w0 w1 → wpQuiet P ops (KpW w1) QQ l a) → wpHoldK P ops w0 hb ln S Q l K a := by
  induction l with
  | nil => intro K a hQ h; exact hQ _ _ (fun _ _ h => h) (h w0 (KpW.self _))
  | cons o l ih =>
    intro K a hQ h
    simp only [List.all_cons, Bool.and_eq_true, Bool.not_eq_true'] at hl
    obtain ⟨ho, hl⟩ := hl
    show hOpK P ops w0 hb ln S o K a (wpHoldK P ops w0 hb ln S Q l)
    have h' : ∀ w1, KpW w0 w1 → (if Region.wanted o (yielded ops a.tmps) then o.quiet P a (KpW w1) (wpQuiet P ops (KpW w1) QQ l) else wpQuiet P ops (KpW w1) QQ l (a.put o.dst undef)) := h
    unfold hOpK
    split
    · rename_i hw
      simp only [hw, if_true] at h'
      obtain ⟨v0, q0, -⟩ := h' w0 (KpW.self _)
      have hq : ∀ w1, KpW w0 w1 → o.quietAt P a (KpW w1) w1 v0 ∧ wpQuiet P ops (KpW w1) QQ l (a.put o.dst v0) := fun w1 hw1 => by
        obtain ⟨v1, q1, k1⟩ := h' w1 hw1
        obtain rfl : v0 = v1 := OneVal.quietAt_one (q0 w1 hw1) (q1 w1 (KpW.self _))
        exact ⟨q1 w1 (KpW.self _), k1⟩
      have hone : ∀ w, HN.RX P w0 hb S o (execOp a.eval o) v0 w := fun w => by
        unfold HN.RX
        rw [if_neg (by simp [ho])]
        exact fun u hu => OneVal.quietAt_one (hq w0 (KpW.self _)).1 (hu w0 (KpW.self _))
      refine ⟨fun w hw0 _ => ?_, fun v hv => ?_⟩
      · have := (hq w hw0).1
        unfold Oper.quietAt at this
        generalize (execOp a.eval o).run P w = r at this
        cases r with
        | ok n w' =>
          cases n
          case value u => obtain ⟨rfl, rfl⟩ := this; exact ⟨KpW.self _, hone _⟩
          case skip => obtain ⟨rfl, rfl⟩ := this; exact ⟨KpW.self _, hone _⟩
          case enter f args => obtain ⟨rfl, this⟩ := this; exact ⟨KpW.self _, Calls.mono this (fun e w'' h => ⟨v0, h.1, h.2, hone _⟩)⟩
          all_goals exact (this : False).elim
        | halt y w' => exact (this : False).elim
      · obtain ⟨w, hw0, -, hv⟩ := hv
        unfold HN.RX at hv
        rw [if_neg (by simp [ho])] at hv
        obtain rfl : v = v0 := hv v0 (fun w1 hw1 => (hq w1 hw1).1)
        exact ih hl _ _ (fun K' a' hK' ha' => hQ K' a' (fun y w h => (hK' y w h).1) ha') (fun w1 hw1 => (hq w1 hw1).2)
    · rename_i hw
      simp only [hw] at h'
      refine ih hl _ _ hQ (fun w1 hw1 => ?_)
      have := h' w1 hw1
      rwa [if_neg (by simp)] at this
/-- What is known, of a held operation's own, once it has yielded. -/
def known (ln : Oper → Oper → Bool) (S : Oper → Value → World → Prop) (K : Option Oper → World → Prop) (o : Oper) (v : Value) : Option Oper → World → Prop := fun y w => K y w ∧ (sees ln y o = true → S o v w)
/-- An operation that makes memory of its own; it may lean on what it sees. -/
theorem hold_at {Q : (Option Oper → World → Prop) → Act → Prop} {o : Oper} {l : List Oper} {K : Option Oper → World → Prop} {a : Act} (ho : hb o = true) (hg : Region.wanted o (yielded ops a.tmps) = true) (hx : ∀ w, KpW w0 w → K (some o) w → HN.heldUpon P w (S o) ((execOp a.eval o).run P w))
    (h : ∀ v, (∃ w, KpW w0 w ∧ (∀ y, K y w) ∧ S o v w) → wpHoldK P ops w0 hb ln S Q l (known ln S K o v) (a.put o.dst v)) : wpHoldK P ops w0 hb ln S Q (o :: l) K a := by
  show hOpK P ops w0 hb ln S o K a (wpHoldK P ops w0 hb ln S Q l)
  have e : ∀ v w, HN.RX P w0 hb S o (execOp a.eval o) v w = S o v w := fun v w => by unfold HN.RX; rw [if_pos ho]
  have e2 : HN.RX P w0 hb S o (execOp a.eval o) = S o := funext fun v => funext fun w => e v w
  have e3 : ∀ v, more P w0 hb ln S K o (execOp a.eval o) v = known ln S K o v := fun v => by unfold more known; rw [e2]
  unfold hOpK
  rw [if_pos hg]
  unfold HeldXK
  rw [e2]
  exact ⟨fun w hw hk => hx w hw (hk ho), fun v hv => by rw [e3]; exact h v hv⟩
/-- A run of operations that yield one value each, then the rest. -/
theorem hold_run {Q : (Option Oper → World → Prop) → Act → Prop} {l : List Oper} {K : Option Oper → World → Prop} {a : Act} (k : Nat) (hl : (l.take k).all (fun o => !hb o) = true)
    (h : ∀ w1, Below w0.heap.size w0 w1 → wpQuiet P ops (fun w' => ∃ x : KeptW w1, w' = x.v) (fun a' => ∀ K', (∀ y w, K' y w → K y w) → wpHoldK P ops w0 hb ln S Q (l.drop k) K' a') (l.take k) a) : wpHoldK P ops w0 hb ln S Q l K a := by
  have e := wpHoldK_append (P := P) (ops := ops) (w0 := w0) (hb := hb) (ln := ln) (S := S) (Q := Q) (l.take k) (l.drop k)
  rw [List.take_append_drop] at e
  rw [e]
  exact hold_quiet _ hl _ _ (fun K' a' hK h => h K' hK) (fun w1 hw1 => h w1 (KpW.iff.1 hw1))
end
end HL
end Go.Proofs.YtkjhnemfebgcnaaGreatDoor
