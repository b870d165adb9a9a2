/- An evaluator of closed calls: part C. What it comes to, the program comes to, in every world that holds the listed variables. -/
import Derived.Test.YtkjhnemfebgcnaaGreatDoorGc5
namespace Go.Proofs.YtkjhnemfebgcnaaGreatDoor.Ev
open Go Go.RowKit Go.MapKept
variable {ρ : Rn} {P : Program}
/-- What one operation comes to. -/
inductive R where
  | val (v : Value) (h : H)
  | skip (h : H)
  | enter (f : FuncId) (args : Array Value)
  | round (l : Nat) (args : Array Value)
def R.nx (h : H) : R → Nat
  | .val _ h' => h'.next
  | .skip h' => h'.next
  | _ => h.next
def pureRun (P : Program) : Sem Next → Option Value
  | .pure (.value v) => some v
  | .program k => pureRun P (k P)
  | .choose q k => if q.forced then pureRun P (k 0) else none
  | _ => none
theorem pureRun_ok (s : Sem Next) : ∀ {v : Value}, pureRun P s = some v → ∀ w, s.run P w = .ok (.value v) w := by
  induction s with
  | pure a =>
    intro v e w
    cases a <;> simp [pureRun] at e
    subst e; rfl
  | program k ih => intro v e w; exact ih P e w
  | choose q k ih =>
    intro v e w
    simp only [pureRun] at e
    split at e
    · rename_i hq; simp [Sem.run, hq]; exact ih 0 e w
    · cases e
  | _ => intro v e; simp [pureRun] at e
def pureKind : Op → Bool
  | .move _ | .assign _ | .pick .. | .build .. | .nilCheck _ | .binOp .. | .unOp .. | .convert .. | .makeInterface .. | .makeFunc .. | .slice .. | .field .. | .index .. | .typeAssert .. | .extract .. => true
  | .call { callee := .builtin _, .. } => true
  | _ => false
def evPure (P : Program) (o : Oper) (e : Operand → Value) : Option Value :=
  if pureKind o.op = true ∧ o.op.operands.toList.all (fun x => flat (e x)) = true then (match pureRun P (execOp e o) with
    | some v => if flat v = true then some v else none
    | none => none) else none
theorem evPure_ok {w : World} {o : Oper} {e e' : Operand → Value} {v : Value} (he : ∀ x ∈ o.op.operands, VR ρ (e x) (e' x)) (h : evPure P o e = some v) : (execOp e' o).run P w = .ok (.value v) w ∧ VR ρ v v := by
  unfold evPure at h
  split at h
  · rename_i hc
    obtain ⟨hk, hall⟩ := hc
    split at h
    · rename_i u hp
      split at h
      · rename_i hfl
        cases h
        have hs : ∀ cs b, o.op ≠ .select cs b := fun cs b hb => by rw [hb] at hk; cases hk
        have hcg : execOp e' o = execOp e o := execOp_congr o hs fun x hx => flat_eq (by
          rw [List.all_eq_true] at hall
          exact hall x (by simpa using hx)) (he x hx)
        rw [hcg]
        exact ⟨pureRun_ok _ hp w, flat_VR ρ hfl⟩
      · cases h
    · cases h
  · cases h
def aNonNil : Value → Bool
  | .pointer (some _) | .func (.func _) _ _ | .func (.yield _) _ _ => true
  | _ => false
def callable (P : Program) (g : FuncId) : Bool := match P.funcs[g]? with
  | some fn => !(fn.name == "runtime.NumGoroutine") && fn.body.isSome
  | none => false
theorem callable_run {w : World} {g : FuncId} {args : Array Value} (h : callable P g = true) : (callFunc g args).run P w = .ok (.enter g args) w := by
  unfold callable at h
  cases hf : P.funcs[g]? with
  | none => rw [hf] at h; cases h
  | some fn =>
    rw [hf] at h
    simp at h
    obtain ⟨h1, h2⟩ := h
    have h2' : fn.body ≠ none := by cases hb : fn.body <;> simp_all
    simp [callFunc, hf, h1, h2']
def aLenV (h : H) : TypeDesc → Value → Option Value
  | .slice _, .slice _ n _ => some (.int .i64 n)
  | .map _ _, .map (some r) => match h.get r with
    | some (.map es _) => some (.int .i64 es.size)
    | _ => none
  | _, _ => none
theorem ER.len {l l' : List MapEntry} (h : ER ρ l l') : l'.length = l.length := by induction h <;> simp_all
theorem aLenV_ok {h : H} {w : World} {t ty : TypeId} {d : TypeDesc} {x x' r : Value} (hr : RW ρ h.get w) (hu : P.underlying t = some d) (hx : VR ρ x x') (e : aLenV h d x = some r) :
    (Builtin.len_ #[t] ty #[x']).run P w = .ok r w ∧ VR ρ r r := by
  unfold aLenV at e
  split at e
  · rename_i el a n c
    cases e
    have hx' : ∃ a' c', x' = .slice a' n c' := by cases hx <;> exact ⟨_, _, rfl⟩
    obtain ⟨a', c', rfl⟩ := hx'
    exact ⟨by simp [Builtin.len_, run_underlying hu, goInt], .int _ _⟩
  · rename_i k el rr
    split at e
    · rename_i es clock hg
      cases e
      cases hx with
      | @map _ j cc hj =>
        obtain ⟨j', c', hj', hO⟩ := hr.obj _ _ hg
        rw [hj] at hj'; cases hj'
        obtain ⟨es', hx2, hE⟩ := hO
        have := hE.len
        simp at this
        exact ⟨by simp [Builtin.len_, run_underlying hu, Go.MapKept.run_getObj_map hx2, goInt, this], .int _ _⟩
    · cases e
  · cases e
def evCall (P : Program) (c : Call) (e : Operand → Value) (h : H) : Option R := match c.callee with
  | .value f => match e f with
    | .func (.func g) first cap => if callable P g = true then some (.enter g (first ++ c.args.map e ++ cap)) else none
    | .func (.yield l) _ _ => some (.round l (c.args.map e))
    | _ => none
  | .builtin .append => (aApp P h c.argTypes (c.args.map e)).map fun x => .val x.1 x.2
  | .builtin .copy => (aCopy P h c.argTypes (c.args.map e)).map fun x => .val x.1 x.2
  | .builtin .len => match c.argTypes.toList, (c.args.map e).toList with
    | [t], [x] => match P.underlying t with
      | some d => (aLenV h d x).map fun v => .val v h
      | none => none
    | _, _ => none
  | _ => none
def ev1 (P : Program) (o : Oper) (e : Operand → Value) (h : H) : Option R := match evPure P o e with
  | some v => some (.val v h)
  | none => match o.op with
    | .move x | .assign x => some (.val (e x) h)
    | .pick c a b => match e c with
      | .bool t => some (.val (if t then e a else e b) h)
      | _ => none
    | .alloc t => (aAlloc P h t).map fun x => .val x.1 x.2
    | .box t x => (aBox h t (e x).cells).map fun x => .val x.1 x.2
    | .build t parts => (aBuild P t (parts.map fun (i, x) => (i, e x)).toList).map fun v => .val v h
    | .buildSlice t n parts => (aBuildSlice P h t n (parts.map fun (i, x) => (i, e x)).toList).map fun x => .val x.1 x.2
    | .load t x => (aLoad P h t (e x)).map fun v => .val v h
    | .store t a x => (aStore P h t (e a) (e x)).map .skip
    | .nilCheck x => if aNonNil (e x) = true then some (.val (e x) h) else none
    | .convert s d x => (aBytesString P h s d (e x)).map fun v => .val v h
    | .makeFunc fn first cap => (match fn with | .func _ => some (.val (.func fn (first.map e) (cap.map e)) h) | _ => none)
    | .makeMap _ none => (aMakeMap h).map fun x => .val x.1 x.2
    | .makeSlice t l c => (aMakeSlice P h t (e l) (e c)).map fun x => .val x.1 x.2
    | .slice t x lo hi none => match e x with
      | .slice a l c => (aSlice P t (lo.map e) (hi.map e) (.slice a l c)).map fun v => .val v h
      | .pointer (some ⟨b, o', none⟩) => match h.get b with
        | some (.cells _ _ fl) => if fl.1 = 0 then (aSliceAt P t (lo.map e) (hi.map e) (.pointer (some ⟨b, o', none⟩))).map fun v => .val v h else none
        | _ => none
      | _ => none
    | .fieldAddr t x f => (aFieldAt P t f (e x)).map fun v => .val v h
    | .field t x f => (aField P t f (e x)).map fun v => .val v h
    | .indexAddr t x i => (aIndexAt P t (e x) (e i)).map fun v => .val v h
    | .index t x i => (aIndex P t (e x) (e i)).map fun v => .val v h
    | .lookup t x i ok => (aLookup P h t (e x) (e i) ok).map fun v => .val v h
    | .mapUpdate t m k x | .insert t m k x => (aMapUpdate P h t (e m) (e k) (e x)).map .skip
    | .range t x => (aRange P h t (e x)).map fun x => .val x.1 x.2
    | .next it true => (aNext h (e it)).map fun x => .val x.1 x.2
    | .extract t i => (aExtract i (e t)).map fun v => .val v h
    | .call c => evCall P c e h
    | _ => none
def ROk (P : Program) (o : Oper) (e' : Operand → Value) (ρ : Rn) (h : H) (w : World) : R → Prop
  | .val v h' => ∃ ρ' v' w', (execOp e' o).run P w = .ok (.value v') w' ∧ VR ρ' v v' ∧ Post ρ h w ρ' h' w'
  | .skip h' => ∃ ρ' w', (execOp e' o).run P w = .ok .skip w' ∧ Post ρ h w ρ' h' w'
  | .enter f args => ∃ args', (execOp e' o).run P w = .ok (.enter f args') w ∧ AR ρ args args'
  | .round l args => ∃ l' c args', ρ l = some (l', c) ∧ AR ρ args args' ∧ (execOp e' o).run P w = (Instr.yield l' args').run P w
theorem AR.map {e e' : Operand → Value} {xs : Array Operand} (h : ∀ x ∈ xs, VR ρ (e x) (e' x)) : AR ρ (xs.map e) (xs.map e') := by
  refine ⟨by simp, fun t ht => ?_⟩
  simp at ht
  simp only [Array.getD, Array.size_map, ht, dif_pos, Array.getInternal_eq_getElem, Array.getElem_map]
  exact h _ (by simp)
theorem AR.append {a a' b b' : Array Value} (h : AR ρ a a') (k : AR ρ b b') : AR ρ (a ++ b) (a' ++ b') := by
  have := h.lr.append k.lr
  exact LR.ar (by simpa using this)
theorem PR.map {e e' : Operand → Value} {l : List (Nat × Operand)} (h : ∀ x ∈ l.map (·.2), VR ρ (e x) (e' x)) : PR ρ (l.map fun (i, x) => (i, e x)) (l.map fun (i, x) => (i, e' x)) := by
  induction l with
  | nil => exact .nil
  | cons x l ih => exact .cons (h _ (by simp)) (ih fun y hy => h y (by simp at hy ⊢; exact .inr hy))
theorem OVR.map {e e' : Operand → Value} {x : Option Operand} (h : ∀ y ∈ x, VR ρ (e y) (e' y)) : OVR ρ (x.map e) (x.map e') := by
  cases x with
  | none => trivial
  | some y => exact h y rfl
theorem noPure {h : H} {w : World} {o : Oper} {e' : Operand → Value} {v v' : Value} (hok : h.Ok) (hr : RW ρ h.get w) (h1 : (execOp e' o).run P w = .ok (.value v') w) (h2 : VR ρ v v') : ROk P o e' ρ h w (.val v h) :=
  ⟨ρ, v', w, h1, h2, Post.refl hok hr⟩
theorem evCall_ok {h : H} {w : World} {o : Oper} {c : Call} {e e' : Operand → Value} {r : R} (hok : h.Ok) (hr : RW ρ h.get w) (ho : o.op = .call c) (he : ∀ x ∈ o.op.operands, VR ρ (e x) (e' x))
    (hf : ∀ i, h.next ≤ i → i < r.nx h → ρ i = none) (hev : evCall P c e h = some r) : ROk P o e' ρ h w r := by
  have hargs : AR ρ (c.args.map e) (c.args.map e') := AR.map fun x hx => he x (by rw [ho]; simp [Op.operands, Call.operands, hx])
  have hex : (execOp e' o) = (do let d ← resolve e' c o.type; invoke d.target d.args) := by unfold execOp; rw [ho]
  unfold evCall at hev
  split at hev
  · rename_i f hc
    have hff : VR ρ (e f) (e' f) := he f (by rw [ho]; simp [Op.operands, Call.operands, hc])
    split at hev
    · rename_i g first cap hg
      split at hev
      · rename_i hcall
        cases hev
        rw [hg] at hff
        generalize hef : e' f = ef at hff
        cases hff with
        | @func _ _ a' _ b' h0 h1 h2 h3 h4 =>
          refine ⟨a' ++ c.args.map e' ++ b', ?_, AR.append (AR.append ⟨h1, h2⟩ hargs) ⟨h3, h4⟩⟩
          rw [hex]
          simp [resolve, hc, hef, Deferred.ofValue, invoke, callable_run hcall]
      · cases hev
    · rename_i l _ _ hg
      cases hev
      rw [hg] at hff
      generalize hef : e' f = ef at hff
      cases hff with
      | @yield _ l' cc hl =>
        refine ⟨l', cc, c.args.map e', hl, hargs, ?_⟩
        rw [hex]
        simp [resolve, hc, hef, Deferred.ofValue, invoke]
      | func _ h0 => exact absurd rfl (h0 l)
    · cases hev
  · rename_i hc
    cases hx : aApp P h c.argTypes (c.args.map e) with
    | none => rw [hx] at hev; cases hev
    | some y =>
      obtain ⟨v, h1⟩ := y
      rw [hx] at hev; cases hev
      obtain ⟨ρ', r', w', g1, g2, g3⟩ := aApp_ok (ty := o.type) hok hr hf hargs hx
      refine ⟨ρ', r', w', ?_, g2, g3⟩
      rw [hex]
      simp [resolve, hc, invoke, builtin, g1]
  · rename_i hc
    cases hx : aCopy P h c.argTypes (c.args.map e) with
    | none => rw [hx] at hev; cases hev
    | some y =>
      obtain ⟨v, h1⟩ := y
      rw [hx] at hev; cases hev
      obtain ⟨r', w', g1, g2, g3⟩ := aCopy_ok (ty := o.type) hok hr hargs hx
      refine ⟨ρ, r', w', ?_, g2, g3⟩
      rw [hex]
      simp [resolve, hc, invoke, builtin, g1]
  · rename_i hc
    split at hev
    · rename_i t x hat harg
      have hat' : c.argTypes = #[t] := by
        generalize c.argTypes = q at hat
        cases q; simpa using hat
      have hl := hargs.lr
      rw [harg] at hl
      generalize hb : (c.args.map e').toList = b at hl
      cases hl with
      | @cons _ x' _ m hxx hmm =>
        cases hmm
        have harg' : c.args.map e' = #[x'] := by
          generalize c.args.map e' = q at hb
          cases q; simpa using hb
        have run : ∀ v, (Builtin.len_ #[t] o.type #[x']).run P w = .ok v w → (execOp e' o).run P w = .ok (.value v) w := fun v hv => by
          rw [hex]
          simp [resolve, hc, invoke, builtin, hat', harg', hv]
        split at hev
        · rename_i d hu
          cases hq : aLenV h d x with
          | none => rw [hq] at hev; cases hev
          | some v =>
            rw [hq] at hev; cases hev
            obtain ⟨g1, g2⟩ := aLenV_ok (ty := o.type) hr hu hxx hq
            exact noPure hok hr (run _ g1) g2
        · cases hev
    · cases hev
  · cases hev
theorem of_map {α β : Type} {x : Option α} {f : α → β} {y : β} (h : x.map f = some y) : ∃ a, x = some a ∧ f a = y := by
  cases x with
  | none => cases h
  | some a => cases h; exact ⟨a, rfl, rfl⟩
theorem ev1_ok {h : H} {w : World} {o : Oper} {e e' : Operand → Value} {r : R} (hok : h.Ok) (hr : RW ρ h.get w) (he : ∀ x ∈ o.op.operands, VR ρ (e x) (e' x))
    (hf : ∀ i, h.next ≤ i → i < r.nx h → ρ i = none) (hev : ev1 P o e h = some r) : ROk P o e' ρ h w r := by
  unfold ev1 at hev
  split at hev
  · rename_i v hp
    cases hev
    obtain ⟨g1, g2⟩ := evPure_ok (w := w) he hp
    exact noPure hok hr g1 g2
  · split at hev
    case h_1 x ho =>
      cases hev
      exact noPure hok hr (v' := e' x) (by unfold execOp; rw [ho]; rfl) (he x (by rw [ho]; simp [Op.operands]))
    case h_2 x ho =>
      cases hev
      exact noPure hok hr (v' := e' x) (by unfold execOp; rw [ho]; rfl) (he x (by rw [ho]; simp [Op.operands]))
    case h_3 c a b ho =>
      have hc := he c (by rw [ho]; simp [Op.operands])
      have ha := he a (by rw [ho]; simp [Op.operands])
      have hb := he b (by rw [ho]; simp [Op.operands])
      split at hev
      · rename_i t ht
        cases hev
        rw [ht] at hc
        generalize hec : e' c = ec at hc
        cases hc
        refine noPure hok hr (v' := if t = true then e' a else e' b) (by unfold execOp; rw [ho]; simp [hec, asBool]) ?_
        cases t
        · exact hb
        · exact ha
      · cases hev
    case h_4 t ho =>
      obtain ⟨⟨v, h1⟩, g1, rfl⟩ := of_map hev
      obtain ⟨ρ', r', w', g2, g3, g4⟩ := aAlloc_ok hok hr hf g1
      exact ⟨ρ', r', w', by unfold execOp; rw [ho]; simp [g2], g3, g4⟩
    case h_5 t x ho =>
      obtain ⟨⟨v, h1⟩, g1, rfl⟩ := of_map hev
      obtain ⟨ρ', r', w', g2, g3, g4⟩ := aBoxV_ok (P := P) hok hr hf (he x (by rw [ho]; simp [Op.operands])) g1
      exact ⟨ρ', r', w', by unfold execOp; rw [ho]; simp [g2], g3, g4⟩
    case h_6 t parts ho =>
      obtain ⟨v, g1, rfl⟩ := of_map hev
      have hp : PR ρ (parts.map fun (i, x) => (i, e x)).toList (parts.map fun (i, x) => (i, e' x)).toList := by
        simp only [Array.toList_map]
        exact PR.map fun x hx => he x (by rw [ho]; simpa [Op.operands] using hx)
      obtain ⟨r', g2, g3⟩ := aBuild_ok (w := w) hp g1
      exact noPure hok hr (by unfold execOp; rw [ho]; simp [g2]) g3
    case h_7 t n parts ho =>
      obtain ⟨⟨v, h1⟩, g1, rfl⟩ := of_map hev
      have hp : PR ρ (parts.map fun (i, x) => (i, e x)).toList (parts.map fun (i, x) => (i, e' x)).toList := by
        simp only [Array.toList_map]
        exact PR.map fun x hx => he x (by rw [ho]; simpa [Op.operands] using hx)
      obtain ⟨ρ', r', w', g2, g3, g4⟩ := aBuildSlice_ok hok hr hf hp g1
      exact ⟨ρ', r', w', by unfold execOp; rw [ho]; simp [g2], g3, g4⟩
    case h_8 t x ho =>
      obtain ⟨v, g1, rfl⟩ := of_map hev
      obtain ⟨r', g2, g3⟩ := aLoad_ok hr (he x (by rw [ho]; simp [Op.operands])) g1
      exact noPure hok hr (by unfold execOp; rw [ho]; simp [g2]) g3
    case h_9 t a x ho =>
      obtain ⟨h1, g1, rfl⟩ := of_map hev
      obtain ⟨w', g2, g3⟩ := aStore_ok (P := P) hok hr (he a (by rw [ho]; simp [Op.operands])) (he x (by rw [ho]; simp [Op.operands])) g1
      exact ⟨ρ, w', by unfold execOp; rw [ho]; simp [g2], g3⟩
    case h_10 x ho =>
      split at hev
      · rename_i hn
        cases hev
        have hx := he x (by rw [ho]; simp [Op.operands])
        refine noPure hok hr (v' := e' x) ?_ hx
        unfold aNonNil at hn
        unfold execOp
        rw [ho]
        simp only
        generalize e x = q at hn hx
        generalize e' x = q' at hx
        cases hx with
        | @func fn => cases fn <;> first | rfl | (simp at hn)
        | _ => first | rfl | (simp at hn)
      · cases hev
    case h_11 s d x ho =>
      obtain ⟨v, g1, rfl⟩ := of_map hev
      obtain ⟨r', g2, g3⟩ := aBytesString_ok (w := w) hr (he x (by rw [ho]; simp [Op.operands])) g1
      exact noPure hok hr (by unfold execOp; rw [ho]; simp [g2]) g3
    case h_12 fn first cap ho =>
      split at hev
      · rename_i g
        cases hev
        have h1 : AR ρ (first.map e) (first.map e') := AR.map fun x hx => he x (by rw [ho]; simp [Op.operands, hx])
        have h2 : AR ρ (cap.map e) (cap.map e') := AR.map fun x hx => he x (by rw [ho]; simp [Op.operands, hx])
        exact noPure hok hr (v' := .func (.func g) (first.map e') (cap.map e')) (by unfold execOp; rw [ho]; simp [Instr.makeFunc]) (.func _ (fun l hl => by cases hl) h1.1 h1.2 h2.1 h2.2)
      · cases hev
    case h_13 t ho =>
      obtain ⟨⟨v, h1⟩, g1, rfl⟩ := of_map hev
      obtain ⟨ρ', r', w', g2, g3, g4⟩ := aMakeMap_ok (P := P) (t := t) hok hr hf g1
      exact ⟨ρ', r', w', by unfold execOp; rw [ho]; simp [g2], g3, g4⟩
    case h_14 t l c ho =>
      obtain ⟨⟨v, h1⟩, g1, rfl⟩ := of_map hev
      obtain ⟨ρ', r', w', g2, g3, g4⟩ := aMakeSlice_ok hok hr hf (he l (by rw [ho]; simp [Op.operands])) (he c (by rw [ho]; simp [Op.operands])) g1
      exact ⟨ρ', r', w', by unfold execOp; rw [ho]; simp [g2], g3, g4⟩
    case h_15 t x lo hi ho =>
      have hx := he x (by rw [ho]; simp [Op.operands])
      have hlo : OVR ρ (lo.map e) (lo.map e') := OVR.map fun y hy => he y (by rw [ho]; simp [Op.operands]; cases lo <;> simp_all)
      have hhi : OVR ρ (hi.map e) (hi.map e') := OVR.map fun y hy => he y (by rw [ho]; simp [Op.operands]; cases hi <;> simp_all)
      split at hev
      · rename_i a l c hxe
        obtain ⟨v, g1, rfl⟩ := of_map hev
        rw [hxe] at hx
        obtain ⟨r', g2, g3⟩ := aSlice_ok (w := w) hlo hhi hx g1
        exact noPure hok hr (by unfold execOp; rw [ho]; simp [g2]) g3
      · rename_i b o' hxe
        split at hev
        · rename_i cs ty fl hg
          split at hev
          · rename_i hfl
            obtain ⟨v, g1, rfl⟩ := of_map hev
            rw [hxe] at hx
            obtain ⟨r', g2, g3⟩ := aSliceAt_ok (w := w) hlo hhi hx (fun i j c hi hj => by
              cases hi
              obtain ⟨j', c', hj', hO⟩ := hr.obj _ _ hg
              rw [hj] at hj'; cases hj'
              obtain ⟨_, _, _, _, _, _, q, _⟩ := hO.row (by omega)
              exact q (by omega)) g1
            exact noPure hok hr (by unfold execOp; rw [ho]; simp [g2]) g3
          · cases hev
        · cases hev
      · cases hev
    case h_16 t x f ho =>
      obtain ⟨v, g1, rfl⟩ := of_map hev
      obtain ⟨r', g2, g3⟩ := aFieldAt_ok (w := w) (he x (by rw [ho]; simp [Op.operands])) g1
      exact noPure hok hr (by unfold execOp; rw [ho]; simp [g2]) g3
    case h_17 t x f ho =>
      obtain ⟨v, g1, rfl⟩ := of_map hev
      obtain ⟨r', g2, g3⟩ := aField_ok (w := w) (he x (by rw [ho]; simp [Op.operands])) g1
      exact noPure hok hr (by unfold execOp; rw [ho]; simp [g2]) g3
    case h_18 t x i ho =>
      obtain ⟨v, g1, rfl⟩ := of_map hev
      obtain ⟨r', g2, g3⟩ := aIndexAt_ok (w := w) (he x (by rw [ho]; simp [Op.operands])) (he i (by rw [ho]; simp [Op.operands])) g1
      exact noPure hok hr (by unfold execOp; rw [ho]; simp [g2]) g3
    case h_19 t x i ho =>
      obtain ⟨v, g1, rfl⟩ := of_map hev
      obtain ⟨r', g2, g3⟩ := aIndex_ok (w := w) (he x (by rw [ho]; simp [Op.operands])) (he i (by rw [ho]; simp [Op.operands])) g1
      exact noPure hok hr (by unfold execOp; rw [ho]; simp [g2]) g3
    case h_20 t x i c ho =>
      obtain ⟨v, g1, rfl⟩ := of_map hev
      obtain ⟨r', g2, g3⟩ := aLookup_ok (w := w) hr (he x (by rw [ho]; simp [Op.operands])) (he i (by rw [ho]; simp [Op.operands])) g1
      exact noPure hok hr (by unfold execOp; rw [ho]; simp [g2]) g3
    case h_21 t m k x ho =>
      obtain ⟨h1, g1, rfl⟩ := of_map hev
      obtain ⟨w', g2, g3⟩ := aMapUpdate_ok (P := P) hok hr (he m (by rw [ho]; simp [Op.operands])) (he k (by rw [ho]; simp [Op.operands])) (he x (by rw [ho]; simp [Op.operands])) g1
      exact ⟨ρ, w', by unfold execOp; rw [ho]; simp [g2], g3⟩
    case h_22 t m k x ho =>
      obtain ⟨h1, g1, rfl⟩ := of_map hev
      obtain ⟨w', g2, g3⟩ := aMapUpdate_ok (P := P) hok hr (he m (by rw [ho]; simp [Op.operands])) (he k (by rw [ho]; simp [Op.operands])) (he x (by rw [ho]; simp [Op.operands])) g1
      exact ⟨ρ, w', by unfold execOp; rw [ho]; simp [g2], g3⟩
    case h_23 t x ho =>
      obtain ⟨⟨v, h1⟩, g1, rfl⟩ := of_map hev
      obtain ⟨ρ', r', w', g2, g3, g4⟩ := aRange_ok (P := P) hok hr hf (he x (by rw [ho]; simp [Op.operands])) g1
      exact ⟨ρ', r', w', by unfold execOp; rw [ho]; simp [g2], g3, g4⟩
    case h_24 it ho =>
      obtain ⟨⟨v, h1⟩, g1, rfl⟩ := of_map hev
      obtain ⟨r', w', g2, g3, g4⟩ := aNext_ok (P := P) (t := o.type) hok hr (he it (by rw [ho]; simp [Op.operands])) g1
      exact ⟨ρ, r', w', by unfold execOp; rw [ho]; simp [g2], g3, g4⟩
    case h_25 t i ho =>
      obtain ⟨v, g1, rfl⟩ := of_map hev
      obtain ⟨r', g2, g3⟩ := aExtract_ok (P := P) (w := w) (he t (by rw [ho]; simp [Op.operands])) g1
      exact noPure hok hr (by unfold execOp; rw [ho]; simp [g2]) g3
    case h_26 c ho => exact evCall_ok hok hr ho he hf hev
    case h_27 => cases hev
end Go.Proofs.YtkjhnemfebgcnaaGreatDoor.Ev

namespace Go.Proofs.YtkjhnemfebgcnaaGreatDoor.Ev
open Go Go.RowKit Go.MapKept
variable {ρ : Rn} {P : Program}
inductive X where
  | normal
  | exit (id : Nat)
  | ret
def X.ex : X → Exit
  | .normal => .normal
  | .exit id => .exit id
  | .ret => .ret
def X.pend : X → Option Code
  | .normal => none
  | .exit id => some (.exit id)
  | .ret => some .ret
/-- Marks of loops over functions. -/
inductive DR (ρ : Rn) : List Deferred → List Deferred → Prop
  | nil : DR ρ [] []
  | cons {r r' c l l'} : ρ r = some (r', c) → DR ρ l l' → DR ρ (⟨.collected r, #[]⟩ :: l) (⟨.collected r', #[]⟩ :: l')
structure RelA (ρ : Rn) (a b : Act) : Prop where
  size : a.tmps.size = b.tmps.size
  tmp : ∀ t, VR ρ (a.tmps.getD t undef) (b.tmps.getD t undef)
  defers : DR ρ a.defers b.defers
def GR (G : Nat) (ρ : Rn) : Prop := ∀ g, g < G → ρ g = some (g, none)
def RoR (ρ : Rn) : Option Nat → Option Nat → Prop
  | none, none => True
  | some l, some l' => ∃ c, ρ l = some (l', c)
  | _, _ => False
def Fresh (ρ : Rn) (h h1 : H) : Prop := ∀ i, h.next ≤ i → i < h1.next → ρ i = none
def Wd (x : Option Nat) : Fence := { Fence.wide with round := x }
theorem DR.mono {ρ' : Rn} (hl : Le ρ ρ') {l l' : List Deferred} (h : DR ρ l l') : DR ρ' l l' := by
  induction h with
  | nil => exact .nil
  | cons h1 _ ih => exact .cons (hl _ _ h1) ih
theorem RelA.mono {ρ' : Rn} (hl : Le ρ ρ') {a b : Act} (h : RelA ρ a b) : RelA ρ' a b := ⟨h.size, fun t => (h.tmp t).mono hl, h.defers.mono hl⟩
theorem GR.mono {ρ' : Rn} {G : Nat} (hl : Le ρ ρ') (h : GR G ρ) : GR G ρ' := fun g hg => hl _ _ (h g hg)
theorem RoR.mono {ρ' : Rn} (hl : Le ρ ρ') {x y : Option Nat} (h : RoR ρ x y) : RoR ρ' x y := by
  cases x <;> cases y <;> first | trivial | exact h.elim | (obtain ⟨c, hc⟩ := h; exact ⟨c, hl _ _ hc⟩)
theorem undef_VR : VR ρ undef undef := .tuple rfl fun _ ht => absurd ht (Nat.not_lt_zero _)
theorem getD_set (xs : Array Value) (d t : Nat) (v : Value) : (xs.setIfInBounds d v).getD t undef = if d = t ∧ d < xs.size then v else xs.getD t undef := by
  by_cases h : d = t
  · subst h
    by_cases hd : d < xs.size
    · simp [Array.getD, hd]
    · simp [Array.getD, hd]
  · rw [if_neg (fun x => h x.1)]
    by_cases ht : t < xs.size
    · simp [Array.getD, ht, h]
    · simp [Array.getD, ht]
theorem RelA.put {a b : Act} (h : RelA ρ a b) (dst : Option Tmp) {v v' : Value} (hv : VR ρ v v') : RelA ρ (a.put dst v) (b.put dst v') := by
  cases dst with
  | none => exact h
  | some d =>
    refine ⟨by simp [Act.put, h.size], fun t => ?_, h.defers⟩
    simp only [Act.put, getD_set, h.size]
    split
    · exact hv
    · exact h.tmp t
def xOk (G : Nat) : Operand → Bool
  | .const v => flat v
  | .global g => Nat.blt g G
  | _ => true
theorem RelA.eval {G : Nat} {a b : Act} (h : RelA ρ a b) (hg : GR G ρ) {x : Operand} (hx : xOk G x = true) : VR ρ (a.eval x) (b.eval x) := by
  cases x with
  | tmp t => exact h.tmp t
  | const v => exact flat_VR ρ hx
  | global g => exact .ptr 0 (hg g (by simpa [xOk, Nat.blt_eq] using hx))
  | func f => exact flat_VR ρ rfl
theorem RelA.yielded {a b : Act} (h : RelA ρ a b) (ops : Array Oper) (j : Nat) : yielded ops b.tmps j = yielded ops a.tmps j := by
  unfold Go.yielded
  cases ht : (ops[j]?).bind (·.dst) with
  | none => rfl
  | some t =>
    simp only [Option.bind_some]
    have hv := h.tmp t
    have hs := h.size
    by_cases hlt : t < a.tmps.size
    · have e1 : a.tmps[t]? = some (a.tmps.getD t undef) := by simp [Array.getD, hlt]
      have e2 : b.tmps[t]? = some (b.tmps.getD t undef) := by simp [Array.getD, hs ▸ hlt]
      rw [e1, e2]
      generalize a.tmps.getD t undef = x at hv
      generalize b.tmps.getD t undef = y at hv
      cases hv <;> rfl
    · have h1 : a.tmps.size ≤ t := Nat.le_of_not_lt hlt
      have h2 : b.tmps.size ≤ t := hs ▸ h1
      rw [Array.getElem?_eq_none h1, Array.getElem?_eq_none h2]
theorem RelA.wanted {a b : Act} (h : RelA ρ a b) (ops : Array Oper) (o : Oper) : Region.wanted o (Go.yielded ops b.tmps) = Region.wanted o (Go.yielded ops a.tmps) := by
  unfold Region.wanted
  cases o.guard with
  | none => rfl
  | some g => obtain ⟨j, want⟩ := g; simp only [h.yielded]
structure Rec where
  code : Option Nat → Code → Act → H → Option (X × Act × H)
  call : FuncId → Array Value → H → Option (Value × H)
structure Good (P : Program) (G : Nat) (r : Rec) : Prop where
  code : ∀ ro c a h x a1 h1, r.code ro c a h = some (x, a1, h1) → h.next ≤ h1.next ∧ ∀ (ρ : Rn) ro' b w, h.Ok → RW ρ h.get w → GR G ρ → RelA ρ a b → RoR ρ ro ro' → Fresh ρ h h1 →
    c.wpIn (Wd ro') 0 P (fun e b' w' => e = x.ex ∧ ∃ ρ', RelA ρ' a1 b' ∧ Post ρ h w ρ' h1 w') b w
  call : ∀ f args h v h1, r.call f args h = some (v, h1) → h.next ≤ h1.next ∧ ∀ (ρ : Rn) args' w, h.Ok → RW ρ h.get w → GR G ρ → AR ρ args args' → Fresh ρ h h1 →
    CallsIn (Wd none) 0 P f args' w fun e w' => ∃ ρ' v', e = .returned v' ∧ VR ρ' v v' ∧ Post ρ h w ρ' h1 w'
/-- One round of a loop over a function. -/
def roundStep (r : Rec) (l : Nat) (args : Array Value) (h : H) : Option (Value × H) := match h.get l with
  | some (.loop L) => if args.size = L.params.size ∧ h.bar ≤ l then
      match r.code (some l) L.assign ⟨(L.params.zip args).foldl (fun tmps (t, a) => tmps.setIfInBounds t a) L.tmps, []⟩ h with
      | some (.normal, a1, h1) => match h1.get l with
        | some (.loop L1) => if L1.state = .ready then
            match r.code (some l) L.body a1 (h1.put l (some (.loop { L1 with state := .busy }))) with
            | some (x, _, h2) => match h2.get l with
              | some (.loop L2) => (match x with
                | .normal => some (.bool true, h2.put l (some (.loop { L2 with state := .ready, pending := none })))
                | .ret => some (.bool false, h2.put l (some (.loop { L2 with state := .done, pending := some .ret })))
                | .exit id => some (.bool false, h2.put l (some (.loop { L2 with state := .done, pending := some (.exit id) }))))
              | _ => none
            | none => none
          else none
        | _ => none
      | _ => none
    else none
  | _ => none
theorem AR.zipFold {ps : List Tmp} : ∀ {as as' : List Value} {xs ys : Array Value}, LR ρ as as' → AR ρ xs ys →
    AR ρ ((ps.zip as).foldl (fun tmps (x : Tmp × Value) => tmps.setIfInBounds x.1 x.2) xs) ((ps.zip as').foldl (fun tmps (x : Tmp × Value) => tmps.setIfInBounds x.1 x.2) ys) := by
  induction ps with
  | nil => intro as as' xs ys _ h; exact h
  | cons p ps ih =>
    intro as as' xs ys hl h
    cases hl with
    | nil => exact h
    | cons h1 h2 =>
      refine ih h2 (LR.ar ?_)
      simp only [Array.toList_setIfInBounds]
      exact h.lr.set _ h1
theorem AR.relA {a b : Array Value} (h : AR ρ a b) : RelA ρ ⟨a, []⟩ ⟨b, []⟩ := by
  refine ⟨h.1, fun t => ?_, .nil⟩
  by_cases ht : t < a.size
  · exact h.2 t ht
  · have e1 : a.getD t undef = undef := by simp [Array.getD, ht]
    have e2 : b.getD t undef = undef := by simp [Array.getD, h.1 ▸ ht]
    show VR ρ (a.getD t undef) (b.getD t undef)
    rw [e1, e2]; exact undef_VR
theorem run_getLoop {w : World} {l : Nat} {L : Loop} (h : w.heap[l]? = some (.loop L)) : (Instr.getLoop l).run P w = .ok L w := by simp [Instr.getLoop, getObj, Sem.run, h]
theorem run_setLoop {w : World} {l : Nat} {L : Loop} (o : Obj) (h : w.heap[l]? = some (.loop L)) : (setObj l o).run P w = .ok () { w with heap := w.heap.setIfInBounds l o } := by simp [setObj, Sem.run, h]
theorem Post.loop {h : H} {w : World} {l l' : Nat} {c : Option Nat} {L L' : Loop} {w' : World} (hok : h.Ok) (hr : RW ρ h.get w) (hg : h.get l = some (.loop L)) (hb : h.bar ≤ l) (hl : ρ l = some (l', c)) (hx : w.heap[l']? = some (.loop L'))
    (N N' : Loop) (hw : w' = { w with heap := w.heap.setIfInBounds l' (.loop N') }) (hO : OR ρ c (.loop N) (some (.loop N'))) : Post ρ h w ρ (h.put l (some (.loop N))) w' := by
  subst hw
  obtain ⟨s1, s2⟩ := heap_set (o' := .loop N') hx
  refine Post.write hok hr hg hb hl (by simp) (fun k hk => s2 k hk) rfl rfl rfl ?_
  show OR ρ c _ (w.heap.setIfInBounds l' _)[l']?
  rw [s1]; exact hO
theorem put_next (h : H) (i : Nat) (o : Option Obj) : (h.put i o).next = h.next := rfl
theorem round_ok {G : Nat} {r : Rec} (hG : Good P G r) {l : Nat} {args : Array Value} {h h1 : H} {v : Value} (e : roundStep r l args h = some (v, h1)) :
    h.next ≤ h1.next ∧ ∀ (ρ : Rn) l' c args' w x, h.Ok → RW ρ h.get w → GR G ρ → ρ l = some (l', c) → AR ρ args args' → Fresh ρ h h1 →
      ∃ fn tmps assign body, (Instr.yield l' args').run P w = .ok (.round l' fn tmps assign body) w ∧ RoundIn (Wd x) 0 P l' fn tmps assign body w fun e w' => ∃ ρ' v', e = .returned v' ∧ VR ρ' v v' ∧ Post ρ h w ρ' h1 w' := by
  unfold roundStep at e
  split at e
  · rename_i L hgl
    split at e
    · rename_i hc
      obtain ⟨hsz, hbar⟩ := hc
      split at e
      · rename_i a1 h2 hcode1
        obtain ⟨nx1, C1⟩ := hG.code _ _ _ _ _ _ _ hcode1
        split at e
        · rename_i L1 hgl1
          split at e
          · rename_i hst
            split at e
            · rename_i x0 a2 h3 hcode2
              obtain ⟨nx2, C2⟩ := hG.code _ _ _ _ _ _ _ hcode2
              rw [put_next] at nx2
              split at e
              · rename_i L2 hgl2
                have hfin : ∃ (st : LoopState) (pe : Option Code), v = .bool pe.isNone ∧ h1 = h3.put l (some (.loop { L2 with state := st, pending := pe })) ∧ st = (if pe.isNone then .ready else .done) ∧
                    pe = x0.pend := by
                  cases x0 <;> cases e
                  · exact ⟨_, none, rfl, rfl, rfl, rfl⟩
                  · exact ⟨_, some (.exit _), rfl, rfl, rfl, rfl⟩
                  · exact ⟨_, some .ret, rfl, rfl, rfl, rfl⟩
                obtain ⟨st, pe, rfl, rfl, hst2, hpe⟩ := hfin
                refine ⟨by rw [put_next]; omega, fun ρ l' c args' w x hok hr hgr hl har hfr => ?_⟩
                obtain ⟨j, c', hj, hO⟩ := hr.obj _ _ hgl
                rw [hl] at hj; cases hj
                obtain ⟨L', hx, e1, e2, e3, e4, e5, e6, cd, e7⟩ := hO
                have hfr : Fresh ρ h h3 := hfr
                refine ⟨L'.fn, (L'.params.zip args').foldl (fun tmps (t, a) => tmps.setIfInBounds t a) L'.tmps, L'.assign, L'.body, ?_, ?_⟩
                · have : ¬ (args'.size ≠ L'.params.size) := by rw [e3, ← har.1]; omega
                  simp [Instr.yield, run_getLoop hx, this]
                · refine roundIn_of_wpIn (F := Wd x) trivial ?_
                  have hrel : RelA ρ ⟨(L.params.zip args).foldl (fun tmps (t, a) => tmps.setIfInBounds t a) L.tmps, []⟩ ⟨(L'.params.zip args').foldl (fun tmps (t, a) => tmps.setIfInBounds t a) L'.tmps, []⟩ := by
                    refine AR.relA ?_
                    rw [e3]
                    have := AR.zipFold (ps := L.params.toList) har.lr e6
                    rw [← Array.foldl_toList, ← Array.foldl_toList, Array.toList_zip, Array.toList_zip]
                    exact this
                  rw [e4]
                  refine wpIn_mono (C1 ρ (some l') _ w hok hr hgr hrel ⟨c, hl⟩ (fun i hi1 hi2 => hfr i hi1 (by omega))) ?_
                  rintro e' b1 w1 ⟨rfl, ρ1, hra1, hp1⟩
                  show ∃ w₂, _ ∧ _
                  have hl1 := hp1.le _ _ hl
                  obtain ⟨j1, c1, hj1, hO1⟩ := hp1.rel.obj _ _ hgl1
                  rw [hl1] at hj1; cases hj1
                  obtain ⟨L1', hx1, f1, f2, f3, f4, f5, f6, cd1, f7⟩ := hO1
                  have hbar1 : h2.bar ≤ l := by rw [hp1.bar]; exact hbar
                  have hp2 := Post.loop (w' := { w1 with heap := w1.heap.setIfInBounds l' (.loop { L1' with state := .busy }) }) hp1.ok hp1.rel hgl1 hbar1 hl1 hx1 { L1 with state := .busy } { L1' with state := .busy } rfl ⟨_, rfl, rfl, f2, f3, f4, f5, f6, cd1, f7⟩
                  refine ⟨{ w1 with heap := w1.heap.setIfInBounds l' (.loop { L1' with state := .busy }) }, by simp [Instr.beginRound, run_getLoop hx1, run_setLoop _ hx1, f1, hst], ?_⟩
                  have hp12 := hp1.trans hp2
                  rw [e5]
                  refine wpIn_mono (C2 ρ1 (some l') _ _ hp2.ok hp2.rel (hgr.mono hp1.le) (hra1) ⟨c, hl1⟩ (fun i hi1 hi2 => ?_)) ?_
                  · rw [put_next] at hi1
                    rw [hp1.out i (.inr hi1)]
                    exact hfr i (by omega) hi2
                  rintro e' b2 w2 ⟨rfl, ρ2, _, hp3⟩
                  have hl2 := hp3.le _ _ hl1
                  obtain ⟨j2, c2, hj2, hO2⟩ := hp3.rel.obj _ _ hgl2
                  rw [hl2] at hj2; cases hj2
                  obtain ⟨L2', hx2, g1, g2, g3, g4, g5, g6, cd2, g7⟩ := hO2
                  have hbar2 : h3.bar ≤ l := by rw [hp3.bar]; exact hbar1
                  have hp4 := Post.loop (w' := { w2 with heap := w2.heap.setIfInBounds l' (.loop { L2' with state := st, pending := pe }) }) hp3.ok hp3.rel hgl2 hbar2 hl2 hx2 { L2 with state := st, pending := pe } { L2' with state := st, pending := pe } rfl ⟨_, rfl, rfl, rfl, g3, g4, g5, g6, cd2, g7⟩
                  have hrun : (Instr.endRound l' pe).run P w2 = .ok (.bool pe.isNone) { w2 with heap := w2.heap.setIfInBounds l' (.loop { L2' with state := st, pending := pe }) } := by
                    rw [hst2]
                    simp [Instr.endRound, run_getLoop hx2, run_setLoop _ hx2]
                  have hpost := (hp12.trans hp3).trans hp4
                  cases x0
                  all_goals
                    subst hpe
                    exact ⟨_, _, hrun, ρ2, _, rfl, .bool _, hpost⟩
              · cases e
            · cases e
          · cases e
        · cases e
      · cases e
    · cases e
  · cases e
end Go.Proofs.YtkjhnemfebgcnaaGreatDoor.Ev

namespace Go.Proofs.YtkjhnemfebgcnaaGreatDoor.Ev
open Go Go.RowKit Go.MapKept
variable {ρ : Rn} {P : Program}
/-- Temporaries by their list: no size is asked. -/
def evL (a : Act) : Operand → Value
  | .tmp t => a.tmps.toList.getD t undef
  | .const v => v
  | .global g => .pointer (some ⟨g, 0, none⟩)
  | .func f => .func (.func f) #[] #[]
theorem evL_eq (a : Act) : evL a = a.eval := by
  funext x
  cases x with
  | tmp t =>
    simp only [evL, Act.eval, Array.getD, List.getD]
    by_cases h : t < a.tmps.size
    · simp [h]
    · simp [h]
  | const v => rfl
  | global g => rfl
  | func f => rfl
def puL (a : Act) (d : Option Tmp) (v : Value) : Act := match d with
  | some d => { a with tmps := ⟨a.tmps.toList.set d v⟩ }
  | none => a
theorem puL_eq (a : Act) (d : Option Tmp) (v : Value) : puL a d v = a.put d v := by
  cases d with
  | none => rfl
  | some d =>
    show ({ a with tmps := ⟨a.tmps.toList.set d v⟩ } : Act) = { a with tmps := a.tmps.setIfInBounds d v }
    have : (⟨a.tmps.toList.set d v⟩ : Array Value) = a.tmps.setIfInBounds d v := by
      apply Array.ext'
      simp
    rw [this]
def operStep (P : Program) (G : Nat) (r : Rec) (o : Oper) (a : Act) (h : H) : Option (Value × H) :=
  if o.op.operands.toList.all (xOk G) = true then
    match ev1 P o (evL a) h with
    | some (.val v h1) => if h.next ≤ h1.next then some (v, h1) else none
    | some (.skip h1) => if h.next ≤ h1.next then some (undef, h1) else none
    | some (.enter f args) => r.call f args h
    | some (.round l args) => roundStep r l args h
    | none => none
  else none
theorem operStep_def (P : Program) (G : Nat) (r : Rec) (o : Oper) (a : Act) (h : H) : operStep P G r o a h =
  if o.op.operands.toList.all (xOk G) = true then
    match ev1 P o a.eval h with
    | some (.val v h1) => if h.next ≤ h1.next then some (v, h1) else none
    | some (.skip h1) => if h.next ≤ h1.next then some (undef, h1) else none
    | some (.enter f args) => r.call f args h
    | some (.round l args) => roundStep r l args h
    | none => none
  else none := by
  unfold operStep
  rw [evL_eq]
theorem ev1_defer {o : Oper} {e : Operand → Value} {h : H} {r : R} (hev : ev1 P o e h = some r) : ∀ c, o.op ≠ .defer c := by
  intro c hc
  unfold ev1 at hev
  have hp : evPure P o e = none := by unfold evPure; rw [if_neg (by rw [hc]; simp [pureKind])]
  rw [hp, hc] at hev
  cases hev
theorem operStep_ok {G : Nat} {r : Rec} (hG : Good P G r) {o : Oper} {a : Act} {h h1 : H} {v : Value} (e : operStep P G r o a h = some (v, h1)) :
    h.next ≤ h1.next ∧ ∀ (ρ : Rn) b w x (K : Act → World → Prop) (Q : Exit → Act → World → Prop), h.Ok → RW ρ h.get w → GR G ρ → (∀ y ∈ o.op.operands, VR ρ (a.eval y) (b.eval y)) → Fresh ρ h h1 →
      (∀ ρ' v' w', VR ρ' v v' → Post ρ h w ρ' h1 w' → K (b.put o.dst v') w') → o.wpIn (Wd x) 0 P b w K Q := by
  rw [operStep_def] at e
  split at e
  · rename_i hall
    split at e
    · rename_i u h2 hev
      split at e
      · rename_i hnx
        cases e
        refine ⟨hnx, fun ρ b w x K Q hok hr hgr he hfr hK => ⟨fun _ _ => trivial, ?_⟩⟩
        rw [Oper.semAt_eq _ _ _ (ev1_defer hev)]
        obtain ⟨ρ', v', w', g1, g2, g3⟩ := ev1_ok (r := .val v h1) hok hr he hfr hev
        rw [g1]
        exact hK ρ' v' w' g2 g3
      · cases e
    · rename_i h2 hev
      split at e
      · rename_i hnx
        cases e
        refine ⟨hnx, fun ρ b w x K Q hok hr hgr he hfr hK => ⟨fun _ _ => trivial, ?_⟩⟩
        rw [Oper.semAt_eq _ _ _ (ev1_defer hev)]
        obtain ⟨ρ', w', g1, g3⟩ := ev1_ok (r := .skip h1) hok hr he hfr hev
        rw [g1]
        exact hK ρ' undef w' undef_VR g3
      · cases e
    · rename_i f args hev
      obtain ⟨nx, C⟩ := hG.call _ _ _ _ _ e
      refine ⟨nx, fun ρ b w x K Q hok hr hgr he hfr hK => ⟨fun _ _ => trivial, ?_⟩⟩
      rw [Oper.semAt_eq _ _ _ (ev1_defer hev)]
      obtain ⟨args', g1, g2⟩ := ev1_ok hok hr he (fun i hi1 hi2 => absurd hi1 (by simp [R.nx] at hi2; omega)) hev
      rw [g1]
      refine ⟨fun hd => by simp [Wd, Fence.wide] at hd, ?_⟩
      show CallsIn (Wd none) 0 P f args' w _
      refine (C ρ args' w hok hr hgr g2 hfr).mono ?_
      rintro e' w' ⟨ρ', v', rfl, g3, g4⟩
      exact hK ρ' v' w' g3 g4
    · rename_i l args hev
      obtain ⟨nx, C⟩ := round_ok hG e
      refine ⟨nx, fun ρ b w x K Q hok hr hgr he hfr hK => ⟨fun _ _ => trivial, ?_⟩⟩
      rw [Oper.semAt_eq _ _ _ (ev1_defer hev)]
      obtain ⟨l', c, args', g1, g2, g3⟩ := ev1_ok hok hr he (fun i hi1 hi2 => absurd hi1 (by simp [R.nx] at hi2; omega)) hev
      obtain ⟨fn, tmps, assign, body, g4, g5⟩ := C ρ l' c args' w x hok hr hgr g1 g2 hfr
      rw [g3, g4]
      refine ⟨fun hd => by simp [Wd, Fence.wide] at hd, g5.mono ?_⟩
      rintro e' w' ⟨ρ', v', rfl, g3, g4⟩
      exact hK ρ' v' w' g3 g4
    · cases e
  · cases e
theorem oper_all {G : Nat} {r : Rec} {o : Oper} {a : Act} {h : H} {y : Value × H} (e : operStep P G r o a h = some y) : o.op.operands.toList.all (xOk G) = true := by
  rw [operStep_def] at e
  split at e
  · assumption
  · cases e
def opsStep (P : Program) (G : Nat) (r : Rec) (ops : Array Oper) : List Oper → Act → H → Option (Act × H)
  | [], a, h => some (a, h)
  | o :: l, a, h => if Region.wanted o (yielded ops a.tmps) = true then
      match operStep P G r o a h with
      | some (v, h1) => opsStep P G r ops l (puL a o.dst v) h1
      | none => none
    else opsStep P G r ops l (puL a o.dst undef) h
theorem opsStep_cons (P : Program) (G : Nat) (r : Rec) (ops : Array Oper) (o : Oper) (l : List Oper) (a : Act) (h : H) : opsStep P G r ops (o :: l) a h = if Region.wanted o (yielded ops a.tmps) = true then
      match operStep P G r o a h with
      | some (v, h1) => opsStep P G r ops l (a.put o.dst v) h1
      | none => none
    else opsStep P G r ops l (a.put o.dst undef) h := by
  simp only [opsStep, puL_eq]
theorem Fresh.left {h h1 h2 : H} (hf : Fresh ρ h h2) (h12 : h1.next ≤ h2.next) : Fresh ρ h h1 := fun i a b => hf i a (Nat.lt_of_lt_of_le b h12)
theorem Fresh.right {ρ' : Rn} {h h1 h2 : H} {w w' : World} (hf : Fresh ρ h h2) (p : Post ρ h w ρ' h1 w') : Fresh ρ' h1 h2 := fun i a b => by
  rw [p.out i (.inr a)]; exact hf i (Nat.le_trans p.nx a) b
theorem opsStep_ok {G : Nat} {r : Rec} (hG : Good P G r) (ops : Array Oper) (l : List Oper) : ∀ (k : Nat) (a : Act) (h : H) (a1 : Act) (h1 : H), (∀ j, l[j]? = ops[k + j]?) → opsStep P G r ops l a h = some (a1, h1) →
    h.next ≤ h1.next ∧ ∀ (ρ : Rn) b w x (Q : Exit → Act → World → Prop), h.Ok → RW ρ h.get w → GR G ρ → RelA ρ a b → Fresh ρ h h1 →
      (∀ ρ' b' w', RelA ρ' a1 b' → Post ρ h w ρ' h1 w' → Q .normal b' w') → wpOpsIn (Wd x) 0 P ops Q (List.range' k l.length) b w := by
  induction l with
  | nil =>
    intro k a h a1 h1 _ e
    cases e
    exact ⟨Nat.le_refl _, fun ρ b w x Q hok hr hgr hra hfr hQ => hQ ρ b w hra (Post.refl hok hr)⟩
  | cons o l ih =>
    intro k a h a1 h1 hl e
    have h0 : ops[k]? = some o := by simpa using (hl 0).symm
    have hl' : ∀ j, l[j]? = ops[k + 1 + j]? := fun j => by have := hl (j + 1); simpa [Nat.add_assoc, Nat.add_comm 1 j] using this
    rw [opsStep_cons] at e
    split at e
    · rename_i hw
      split at e
      · rename_i v h2 hst
        obtain ⟨n1, C1⟩ := operStep_ok hG hst
        obtain ⟨n2, C2⟩ := ih (k + 1) _ _ _ _ hl' e
        refine ⟨by omega, fun ρ b w x Q hok hr hgr hra hfr hQ => ?_⟩
        simp only [List.length_cons, List.range'_succ, wpOpsIn, h0]
        rw [if_pos (by rw [hra.wanted]; exact hw)]
        have hall := oper_all hst
        rw [List.all_eq_true] at hall
        refine C1 ρ b w x _ _ hok hr hgr (fun y hy => hra.eval hgr (hall y (by simpa using hy))) (hfr.left n2) ?_
        intro ρ' v' w' g1 g2
        exact C2 ρ' _ w' x Q g2.ok g2.rel (hgr.mono g2.le) ((hra.mono g2.le).put o.dst g1) (hfr.right g2) (fun ρ2 b2 w2 k1 k2 => hQ ρ2 b2 w2 k1 (g2.trans k2))
      · cases e
    · rename_i hw
      obtain ⟨n2, C2⟩ := ih (k + 1) _ _ _ _ hl' e
      refine ⟨n2, fun ρ b w x Q hok hr hgr hra hfr hQ => ?_⟩
      simp only [List.length_cons, List.range'_succ, wpOpsIn, h0]
      rw [if_neg (by rw [hra.wanted]; exact hw)]
      exact ⟨fun _ _ => trivial, C2 ρ _ w x Q hok hr hgr (hra.put o.dst undef_VR) hfr hQ⟩
end Go.Proofs.YtkjhnemfebgcnaaGreatDoor.Ev

namespace Go.Proofs.YtkjhnemfebgcnaaGreatDoor.Ev
open Go Go.RowKit Go.MapKept
variable {ρ : Rn} {P : Program}
def addPiece (t : Tr) (p : List (Nat × Obj)) : Tr := p.foldl (fun t x => t.set 16 x.1 (some x.2)) t
def addAll (f : Nat → Bool) (t : Tr) (ps : List (Nat × List (Nat × Obj))) : Tr := ps.foldl (fun t p => bif f p.1 then addPiece t p.2 else t) t
def viewOf (base : H) (f : Nat → Bool) (ps : List (Nat × List (Nat × Obj))) (nx : Nat) : H := { t := addAll f base.t ps, next := nx, bar := nx }
def pieceOf (v : Value) (nx : Nat) (h1 : H) : List (Nat × Obj) := if flat v = true then [] else (List.range' nx (h1.next - nx)).filterMap fun i => (h1.get i).map fun o => (i, o)
/-- A variable that holds a map. -/
def holdsM (m : Nat) (o : Option Obj) : Bool := match o with
  | some (.cells ⟨[.map (some k)]⟩ _ _) => Nat.beq k m
  | _ => false
def sameM (o o' : Option Obj) : Bool := match o, o' with
  | some (.cells ⟨[.map (some k)]⟩ t fl), some (.cells ⟨[.map (some k')]⟩ t' fl') => Nat.beq k k' && Nat.beq t t' && Nat.beq fl.1 fl'.1 && Nat.beq fl.2 fl'.2
  | _, _ => false
theorem sameM_eq {o o' : Option Obj} (h : sameM o o' = true) : o' = o := by
  unfold sameM at h
  split at h
  · rename_i k t fl k' t' fl'
    simp only [Bool.and_eq_true, Nat.beq_eq] at h
    obtain ⟨⟨⟨rfl, rfl⟩, h1⟩, h2⟩ := h
    obtain ⟨x, y⟩ := fl
    obtain ⟨x', y'⟩ := fl'
    simp only at h1 h2
    rw [h1, h2]
  · cases h
/-- The known blocks up to one of them, which alone may be written, and the variables that hold it. -/
def cutAt (base : H) (m nx : Nat) : H := { t := (List.range' (m + 1) (min base.next 65536 - (m + 1))).foldl (fun t i => bif holdsM m (base.get i) then t else t.set 16 i none) base.t, next := nx, bar := m }
def keptM (base ho : H) (m : Nat) : Bool := (List.range' (m + 1) (min base.next 65536 - (m + 1))).all fun i => bif holdsM m (base.get i) then sameM (base.get i) (ho.get i) else true
/-- What an operation of the head is shown: the writer the old blocks up to the one that it writes, each other one the old blocks without that one, and what came before it. -/
def hview (base bM : H) (wr m : Nat) (T : List Nat) (i : Nat) (ps : List (Nat × List (Nat × Obj))) (nx : Nat) : H := bif Nat.beq i wr then cutAt base m nx else viewOf bM (fun q => (T.getD i 0).testBit q) ps nx
def headStep (P : Program) (G : Nat) (r : Rec) (ops : Array Oper) (T : List Nat) (base bM : H) (wr m : Nat) : List Oper → Nat → Act → List (Nat × List (Nat × Obj)) → Nat → H → Nat ⊕ (Act × List (Nat × List (Nat × Obj)) × Nat × H)
  | [], _, a, ps, nx, hw => .inr (a, ps, nx, hw)
  | o :: l, i, a, ps, nx, hw => if Region.wanted o (yielded ops a.tmps) = true then
      match operStep P G r o a (hview base bM wr m T i ps nx) with
      | some (v, h1) => headStep P G r ops T base bM wr m l (i + 1) (puL a o.dst v) ((i, pieceOf v nx h1) :: ps) h1.next (bif Nat.beq i wr then h1 else hw)
      | none => .inl i
    else headStep P G r ops T base bM wr m l (i + 1) (puL a o.dst undef) ((i, []) :: ps) nx hw
theorem cut_fold (f : Nat → Bool) : ∀ (l : List Nat) (t : Tr) (j : Nat), (∀ i ∈ l, i < 65536) → j < 65536 → (l.foldl (fun t i => bif f i then t else t.set 16 i none) t).get 16 j = if j ∈ l ∧ f j = false then none else t.get 16 j
  | [], t, j, _, _ => by simp
  | i :: l, t, j, hl, hj => by
    show (l.foldl _ (bif f i then t else t.set 16 i none)).get 16 j = _
    rw [cut_fold f l _ j (fun k hk => hl k (by simp [hk])) hj]
    cases hf : f i with
    | true =>
      simp only [cond_true, List.mem_cons]
      by_cases h1 : j ∈ l
      · simp [h1]
      · by_cases h2 : j = i
        · subst h2; simp [hf, h1]
        · simp [h1, h2]
    | false =>
      simp only [cond_false, List.mem_cons]
      rw [Tr.get_set 16 _ _ _ _ (hl i (by simp)) hj]
      by_cases h2 : j = i
      · subst h2; simp [hf]
      · simp [h2]
theorem cut_range {base : H} {m k : Nat} (hk : k ∈ List.range' (m + 1) (min base.next 65536 - (m + 1))) : k < 65536 := by
  rw [List.mem_range'_1] at hk; omega
theorem cutAt_get {base : H} (hok : base.Ok) {m nx i : Nat} {o : Obj} (h : (cutAt base m nx).get i = some o) : base.get i = some o ∧ (i ≤ m ∨ m < i ∧ holdsM m (base.get i) = true) := by
  have hi := get_lt h
  have h0 := h
  unfold H.get at h
  rw [if_pos hi] at h
  have := cut_fold (fun i => holdsM m (base.get i)) (List.range' (m + 1) (min base.next 65536 - (m + 1))) base.t i (fun k hk => cut_range hk) hi
  have h' : ((List.range' (m + 1) (min base.next 65536 - (m + 1))).foldl (fun t i => bif holdsM m (base.get i) then t else t.set 16 i none) base.t).get 16 i = some o := h
  rw [this] at h'
  split at h'
  · cases h'
  · rename_i hne
    have hb : base.get i = some o := by unfold H.get; rw [if_pos hi]; exact h'
    refine ⟨hb, ?_⟩
    have := hok.lt i o hb
    rw [List.mem_range'_1] at hne
    rcases Nat.lt_or_ge m i with hlt | hge
    · refine .inr ⟨hlt, ?_⟩
      cases hh : holdsM m (base.get i) with
      | true => rfl
      | false => exact absurd ⟨by omega, hh⟩ hne
    · exact .inl hge
theorem cutAt_below {base : H} {m nx i : Nat} (h : i ≤ m) : (cutAt base m nx).get i = base.get i := by
  unfold H.get
  split
  · rename_i hi
    have := cut_fold (fun i => holdsM m (base.get i)) (List.range' (m + 1) (min base.next 65536 - (m + 1))) base.t i (fun k hk => cut_range hk) hi
    refine Eq.trans this ?_
    rw [if_neg]
    rw [List.mem_range'_1]; omega
  · rfl
theorem keptM_get {base ho : H} (hok : base.Ok) {m : Nat} (h : keptM base ho m = true) {i : Nat} (hi : m < i) (hh : holdsM m (base.get i) = true) : ho.get i = base.get i := by
  have hg : ∃ o, base.get i = some o := by
    cases hb : base.get i with
    | none => rw [hb] at hh; cases hh
    | some o => exact ⟨o, rfl⟩
  obtain ⟨o, ho'⟩ := hg
  have h1 := hok.lt i o ho'
  have h2 := get_lt ho'
  unfold keptM at h
  rw [List.all_eq_true] at h
  have := h i (by rw [List.mem_range'_1]; omega)
  rw [hh] at this
  exact sameM_eq this
theorem hview_next (base bM : H) (wr m : Nat) (T : List Nat) (i : Nat) (ps : List (Nat × List (Nat × Obj))) (nx : Nat) : (hview base bM wr m T i ps nx).next = nx := by
  unfold hview
  cases Nat.beq i wr <;> rfl
theorem addPiece_get (p : List (Nat × Obj)) : ∀ (t : Tr) (i : Nat) (o : Obj), (∀ x ∈ p, x.1 < 65536) → i < 65536 → (addPiece t p).get 16 i = some o → t.get 16 i = some o ∨ (i, o) ∈ p := by
  induction p with
  | nil => intro t i o _ _ h; exact .inl h
  | cons x p ih =>
    intro t i o hx hi h
    rcases ih (t.set 16 x.1 (some x.2)) i o (fun y hy => hx y (by simp [hy])) hi h with h1 | h1
    · rw [Tr.get_set 16 _ _ _ _ (hx x (by simp)) hi] at h1
      split at h1
      · rename_i e; cases h1; subst e; exact .inr (by simp)
      · exact .inl h1
    · exact .inr (by simp [h1])
theorem addPiece_other (p : List (Nat × Obj)) : ∀ (t : Tr) (i : Nat), (∀ x ∈ p, x.1 < 65536) → i < 65536 → (∀ x ∈ p, x.1 ≠ i) → (addPiece t p).get 16 i = t.get 16 i := by
  induction p with
  | nil => intro t i _ _ _; rfl
  | cons x p ih =>
    intro t i hx hi hne
    show (addPiece (t.set 16 x.1 (some x.2)) p).get 16 i = _
    rw [ih _ i (fun y hy => hx y (by simp [hy])) hi (fun y hy => hne y (by simp [hy])), Tr.get_set 16 _ _ _ _ (hx x (by simp)) hi, if_neg (fun e => hne x (by simp) e.symm)]
theorem addAll_get (f : Nat → Bool) (ps : List (Nat × List (Nat × Obj))) : ∀ (t : Tr) (i : Nat) (o : Obj), (∀ p ∈ ps, ∀ x ∈ p.2, x.1 < 65536) → i < 65536 → (addAll f t ps).get 16 i = some o →
    t.get 16 i = some o ∨ ∃ p ∈ ps, f p.1 = true ∧ (i, o) ∈ p.2 := by
  induction ps with
  | nil => intro t i o _ _ h; exact .inl h
  | cons p ps ih =>
    intro t i o hx hi h
    rcases ih (bif f p.1 then addPiece t p.2 else t) i o (fun y hy => hx y (by simp [hy])) hi h with h1 | ⟨q, h1, h2, h3⟩
    · cases hf : f p.1 with
      | false => rw [hf] at h1; exact .inl h1
      | true =>
        rw [hf] at h1
        rcases addPiece_get p.2 t i o (fun y hy => hx p (by simp) y hy) hi h1 with h2 | h2
        · exact .inl h2
        · exact .inr ⟨p, by simp, hf, h2⟩
    · exact .inr ⟨q, by simp [h1], h2, h3⟩
theorem addAll_other (f : Nat → Bool) (ps : List (Nat × List (Nat × Obj))) : ∀ (t : Tr) (i : Nat), (∀ p ∈ ps, ∀ x ∈ p.2, x.1 < 65536) → i < 65536 → (∀ p ∈ ps, ∀ x ∈ p.2, x.1 ≠ i) → (addAll f t ps).get 16 i = t.get 16 i := by
  induction ps with
  | nil => intro t i _ _ _; rfl
  | cons p ps ih =>
    intro t i hx hi hne
    show (addAll f (bif f p.1 then addPiece t p.2 else t) ps).get 16 i = _
    rw [ih _ i (fun y hy => hx y (by simp [hy])) hi (fun y hy => hne y (by simp [hy]))]
    cases hf : f p.1 with
    | false => rfl
    | true => exact addPiece_other p.2 t i (fun y hy => hx p (by simp) y hy) hi (fun y hy => hne p (by simp) y hy)
theorem pieceOf_mem {v : Value} {nx : Nat} {h1 : H} {i : Nat} {o : Obj} (h : (i, o) ∈ pieceOf v nx h1) : nx ≤ i ∧ i < h1.next ∧ h1.get i = some o ∧ i < 65536 := by
  unfold pieceOf at h
  split at h
  · cases h
  · simp only [List.mem_filterMap, List.mem_range'_1] at h
    obtain ⟨k, ⟨h1', h2⟩, h3⟩ := h
    cases hg : H.get h1 k with
    | none => rw [hg] at h3; cases h3
    | some o' =>
      rw [hg] at h3; cases h3
      exact ⟨h1', by omega, hg, get_lt hg⟩
def psAt (C : Nat → List (Nat × Obj)) (i k : Nat) : List (Nat × List (Nat × Obj)) := (List.range' i k).reverse.map fun j => (j, C j)
theorem psAt_succ (C : Nat → List (Nat × Obj)) (i k : Nat) (ps : List (Nat × List (Nat × Obj))) : psAt C (i + 1) k ++ (i, C i) :: ps = psAt C i (k + 1) ++ ps := by
  unfold psAt
  rw [List.range'_succ]
  simp
theorem beq_no {a b : Nat} (h : a ≠ b) : Nat.beq a b = false := by
  cases hh : Nat.beq a b with
  | false => rfl
  | true => exact absurd (Nat.eq_of_beq_eq_true hh) h
/-- What the walk over the head in the order of the text says of its operations. -/
structure HF (P : Program) (G : Nat) (r : Rec) (ops : Array Oper) (T : List Nat) (base bM : H) (wr m : Nat) (l : List Oper) (i : Nat) (ps : List (Nat × List (Nat × Obj))) (A : Nat → Act) (V : Nat → Value) (C : Nat → List (Nat × Obj)) (N : Nat → Nat) (HO : Nat → H) : Prop where
  step : ∀ j o, l[j]? = some o → A (i + j + 1) = (A (i + j)).put o.dst (V (i + j)) ∧
    ((Region.wanted o (yielded ops (A (i + j)).tmps) = true ∧ operStep P G r o (A (i + j)) (hview base bM wr m T (i + j) (psAt C i j ++ ps) (N (i + j))) = some (V (i + j), HO (i + j)) ∧
        (HO (i + j)).next = N (i + j + 1) ∧ C (i + j) = pieceOf (V (i + j)) (N (i + j)) (HO (i + j))) ∨
      (Region.wanted o (yielded ops (A (i + j)).tmps) = false ∧ V (i + j) = undef ∧ C (i + j) = [] ∧ N (i + j + 1) = N (i + j)))
theorem headStep_facts {G : Nat} {r : Rec} {ops : Array Oper} {T : List Nat} {base bM : H} {wr m : Nat} (l : List Oper) : ∀ (i : Nat) (a : Act) (ps : List (Nat × List (Nat × Obj))) (nx : Nat) (hw : H) (a' : Act) (ps' : List (Nat × List (Nat × Obj))) (nx' : Nat) (hw' : H),
    headStep P G r ops T base bM wr m l i a ps nx hw = .inr (a', ps', nx', hw') →
    ∃ A V C N HO, A i = a ∧ N i = nx ∧ A (i + l.length) = a' ∧ N (i + l.length) = nx' ∧ ps' = psAt C i l.length ++ ps ∧ HF P G r ops T base bM wr m l i ps A V C N HO ∧
      (i ≤ wr → wr < i + l.length → (∀ o, l[wr - i]? = some o → o.guard = none) → hw' = HO wr) ∧ ((wr < i ∨ i + l.length ≤ wr) → hw' = hw) := by
  induction l with
  | nil =>
    intro i a ps nx hw a' ps' nx' hw' h
    cases h
    exact ⟨fun _ => a, fun _ => undef, fun _ => [], fun _ => nx, fun _ => base, rfl, rfl, rfl, rfl, rfl, ⟨fun j o h => by simp at h⟩, fun h1 h2 => by simp at h2; omega, fun _ => rfl⟩
  | cons o l ih =>
    intro i a ps nx hw a' ps' nx' hw' h
    simp only [headStep, puL_eq] at h
    have fin : ∀ (v : Value) (c : List (Nat × Obj)) (n1 : Nat) (ho hw1 : H), headStep P G r ops T base bM wr m l (i + 1) (a.put o.dst v) ((i, c) :: ps) n1 hw1 = .inr (a', ps', nx', hw') →
        ((Region.wanted o (yielded ops a.tmps) = true ∧ operStep P G r o a (hview base bM wr m T i ps nx) = some (v, ho) ∧ ho.next = n1 ∧ c = pieceOf v nx ho) ∨
          (Region.wanted o (yielded ops a.tmps) = false ∧ v = undef ∧ c = [] ∧ n1 = nx)) → (i = wr → o.guard = none → hw1 = ho) → (i ≠ wr → hw1 = hw) →
        ∃ A V C N HO, A i = a ∧ N i = nx ∧ A (i + (o :: l).length) = a' ∧ N (i + (o :: l).length) = nx' ∧ ps' = psAt C i (o :: l).length ++ ps ∧ HF P G r ops T base bM wr m (o :: l) i ps A V C N HO ∧
          (i ≤ wr → wr < i + (o :: l).length → (∀ o', (o :: l)[wr - i]? = some o' → o'.guard = none) → hw' = HO wr) ∧ ((wr < i ∨ i + (o :: l).length ≤ wr) → hw' = hw) := by
      intro v c n1 ho hw1 h hfact hwa hwb
      obtain ⟨A, V, C, N, HO, e1, e2, e3, e4, e5, e6, e7, e8⟩ := ih _ _ _ _ _ _ _ _ _ h
      have hC : ∀ k, psAt (fun k => if k = i then c else C k) (i + 1) k = psAt C (i + 1) k := fun k => by
        unfold psAt
        apply List.map_congr_left
        intro j hj
        have : i + 1 ≤ j := by
          rw [List.mem_reverse, List.mem_range'_1] at hj; exact hj.1
        dsimp only
        rw [if_neg (by omega)]
      refine ⟨fun k => if k = i then a else A k, fun k => if k = i then v else V k, fun k => if k = i then c else C k, fun k => if k = i then nx else N k, fun k => if k = i then ho else HO k, by simp, by simp, ?_, ?_, ?_, ⟨fun j o' hj => ?_⟩, fun w1 w2 w3 => ?_, fun w1 => ?_⟩
      · dsimp only
        rw [List.length_cons, if_neg (by omega), show i + (l.length + 1) = i + 1 + l.length by omega]; exact e3
      · dsimp only
        rw [List.length_cons, if_neg (by omega), show i + (l.length + 1) = i + 1 + l.length by omega]; exact e4
      · rw [e5, List.length_cons, ← psAt_succ, hC, if_pos rfl]
      · cases j with
        | zero =>
          simp only [List.getElem?_cons_zero, Option.some.injEq] at hj
          subst hj
          simp only [Nat.add_zero, if_true, if_neg (show ¬ i + 1 = i by omega)]
          refine ⟨e1, ?_⟩
          rw [e2]
          rcases hfact with ⟨f1, f2, f3, f4⟩ | ⟨f1, f2, f3, f4⟩
          · exact .inl ⟨f1, by simpa [psAt] using f2, f3, f4⟩
          · exact .inr ⟨f1, f2, f3, f4⟩
        | succ j =>
          have hj' : l[j]? = some o' := by simpa using hj
          have s := e6.step j o' hj'
          simp only [show i + (j + 1) = i + 1 + j from by omega, if_neg (show ¬ i + 1 + j = i by omega), if_neg (show ¬ i + 1 + j + 1 = i by omega)]
          refine ⟨s.1, ?_⟩
          rw [← psAt_succ, hC, if_pos rfl]
          exact s.2
      · dsimp only
        by_cases ei : wr = i
        · rw [if_pos ei, e8 (.inl (by omega))]
          exact hwa ei.symm (w3 o (by rw [ei]; simp))
        · rw [if_neg ei]
          refine e7 (by omega) (by rw [List.length_cons] at w2; omega) fun o2 ho2 => w3 o2 ?_
          rw [show wr - i = (wr - (i + 1)) + 1 by omega, List.getElem?_cons_succ]; exact ho2
      · rw [List.length_cons] at w1
        rw [e8 (by omega), hwb (by omega)]
    split at h
    · rename_i hwn
      split at h
      · rename_i v h1 hst
        refine fin v _ _ h1 _ h (.inl ⟨hwn, hst, rfl, rfl⟩) (fun ei _ => ?_) (fun ei => ?_)
        · subst ei; simp
        · rw [beq_no ei]; rfl
      · cases h
    · rename_i hwn
      refine fin undef [] nx base _ h (.inr ⟨by simpa using hwn, rfl, rfl, rfl⟩) (fun _ hg => ?_) (fun _ => rfl)
      exact absurd (by simp [Region.wanted, hg]) hwn
/-- The masks of what must come before. -/
def masks : List Oper → List Nat → List Nat
  | [], acc => acc
  | o :: l, acc => masks l (acc ++ [o.after.toList.foldl (fun s e => bif Region.binds .any e then (s ||| (1 <<< e.on)) ||| acc.getD e.on 0 else s) 0])
def maskArr (k m : Nat) : Array Bool := ((List.range m).map fun i => decide (i < k)).toArray
def notTmp (d : Tmp) : Operand → Bool
  | .tmp t => !Nat.beq t d
  | _ => true
/-- A store, and behind it an address that may also be taken ahead of it. -/
def swapOk (ops : Array Oper) (k : Nat) : Bool := match ops[k]?, ops[k + 1]? with
  | some o, some o2 => match o.op, o.dst, o.guard, o2.op, o2.dst, o2.guard with
    | .store _ x y, none, none, .indexAddr .., some d, none => notTmp d x && notTmp d y && (Region.ready .any ops (maskArr k ops.size) == [k, k + 1]) && (Region.ready .any ops ((maskArr k ops.size).setIfInBounds (k + 1) true) == [k])
    | _, _, _, _, _, _ => false
  | _, _ => false
structure SW (ops : Array Oper) (k : Nat) : Prop where
  w : ∃ o o2 t x y d t2 x2 y2, ops[k]? = some o ∧ ops[k + 1]? = some o2 ∧ o.op = .store t x y ∧ o.dst = none ∧ o.guard = none ∧ o2.op = .indexAddr t2 x2 y2 ∧ o2.dst = some d ∧ o2.guard = none ∧ notTmp d x = true ∧ notTmp d y = true
  r1 : Region.ready .any ops (maskArr k ops.size) = [k, k + 1]
  r2 : Region.ready .any ops ((maskArr k ops.size).setIfInBounds (k + 1) true) = [k]
theorem swapOk_sw {ops : Array Oper} {k : Nat} (h : swapOk ops k = true) : SW ops k := by
  unfold swapOk at h
  split at h
  · rename_i o o2 h1 h2
    split at h
    · rename_i h3 h4 h5 h6 h7 h8
      simp only [Bool.and_eq_true, beq_iff_eq] at h
      exact ⟨⟨o, o2, _, _, _, _, _, _, _, h1, h2, h3, h4, h5, h6, h7, h8, h.1.1.1, h.1.1.2⟩, h.1.2, h.2⟩
    · cases h
  · cases h
/-- A store that yields nothing and waits for no guard. -/
def plainS (o : Oper) : Bool := match o.op, o.dst, o.guard with
  | .store .., none, none => true
  | _, _, _ => false
/-- Where the stores at a region's end begin. -/
def endOf (ops : Array Oper) : Nat := ops.size - (ops.toList.reverse.takeWhile plainS).length
/-- What may be left behind: copies of what the region does not turn. -/
def lateOf (m n : Nat) (T : List Nat) : List Nat := (List.range n).filter fun q => (List.range m).any fun i => Nat.ble n i && !(T.getD i 0).testBit q
def lateOk (ops : Array Oper) (T : List Nat) (l : Nat) : Bool := match ops[l]? with
  | some o => match o.op, o.dst, o.guard with
    | .move x, some d, none => o.after.toList.all (fun e => !Region.binds .any e) && (List.range ops.size).all fun i => match ops[i]? with
        | some o' => (match o'.dst with | some d' => notTmp d' x && (Nat.beq i l || !Nat.beq d' d) | none => true) && (Nat.beq i l || !(o'.looksAt ops).contains d || (T.getD i 0).testBit l)
        | none => false
    | _, _, _ => false
  | none => false
structure Late (ops : Array Oper) (T : List Nat) (l : Nat) (o : Oper) (x : Operand) (d : Tmp) : Prop where
  at' : ops[l]? = some o
  op : o.op = .move x
  dst : o.dst = some d
  guard : o.guard = none
  free : ∀ e ∈ o.after, Region.binds .any e = false
  src : ∀ (i : Nat) (o' : Oper) (d' : Tmp), ops[i]? = some o' → o'.dst = some d' → notTmp d' x = true
  dd : ∀ (i : Nat) (o' : Oper), i ≠ l → ops[i]? = some o' → o'.dst ≠ some d
  rd : ∀ (i : Nat) (o' : Oper), i ≠ l → ops[i]? = some o' → d ∈ o'.looksAt ops → (T.getD i 0).testBit l = true
theorem lateOk_late {ops : Array Oper} {T : List Nat} {l : Nat} (h : lateOk ops T l = true) : ∃ o x d, Late ops T l o x d := by
  unfold lateOk at h
  split at h
  · rename_i o ho
    split at h
    · rename_i x d h1 h2 h3
      simp only [Bool.and_eq_true, List.all_eq_true] at h
      have hall : ∀ i o', ops[i]? = some o' → ((match o'.dst with | some d' => notTmp d' x && (Nat.beq i l || !Nat.beq d' d) | none => true) && (Nat.beq i l || !(o'.looksAt ops).contains d || (T.getD i 0).testBit l)) = true := fun i o' ho' => by
        have := h.2 i (List.mem_range.2 (Array.getElem?_eq_some_iff.1 ho').1)
        rw [ho'] at this
        exact this
      refine ⟨o, x, d, ho, h1, h2, h3, fun e he => by simpa using h.1 e (by simpa using he), fun i o' d' ho' hd' => ?_, fun i o' hne ho' hd' => ?_, fun i o' hne ho' hl => ?_⟩
      · have := hall i o' ho'
        rw [hd'] at this
        simp only [Bool.and_eq_true] at this
        exact this.1.1
      · have := hall i o' ho'
        rw [hd', beq_no hne] at this
        simp at this
      · have := hall i o' ho'
        rw [beq_no hne, show (o'.looksAt ops).contains d = true by simpa using hl] at this
        simp only [Bool.and_eq_true] at this
        simpa using this.2
    · cases h
  · cases h
def rOk (ops : Array Oper) (n : Nat) (T : List Nat) : Bool :=
  let m := ops.size
  Nat.ble n m &&
  (List.range m).all (fun i => (List.range m).all fun q => !(T.getD i 0).testBit q || (ops.getD i default).after.toList.any fun e => Region.binds .any e && (Nat.beq e.on q || (Nat.blt e.on i && (T.getD e.on 0).testBit q))) &&
  (List.range n).all (fun i => match (ops.getD i default).dst with
    | none => true
    | some d => (List.range n).all fun q => Nat.beq q i || (match (ops.getD q default).dst with | none => true | some d' => !Nat.beq d d')) &&
  (List.range n).all (fun q => match (ops.getD q default).dst with
    | none => true
    | some d => (List.range n).all fun i => Nat.beq q i || !((ops.getD i default).looksAt ops).contains d || (bif Nat.blt q i then (T.getD i 0).testBit q else (T.getD q 0).testBit i)) &&
  (let L := lateOf m n T; L.all (fun l => lateOk ops T l) && (L.isEmpty || (List.range m).all fun i => Nat.blt i n || (ops.getD i default).guard.isNone)) &&
  (List.range m).all (fun k => Nat.blt k n || (Region.ready .any ops (maskArr k m) == [k]) || swapOk ops k || (Nat.ble (endOf ops) k && (List.range m).all fun j => Nat.blt j k || plainS (ops.getD j default))) &&
  (Region.ready .any ops (maskArr m m) == []) &&
  (List.range m).all (fun i => (ops.getD i default).after.toList.all fun e => !Region.binds .any e || Nat.blt e.on i)
structure RO (ops : Array Oper) (n : Nat) (T : List Nat) : Prop where
  nle : n ≤ ops.size
  tr : ∀ i o, ops[i]? = some o → ∀ q, q < ops.size → (T.getD i 0).testBit q = true → ∃ e ∈ o.after, Region.binds .any e = true ∧ (e.on = q ∨ (e.on < i ∧ (T.getD e.on 0).testBit q = true))
  dd : ∀ i o q o', i < n → q < n → ops[i]? = some o → ops[q]? = some o' → q ≠ i → ∀ d, o.dst = some d → o'.dst ≠ some d
  rd : ∀ i o q o', i < n → q < n → ops[i]? = some o → ops[q]? = some o' → q ≠ i → ∀ d, o'.dst = some d → d ∈ o.looksAt ops → (q < i → (T.getD i 0).testBit q = true) ∧ (i < q → (T.getD q 0).testBit i = true)
  sink : ∀ i, n ≤ i → i < ops.size → ∀ q, q < n → q ∉ lateOf ops.size n T → (T.getD i 0).testBit q = true
  late : ∀ l, l ∈ lateOf ops.size n T → ∃ o x d, Late ops T l o x d
  bare : ∀ l, l ∈ lateOf ops.size n T → ∀ i o, n ≤ i → ops[i]? = some o → o.guard = none
  chain : ∀ k, n ≤ k → k < ops.size → Region.ready .any ops (maskArr k ops.size) = [k] ∨ SW ops k ∨ (endOf ops ≤ k ∧ ∀ j o, k ≤ j → ops[j]? = some o → plainS o = true)
  done : Region.ready .any ops (maskArr ops.size ops.size) = []
  ord : ∀ i o, ops[i]? = some o → ∀ e ∈ o.after, Region.binds .any e = true → e.on < i
theorem getD_of {ops : Array Oper} {i : Nat} {o : Oper} (h : ops[i]? = some o) : ops.getD i default = o ∧ i < ops.size := by
  have hlt := (Array.getElem?_eq_some_iff.1 h).1
  have := (Array.getElem?_eq_some_iff.1 h).2
  exact ⟨by simp [Array.getD, hlt, this], hlt⟩
theorem rOk_ro {ops : Array Oper} {n : Nat} {T : List Nat} (h : rOk ops n T = true) : RO ops n T := by
  simp only [rOk, Bool.and_eq_true] at h
  obtain ⟨⟨⟨⟨⟨⟨⟨h1, h2⟩, h3⟩, h4⟩, h5, h5b⟩, h6⟩, h7⟩, h8⟩ := h
  rw [List.all_eq_true] at h2 h3 h4 h5 h6 h8
  have hn : n ≤ ops.size := by simpa [Nat.ble_eq] using h1
  refine ⟨hn, fun i o ho q hq hb => ?_, fun i o q o' hi hq ho ho' hne d hd hd' => ?_, fun i o q o' hi hq ho ho' hne d hd hl => ?_, fun i hni hi q hq hql => ?_, fun l hl => lateOk_late (h5 l hl), fun l hl i o hni ho => ?_, fun k hnk hk => ?_, by simpa using h7, fun i o ho e he hbd => ?_⟩
  · obtain ⟨e1, e2⟩ := getD_of ho
    have := h2 i (List.mem_range.2 e2)
    rw [List.all_eq_true] at this
    have := this q (List.mem_range.2 hq)
    rw [hb, e1] at this
    simp only [Bool.not_true, Bool.false_or, List.any_eq_true, Bool.and_eq_true, Bool.or_eq_true, Nat.beq_eq, Nat.blt_eq, Array.mem_toList_iff] at this
    obtain ⟨e, he, hb2, hc⟩ := this
    exact ⟨e, he, hb2, hc⟩
  · have := h3 i (List.mem_range.2 hi)
    rw [(getD_of ho).1, hd] at this
    simp only [List.all_eq_true] at this
    have := this q (List.mem_range.2 hq)
    rw [(getD_of ho').1, hd'] at this
    simp at this
    exact hne this
  · have := h4 q (List.mem_range.2 hq)
    rw [(getD_of ho').1, hd] at this
    simp only [List.all_eq_true] at this
    have := this i (List.mem_range.2 hi)
    rw [(getD_of ho).1] at this
    have hne' : Nat.beq q i = false := by
      cases hh : Nat.beq q i with
      | false => rfl
      | true => exact absurd (Nat.eq_of_beq_eq_true hh) hne
    have hct : (o.looksAt ops).contains d = true := by simpa using hl
    rw [hne', hct] at this
    simp only [Bool.not_true, Bool.false_or] at this
    refine ⟨fun hlt => ?_, fun hlt => ?_⟩
    · rw [show Nat.blt q i = true from by simpa [Nat.blt_eq] using hlt] at this
      exact this
    · rw [show Nat.blt q i = false from by
        cases hh : Nat.blt q i with
        | false => rfl
        | true => rw [Nat.blt_eq] at hh; omega] at this
      exact this
  · cases hb : (T.getD i 0).testBit q with
    | true => rfl
    | false =>
      exfalso
      apply hql
      simp only [lateOf, List.mem_filter, List.any_eq_true, Bool.and_eq_true, List.mem_range]
      exact ⟨hq, i, hi, by rw [Nat.ble_eq]; exact hni, by rw [hb]; rfl⟩
  · have hne : (lateOf ops.size n T).isEmpty = false := by
      cases hL : lateOf ops.size n T with
      | nil => rw [hL] at hl; cases hl
      | cons a b => rfl
    rw [hne, Bool.false_or, List.all_eq_true] at h5b
    have := h5b i (List.mem_range.2 (getD_of ho).2)
    rw [(getD_of ho).1, show Nat.blt i n = false from by
        cases hh : Nat.blt i n with
        | false => rfl
        | true => rw [Nat.blt_eq] at hh; omega] at this
    simpa using this
  · have := h6 k (List.mem_range.2 hk)
    rw [show Nat.blt k n = false from by
        cases hh : Nat.blt k n with
        | false => rfl
        | true => rw [Nat.blt_eq] at hh; omega] at this
    simp only [Bool.false_or, Bool.or_eq_true, beq_iff_eq, Bool.and_eq_true] at this
    rcases this with (h1 | h1) | ⟨h1, h2⟩
    · exact .inl h1
    · exact .inr (.inl (swapOk_sw h1))
    · refine .inr (.inr ⟨by simpa [Nat.ble_eq] using h1, fun j o hkj ho => ?_⟩)
      rw [List.all_eq_true] at h2
      have h3 := h2 j (List.mem_range.2 (getD_of ho).2)
      rw [(getD_of ho).1, show Nat.blt j k = false from by
          cases hh : Nat.blt j k with
          | false => rfl
          | true => rw [Nat.blt_eq] at hh; omega] at h3
      simpa using h3
  · obtain ⟨e1, e2⟩ := getD_of ho
    have := h8 i (List.mem_range.2 e2)
    rw [e1, List.all_eq_true] at this
    have := this e (by simpa using he)
    rw [hbd] at this
    simpa [Nat.blt_eq] using this
/-- One operation of the head that writes an old block: the old blocks without it, and with what it has become. -/
structure WK where
  bM : H
  b1 : H
  wr : Nat
  m : Nat
structure Wr (ops : Array Oper) (base : H) (K : WK) (n : Nat) (HO : Nat → H) : Prop where
  w : (n ≤ K.wr ∧ K.bM = base ∧ K.b1 = base) ∨ (K.wr < n ∧ base.bar ≤ K.m ∧ K.m < 65536 ∧ K.bM = base.put K.m none ∧ (∃ o0, base.get K.m = some o0) ∧ (∃ o1, (HO K.wr).get K.m = some o1 ∧ K.b1 = base.put K.m (some o1)) ∧ (∀ i, K.m < i → holdsM K.m (base.get i) = true → (HO K.wr).get i = base.get i) ∧ ∀ o, ops[K.wr]? = some o → o.guard = none ∧ ∀ x, o.op ≠ .move x)
variable {ops : Array Oper} {base : H} {K : WK} {n : Nat} {HO : Nat → H}
theorem Wr.m0 (w : Wr ops base K n HO) {i : Nat} {o : Obj} (h : K.bM.get i = some o) : base.get i = some o := by
  rcases w.w with ⟨_, e, _⟩ | ⟨_, _, hm, e, _⟩
  · rw [e] at h; exact h
  · rw [e, H.get_put _ _ _ _ hm] at h
    split at h
    · cases h
    · exact h
theorem Wr.m1 (w : Wr ops base K n HO) {i : Nat} {o : Obj} (h : K.bM.get i = some o) : K.b1.get i = some o := by
  rcases w.w with ⟨_, e, e'⟩ | ⟨_, _, hm, e, _, ⟨o1, _, e'⟩, _⟩
  · rw [e'] ; rw [e] at h; exact h
  · rw [e, H.get_put _ _ _ _ hm] at h
    rw [e', H.get_put _ _ _ _ hm]
    split at h
    · cases h
    · rename_i hne; rw [if_neg hne]; exact h
theorem Wr.b (w : Wr ops base K n HO) {i : Nat} {o : Obj} (h : K.b1.get i = some o) : ∃ o', base.get i = some o' := by
  rcases w.w with ⟨_, _, e'⟩ | ⟨_, _, hm, _, ⟨o0, h0⟩, ⟨o1, _, e'⟩, _⟩
  · rw [e'] at h; exact ⟨o, h⟩
  · rw [e', H.get_put _ _ _ _ hm] at h
    split at h
    · rename_i e; rw [e]; exact ⟨o0, h0⟩
    · exact ⟨o, h⟩
theorem Wr.old (w : Wr ops base K n HO) {i : Nat} (h : i < base.bar) : K.b1.get i = base.get i := by
  rcases w.w with ⟨_, _, e'⟩ | ⟨_, hb, hm, _, _, ⟨o1, _, e'⟩, _⟩
  · rw [e']
  · rw [e', H.get_put _ _ _ _ hm, if_neg (by omega)]
end Go.Proofs.YtkjhnemfebgcnaaGreatDoor.Ev

namespace Go.Proofs.YtkjhnemfebgcnaaGreatDoor.Ev
open Go Go.RowKit Go.MapKept
variable {P : Program}
structure Ctx (P : Program) (G : Nat) (r : Rec) (ops : Array Oper) (T : List Nat) (n : Nat) (base : H) (K : WK) (a0 : Act) (ρ0 : Rn) (A : Nat → Act) (V : Nat → Value) (C : Nat → List (Nat × Obj)) (N : Nat → Nat) (HO : Nat → H) : Prop where
  ro : RO ops n T
  hf : HF P G r ops T base K.bM K.wr K.m (ops.toList.take n) 0 [] A V C N HO
  a : A 0 = a0
  n0 : N 0 = base.next
  hok : base.Ok
  good : Good P G r
  gr : GR G ρ0
  wrt : Wr ops base K n HO
variable {G : Nat} {r : Rec} {ops : Array Oper} {T : List Nat} {n : Nat} {base : H} {K : WK} {a0 : Act} {ρ0 : Rn} {A : Nat → Act} {V : Nat → Value} {C : Nat → List (Nat × Obj)} {N : Nat → Nat} {HO : Nat → H}
theorem Ctx.step (c : Ctx P G r ops T n base K a0 ρ0 A V C N HO) {q : Nat} {o : Oper} (hq : q < n) (ho : ops[q]? = some o) : A (q + 1) = (A q).put o.dst (V q) ∧
    ((Region.wanted o (yielded ops (A q).tmps) = true ∧ operStep P G r o (A q) (hview base K.bM K.wr K.m T q (psAt C 0 q) (N q)) = some (V q, HO q) ∧ (HO q).next = N (q + 1) ∧ C q = pieceOf (V q) (N q) (HO q)) ∨
      (Region.wanted o (yielded ops (A q).tmps) = false ∧ V q = undef ∧ C q = [] ∧ N (q + 1) = N q)) := by
  have := c.hf.step q o (by rw [List.getElem?_take, if_pos hq]; simpa using ho)
  simpa using this
theorem Ctx.op (c : Ctx P G r ops T n base K a0 ρ0 A V C N HO) {q : Nat} (hq : q < n) : ∃ o, ops[q]? = some o :=
  ⟨_, Array.getElem?_eq_getElem (Nat.lt_of_lt_of_le hq c.ro.nle)⟩
theorem Ctx.mono1 (c : Ctx P G r ops T n base K a0 ρ0 A V C N HO) {q : Nat} (hq : q < n) : N q ≤ N (q + 1) := by
  obtain ⟨o, ho⟩ := c.op hq
  rcases (c.step hq ho).2 with ⟨_, h2, h3, _⟩ | ⟨_, _, _, h4⟩
  · have := (operStep_ok c.good h2).1
    rw [h3, hview_next] at this; exact this
  · omega
theorem Ctx.mono (c : Ctx P G r ops T n base K a0 ρ0 A V C N HO) (q : Nat) : ∀ k, q + k ≤ n → N q ≤ N (q + k) := by
  intro k
  induction k with
  | zero => intro _; exact Nat.le_refl _
  | succ k ih => intro h; exact Nat.le_trans (ih (by omega)) (c.mono1 (q := q + k) (by omega))
theorem Ctx.le (c : Ctx P G r ops T n base K a0 ρ0 A V C N HO) {p q : Nat} (h : p ≤ q) (hq : q ≤ n) : N p ≤ N q := by
  have := c.mono p (q - p) (by omega)
  rwa [Nat.add_sub_cancel' h] at this
theorem Ctx.piece (c : Ctx P G r ops T n base K a0 ρ0 A V C N HO) {q : Nat} (hq : q < n) {i : Nat} {o : Obj} (h : (i, o) ∈ C q) : N q ≤ i ∧ i < N (q + 1) ∧ i < 65536 ∧ (HO q).get i = some o := by
  obtain ⟨o', ho⟩ := c.op hq
  rcases (c.step hq ho).2 with ⟨_, _, h3, h4⟩ | ⟨_, _, h3, _⟩
  · rw [h4] at h
    obtain ⟨g1, g2, g3, g4⟩ := pieceOf_mem h
    exact ⟨g1, by omega, g4, g3⟩
  · rw [h3] at h; cases h
theorem Ctx.act (c : Ctx P G r ops T n base K a0 ρ0 A V C N HO) : ∀ k, k ≤ n → (A k).tmps.size = a0.tmps.size ∧ (A k).defers = a0.defers ∧
    (∀ q o, q < k → ops[q]? = some o → ∀ d, o.dst = some d → d < a0.tmps.size → (A k).tmps.getD d undef = V q) ∧ (∀ t, (∀ q o, q < k → ops[q]? = some o → o.dst ≠ some t) → (A k).tmps.getD t undef = a0.tmps.getD t undef) := by
  intro k
  induction k with
  | zero => intro _; rw [c.a]; exact ⟨rfl, rfl, fun q _ hq => absurd hq (Nat.not_lt_zero _), fun _ _ => rfl⟩
  | succ k ih =>
    intro hk
    obtain ⟨i1, i2, i3, i4⟩ := ih (by omega)
    obtain ⟨o, ho⟩ := c.op (q := k) (by omega)
    rw [(c.step (by omega) ho).1]
    cases hd : o.dst with
    | none =>
      refine ⟨i1, i2, fun q o' hq ho' d hd' hlt => ?_, fun t ht => ?_⟩
      · by_cases e : q = k
        · subst e; rw [ho] at ho'; cases ho'; rw [hd] at hd'; cases hd'
        · exact i3 q o' (by omega) ho' d hd' hlt
      · exact i4 t fun q o' hq => ht q o' (by omega)
    | some d0 =>
      refine ⟨by simp [Act.put, i1], i2, fun q o' hq ho' d hd' hlt => ?_, fun t ht => ?_⟩
      · simp only [Act.put, getD_set, i1]
        by_cases e : q = k
        · subst e; rw [ho] at ho'; cases ho'; rw [hd] at hd'; cases hd'
          rw [if_pos ⟨rfl, hlt⟩]
        · rw [if_neg (fun x => c.ro.dd k o q o' (by omega) (by omega) ho ho' e d (by rw [hd, x.1]) hd')]
          exact i3 q o' (by omega) ho' d hd' hlt
      · simp only [Act.put, getD_set]
        rw [if_neg (fun x => ht k o (by omega) ho (by rw [hd, x.1]))]
        exact i4 t fun q o' hq => ht q o' (by omega)
/-- The objects that are known where the operations of S have run. -/
def AL (n : Nat) (base : H) (K : WK) (C : Nat → List (Nat × Obj)) (S : Array Bool) (i : Nat) (o : Obj) : Prop := (if S.getD K.wr false = true then K.b1 else base).get i = some o ∨ ∃ q, q < n ∧ S.getD q false = true ∧ (i, o) ∈ C q
structure HI (ops : Array Oper) (n : Nat) (base : H) (K : WK) (a0 : Act) (ρ0 : Rn) (w0 : World) (V : Nat → Value) (C : Nat → List (Nat × Obj)) (N : Nat → Nat) (S : Array Bool) (b : Act) (w : World) (ρ : Rn) : Prop where
  sz : S.size = ops.size
  cl : ∀ i o, S.getD i false = true → ops[i]? = some o → ∀ e ∈ o.after, Region.binds .any e = true → S.getD e.on false = true
  hd : ∀ i, S.getD i false = true → i < n
  le : Le ρ0 ρ
  lo : ∀ x, (x < N 0 ∨ N n ≤ x) → ρ x = ρ0 x
  un : ∀ q, q < n → S.getD q false = false → ∀ x, N q ≤ x → x < N (q + 1) → ρ x = none
  obj : ∀ i o, AL n base K C S i o → ∃ j c, ρ i = some (j, c) ∧ OR ρ c o w.heap[j]?
  inj : ∀ i i' o o' j c c', AL n base K C S i o → AL n base K C S i' o' → ρ i = some (j, c) → ρ i' = some (j, c') → i = i'
  lt : ∀ i o j c, AL n base K C S i o → ρ i = some (j, c) → j < w.heap.size
  os : w.os = w0.os
  tape : w.tape = w0.tape
  output : w.output = w0.output
  size : w0.heap.size ≤ w.heap.size
  keep : ∀ j, j < w0.heap.size → (∀ i o c, base.bar ≤ i → base.get i = some o → ρ0 i ≠ some (j, c)) → w.heap[j]? = w0.heap[j]?
  nw : ∀ q, q < n → S.getD q false = true → ∀ i o, (i, o) ∈ C q → ∀ j c, ρ i = some (j, c) → w0.heap.size ≤ j
  tsz : a0.tmps.size = b.tmps.size
  dfs : DR ρ a0.defers b.defers
  tw : ∀ q o, q < n → S.getD q false = true → ops[q]? = some o → ∀ d, o.dst = some d → d < a0.tmps.size → VR ρ (V q) (b.tmps.getD d undef)
  tn : ∀ t, (∀ q o, q < n → S.getD q false = true → ops[q]? = some o → o.dst ≠ some t) → VR ρ (a0.tmps.getD t undef) (b.tmps.getD t undef)
theorem set_true {S : Array Bool} {i q : Nat} (hi : i < S.size) : (S.setIfInBounds i true).getD q false = if q = i then true else S.getD q false := by
  by_cases e : q = i
  · subst e; simp [Array.getD, hi]
  · rw [if_neg e]
    by_cases hq : q < S.size
    · simp [Array.getD, hq, Ne.symm e]
    · simp [Array.getD, hq]
/-- All that must come before an operation has run. -/
theorem closed_all {S : Array Bool} (ro : RO ops n T) (cl : ∀ i o, S.getD i false = true → ops[i]? = some o → ∀ e ∈ o.after, Region.binds .any e = true → S.getD e.on false = true) :
    ∀ (i : Nat) (o : Oper), ops[i]? = some o → (∀ e ∈ o.after, Region.binds .any e = true → S.getD e.on false = true) → ∀ q, q < ops.size → (T.getD i 0).testBit q = true → S.getD q false = true := by
  intro i
  induction i using Nat.strongRecOn with
  | _ i ih =>
    intro o ho hp q hq hb
    obtain ⟨e, he, hbd, h | ⟨h1, h2⟩⟩ := ro.tr i o ho q hq hb
    · exact h ▸ hp e he hbd
    · have hlt := (getD_of ho).2
      have he' : ops[e.on]? = some ops[e.on] := Array.getElem?_eq_getElem (by omega)
      exact ih e.on h1 _ he' (cl e.on _ (hp e he hbd) he') q hq h2
theorem AL.set {S : Array Bool} {i : Nat} (hisz : i < S.size) (hne : i ≠ K.wr) {k : Nat} {ob : Obj} (ha : AL n base K C (S.setIfInBounds i true) k ob) : AL n base K C S k ob ∨ (k, ob) ∈ C i := by
  rcases ha with hb | ⟨q, h1, h2, h3⟩
  · rw [set_true hisz, if_neg (Ne.symm hne)] at hb; exact .inl (.inl hb)
  · rw [set_true hisz] at h2
    by_cases e : q = i
    · subst e; exact .inr h3
    · rw [if_neg e] at h2; exact .inl (.inr ⟨q, h1, h2, h3⟩)
theorem HI.nextW {w0 : World} {S : Array Bool} {b : Act} {w w' : World} {ρ ρ' : Rn} {i : Nat} {o : Oper} {v' : Value} (c : Ctx P G r ops T n base K a0 ρ0 A V C N HO) (h : HI ops n base K a0 ρ0 w0 V C N S b w ρ) (hi : i < n) (ho : ops[i]? = some o) (hS : S.getD i false = false)
    (hp : ∀ e ∈ o.after, Region.binds .any e = true → S.getD e.on false = true) (hv : VR ρ' (V i) v') (le : Le ρ ρ') (out : ∀ x, (x < N i ∨ N (i + 1) ≤ x) → ρ' x = ρ x)
    (sz : w.heap.size ≤ w'.heap.size) (keep : ∀ j, j < w0.heap.size → (∀ i o c, base.bar ≤ i → base.get i = some o → ρ0 i ≠ some (j, c)) → w'.heap[j]? = w.heap[j]?) (os : w'.os = w.os) (tape : w'.tape = w.tape) (output : w'.output = w.output)
    (hal : ∀ k ob, AL n base K C (S.setIfInBounds i true) k ob → ((∃ ob0, AL n base K C S k ob0) ∧ ∀ j cc, ρ k = some (j, cc) → OR ρ' cc ob w'.heap[j]?) ∨ (k, ob) ∈ C i)
    (pc : ∀ k ob, (k, ob) ∈ C i → ∃ j cc, ρ' k = some (j, cc) ∧ OR ρ' cc ob w'.heap[j]? ∧ w.heap.size ≤ j ∧ j < w'.heap.size)
    (pi : ∀ k k' ob ob' j cc cc', (k, ob) ∈ C i → (k', ob') ∈ C i → ρ' k = some (j, cc) → ρ' k' = some (j, cc') → k = k') :
    HI ops n base K a0 ρ0 w0 V C N (S.setIfInBounds i true) (b.put o.dst v') w' ρ' := by
  have hisz : i < S.size := by rw [h.sz]; exact (getD_of ho).2
  have hold : ∀ k ob, AL n base K C S k ob → ∃ j cc, ρ k = some (j, cc) ∧ ρ' k = some (j, cc) ∧ j < w.heap.size := fun k ob ha => by
    obtain ⟨j, cc, g1, _⟩ := h.obj k ob ha
    exact ⟨j, cc, g1, le _ _ g1, h.lt _ _ _ _ ha g1⟩
  refine ⟨by simp [h.sz], fun k o' hk ho' e he hbd => ?_, fun k hk => ?_, h.le.trans le, fun x hx => ?_, fun q hq hSq x hx1 hx2 => ?_, fun k ob ha => ?_, fun k k' ob ob' j cc cc' ha ha' hj hj' => ?_, fun k ob j cc ha hj => ?_,
    os.trans h.os, tape.trans h.tape, output.trans h.output, Nat.le_trans h.size sz, fun j hj hnk => ?_, fun q hq hSq k ob hk j cc hj => ?_, ?_, ?_, fun q o' hq hSq ho' d hd hlt => ?_, fun t ht => ?_⟩
  · rw [set_true hisz] at hk ⊢
    split
    · rfl
    · by_cases e' : k = i
      · subst e'; rw [ho] at ho'; cases ho'; exact hp e he hbd
      · rw [if_neg e'] at hk; exact h.cl k o' hk ho' e he hbd
  · rw [set_true hisz] at hk
    by_cases e' : k = i
    · omega
    · rw [if_neg e'] at hk; exact h.hd k hk
  · rw [out x (by
      have := c.le (p := 0) (q := i) (by omega) (by omega)
      have := c.le (p := i + 1) (q := n) (by omega) (by omega)
      omega)]
    exact h.lo x hx
  · rw [set_true hisz] at hSq
    by_cases e' : q = i
    · subst e'; simp at hSq
    · rw [if_neg e'] at hSq
      rw [out x (by
        rcases Nat.lt_or_gt_of_ne e' with hlt | hgt
        · have := c.le (p := q + 1) (q := i) (by omega) (by omega); omega
        · have := c.le (p := i + 1) (q := q) (by omega) (by omega); omega)]
      exact h.un q hq hSq x hx1 hx2
  · rcases hal k ob ha with ⟨⟨ob0, ha⟩, hO⟩ | ha
    · obtain ⟨j, cc, g1, _⟩ := h.obj k ob0 ha
      exact ⟨j, cc, le _ _ g1, hO j cc g1⟩
    · obtain ⟨j, cc, g1, g2, _, _⟩ := pc k ob ha
      exact ⟨j, cc, g1, g2⟩
  · rcases hal k ob ha with ⟨⟨ob0, ha⟩, _⟩ | ha
    · obtain ⟨j1, c1, g1, g1', g2⟩ := hold k ob0 ha
      rw [g1'] at hj; cases hj
      rcases hal k' ob' ha' with ⟨⟨ob0', ha'⟩, _⟩ | ha'
      · obtain ⟨j2, c2, k1, k1', k2⟩ := hold k' ob0' ha'
        rw [k1'] at hj'; cases hj'
        exact h.inj _ _ _ _ _ _ _ ha ha' g1 k1
      · obtain ⟨j2, c2, k1, _, k2, _⟩ := pc k' ob' ha'
        rw [k1] at hj'; cases hj'
        omega
    · rcases hal k' ob' ha' with ⟨⟨ob0', ha'⟩, _⟩ | ha'
      · obtain ⟨j2, c2, k1, k1', k2⟩ := hold k' ob0' ha'
        rw [k1'] at hj'; cases hj'
        obtain ⟨j1, c1, g1, _, g2, _⟩ := pc k ob ha
        rw [g1] at hj; cases hj
        omega
      · exact pi _ _ _ _ _ _ _ ha ha' hj hj'
  · rcases hal k ob ha with ⟨⟨ob0, ha⟩, _⟩ | ha
    · obtain ⟨j1, c1, _, g1', g2⟩ := hold k ob0 ha
      rw [g1'] at hj; cases hj; omega
    · obtain ⟨j1, c1, g1, _, _, g2⟩ := pc k ob ha
      rw [g1] at hj; cases hj; exact g2
  · rw [keep j hj hnk]; exact h.keep j hj hnk
  · rw [set_true hisz] at hSq
    by_cases e' : q = i
    · subst e'
      obtain ⟨j1, c1, g1, _, g2, _⟩ := pc k ob hk
      rw [g1] at hj; cases hj
      exact Nat.le_trans h.size g2
    · rw [if_neg e'] at hSq
      obtain ⟨j1, c1, g1, g1', _⟩ := hold k ob (.inr ⟨q, hq, hSq, hk⟩)
      rw [g1'] at hj; cases hj
      exact h.nw q hq hSq k ob hk _ _ g1
  · cases hd : o.dst <;> simp [Act.put, h.tsz]
  · cases hd : o.dst <;> exact h.dfs.mono le
  · rw [set_true hisz] at hSq
    by_cases e' : q = i
    · subst e'; rw [ho] at ho'; cases ho'
      rw [hd]
      simp only [Act.put, getD_set]
      rw [if_pos ⟨trivial, by rw [← h.tsz]; exact hlt⟩]
      exact hv
    · rw [if_neg e'] at hSq
      cases hd0 : o.dst with
      | none => exact (h.tw q o' hq hSq ho' d hd hlt).mono le
      | some d0 =>
        simp only [Act.put, getD_set]
        rw [if_neg (fun x => c.ro.dd i o q o' hi hq ho ho' e' d (by rw [hd0, x.1]) hd)]
        exact (h.tw q o' hq hSq ho' d hd hlt).mono le
  · have hti : o.dst ≠ some t := ht i o hi (by rw [set_true hisz, if_pos rfl]) ho
    have hto := h.tn t fun q o' hq hSq ho' => ht q o' hq (by rw [set_true hisz]; split <;> first | rfl | exact hSq) ho'
    cases hd0 : o.dst with
    | none => exact hto.mono le
    | some d0 =>
      simp only [Act.put, getD_set]
      rw [if_neg (fun x => hti (by rw [hd0, x.1]))]
      exact hto.mono le
theorem HI.next {w0 : World} {S : Array Bool} {b : Act} {w w' : World} {ρ ρ' : Rn} {i : Nat} {o : Oper} {v' : Value} (c : Ctx P G r ops T n base K a0 ρ0 A V C N HO) (h : HI ops n base K a0 ρ0 w0 V C N S b w ρ) (hi : i < n) (hiw : i ≠ K.wr) (ho : ops[i]? = some o) (hS : S.getD i false = false)
    (hp : ∀ e ∈ o.after, Region.binds .any e = true → S.getD e.on false = true) (hv : VR ρ' (V i) v') (le : Le ρ ρ') (out : ∀ x, (x < N i ∨ N (i + 1) ≤ x) → ρ' x = ρ x)
    (sz : w.heap.size ≤ w'.heap.size) (keep : ∀ j, j < w.heap.size → w'.heap[j]? = w.heap[j]?) (os : w'.os = w.os) (tape : w'.tape = w.tape) (output : w'.output = w.output)
    (pc : ∀ k ob, (k, ob) ∈ C i → ∃ j cc, ρ' k = some (j, cc) ∧ OR ρ' cc ob w'.heap[j]? ∧ w.heap.size ≤ j ∧ j < w'.heap.size)
    (pi : ∀ k k' ob ob' j cc cc', (k, ob) ∈ C i → (k', ob') ∈ C i → ρ' k = some (j, cc) → ρ' k' = some (j, cc') → k = k') :
    HI ops n base K a0 ρ0 w0 V C N (S.setIfInBounds i true) (b.put o.dst v') w' ρ' := by
  have hisz : i < S.size := by rw [h.sz]; exact (getD_of ho).2
  refine h.nextW c hi ho hS hp hv le out sz (fun j hj _ => keep j (Nat.lt_of_lt_of_le hj h.size)) os tape output (fun k ob ha => ?_) pc pi
  rcases AL.set hisz hiw ha with ha | ha
  · refine .inl ⟨⟨ob, ha⟩, fun j cc hj => ?_⟩
    obtain ⟨j1, c1, g1, g2⟩ := h.obj k ob ha
    rw [hj] at g1; cases g1
    rw [keep j (h.lt _ _ _ _ ha hj)]
    exact g2.mono le
  · exact .inr ha
end Go.Proofs.YtkjhnemfebgcnaaGreatDoor.Ev

namespace Go.Proofs.YtkjhnemfebgcnaaGreatDoor.Ev
open Go Go.RowKit Go.MapKept
variable {P : Program} {G : Nat} {r : Rec} {ops : Array Oper} {T : List Nat} {n : Nat} {base : H} {K : WK} {a0 : Act} {ρ0 : Rn} {A : Nat → Act} {V : Nat → Value} {C : Nat → List (Nat × Obj)} {N : Nat → Nat} {HO : Nat → H}
theorem psAt_mem {C : Nat → List (Nat × Obj)} {i k : Nat} {p : Nat × List (Nat × Obj)} (h : p ∈ psAt C i k) : ∃ q, i ≤ q ∧ q < i + k ∧ p = (q, C q) := by
  unfold psAt at h
  obtain ⟨q, hq, rfl⟩ := List.mem_map.1 h
  rw [List.mem_reverse, List.mem_range'_1] at hq
  exact ⟨q, hq.1, hq.2, rfl⟩
/-- What is in the view of an operation. -/
theorem Ctx.view (c : Ctx P G r ops T n base K a0 ρ0 A V C N HO) (bb : H) (f : Nat → Bool) {k nx : Nat} (hk : k ≤ n) {i : Nat} {o : Obj} (h : (viewOf bb f (psAt C 0 k) nx).get i = some o) :
    bb.get i = some o ∨ ∃ q, q < k ∧ f q = true ∧ (i, o) ∈ C q := by
  have hi := get_lt h
  unfold H.get at h
  rw [if_pos hi] at h
  rcases addAll_get f (psAt C 0 k) bb.t i o (fun p hp x hx => by
    obtain ⟨q, _, hq, rfl⟩ := psAt_mem hp
    exact (c.piece (by omega) (i := x.1) (o := x.2) hx).2.2.1) hi h with h1 | ⟨p, hp, hf, hm⟩
  · exact .inl (by unfold H.get; rw [if_pos hi]; exact h1)
  · obtain ⟨q, _, hq, rfl⟩ := psAt_mem hp
    exact .inr ⟨q, by omega, hf, hm⟩
theorem yielded_one {ρ : Rn} {a b : Act} (hs : a.tmps.size = b.tmps.size) (ops : Array Oper) (j : Nat) (h : ∀ t, (ops[j]?).bind (·.dst) = some t → VR ρ (a.tmps.getD t undef) (b.tmps.getD t undef)) : yielded ops b.tmps j = yielded ops a.tmps j := by
  unfold Go.yielded
  cases ht : (ops[j]?).bind (·.dst) with
  | none => rfl
  | some t =>
    simp only [Option.bind_some]
    have hv := h t ht
    by_cases hlt : t < a.tmps.size
    · have e1 : a.tmps[t]? = some (a.tmps.getD t undef) := by simp [Array.getD, hlt]
      have e2 : b.tmps[t]? = some (b.tmps.getD t undef) := by simp [Array.getD, hs ▸ hlt]
      rw [e1, e2]
      generalize a.tmps.getD t undef = x at hv
      generalize b.tmps.getD t undef = y at hv
      cases hv <;> rfl
    · have h1 : a.tmps.size ≤ t := Nat.le_of_not_lt hlt
      have h2 : b.tmps.size ≤ t := hs ▸ h1
      rw [Array.getElem?_eq_none h1, Array.getElem?_eq_none h2]
/-- What an operation looks at is in the order of the text what it is in the order drawn. -/
theorem HI.looks {w0 : World} {S : Array Bool} {b : Act} {w : World} {ρ : Rn} {i : Nat} {o : Oper} (c : Ctx P G r ops T n base K a0 ρ0 A V C N HO) (h : HI ops n base K a0 ρ0 w0 V C N S b w ρ) (hi : i < n) (ho : ops[i]? = some o) (hS : S.getD i false = false)
    (hp : ∀ e ∈ o.after, Region.binds .any e = true → S.getD e.on false = true) {t : Tmp} (ht : t ∈ o.looksAt ops) : VR ρ ((A i).tmps.getD t undef) (b.tmps.getD t undef) := by
  obtain ⟨a1, a2, a3, a4⟩ := c.act i (by omega)
  by_cases hex : ∃ q o', q < n ∧ ops[q]? = some o' ∧ o'.dst = some t
  · obtain ⟨q, o', hq, ho', hd⟩ := hex
    have huniq : ∀ q2 o2, q2 < n → ops[q2]? = some o2 → o2.dst = some t → q2 = q := fun q2 o2 hq2 ho2 hd2 => by
      rcases Nat.decEq q2 q with hne | he
      · exact absurd hd (c.ro.dd q2 o2 q o' hq2 hq ho2 ho' (Ne.symm hne) t hd2)
      · exact he
    have base_case : (q < i → False) → (S.getD q false = true → False) → VR ρ ((A i).tmps.getD t undef) (b.tmps.getD t undef) := fun h1 h2 => by
      rw [a4 t fun q2 o2 hq2 ho2 hd2 => h1 (by rw [← huniq q2 o2 (by omega) ho2 hd2]; exact hq2)]
      exact h.tn t fun q2 o2 hq2 hS2 ho2 hd2 => h2 (by rw [← huniq q2 o2 hq2 ho2 hd2]; exact hS2)
    rcases Nat.lt_trichotomy q i with hlt | heq | hgt
    · have hb := (c.ro.rd i o q o' hi hq ho ho' (by omega) t hd ht).1 hlt
      have hSq := closed_all c.ro h.cl i o ho hp q (getD_of ho').2 hb
      by_cases hts : t < a0.tmps.size
      · rw [a3 q o' hlt ho' t hd hts]
        exact h.tw q o' hq hSq ho' t hd hts
      · have e1 : (A i).tmps.getD t undef = undef := by simp [Array.getD, a1, hts]
        have e2 : b.tmps.getD t undef = undef := by simp [Array.getD, ← h.tsz, hts]
        rw [e1, e2]; exact undef_VR
    · exact base_case (fun hlt => by omega) (fun hSq => by rw [heq, hS] at hSq; cases hSq)
    · refine base_case (fun hlt => by omega) (fun hSq => ?_)
      have hb := (c.ro.rd i o q o' hi hq ho ho' (by omega) t hd ht).2 hgt
      have := closed_all c.ro h.cl q o' ho' (fun e he hbd => h.cl q o' hSq ho' e he hbd) i (getD_of ho).2 hb
      rw [hS] at this; cases this
  · rw [a4 t fun q o' hq ho' hd => hex ⟨q, o', by omega, ho', hd⟩]
    exact h.tn t fun q o' hq _ ho' hd => hex ⟨q, o', hq, ho', hd⟩
theorem HI.step {w0 : World} {S : Array Bool} {b : Act} {w : World} {ρ : Rn} {i : Nat} {o : Oper} {x : Option Nat} {Q : Exit → Act → World → Prop} (c : Ctx P G r ops T n base K a0 ρ0 A V C N HO) (h : HI ops n base K a0 ρ0 w0 V C N S b w ρ) (hi : i < n)
    (ho : ops[i]? = some o) (hS : S.getD i false = false) (hp : ∀ e ∈ o.after, Region.binds .any e = true → S.getD e.on false = true) {J : Act → World → Prop}
    (hK : ∀ b' w' ρ', HI ops n base K a0 ρ0 w0 V C N (S.setIfInBounds i true) b' w' ρ' → J b' w') : wpOpIn (Wd x) 0 P ops Q i J b w := by
  obtain ⟨a1, _, _, _⟩ := c.act i (by omega)
  have hgr : GR G ρ := c.gr.mono h.le
  have hwant : Region.wanted o (yielded ops b.tmps) = Region.wanted o (yielded ops (A i).tmps) := by
    unfold Region.wanted
    cases hg : o.guard with
    | none => rfl
    | some g =>
      obtain ⟨j, want⟩ := g
      simp only
      rw [yielded_one (ρ := ρ) (by rw [a1]; exact h.tsz) ops j fun t ht => h.looks c hi ho hS hp (by
        unfold Oper.looksAt
        rw [hg]
        simp only [List.mem_append]
        right
        rw [ht]; simp)]
  unfold wpOpIn
  simp only [ho]
  rw [hwant]
  rcases (c.step hi ho).2 with ⟨f1, f2, f3, f4⟩ | ⟨f1, f2, f3, f4⟩
  · rw [if_pos f1]
    have hall := oper_all f2
    rw [List.all_eq_true] at hall
    have hargs : ∀ y ∈ o.op.operands, VR ρ ((A i).eval y) (b.eval y) := by
      intro y hy
      have hxo := hall y (by simpa using hy)
      cases y with
      | tmp t => exact h.looks c hi ho hS hp (List.mem_append_left _ (List.mem_filterMap.2 ⟨.tmp t, by simpa using hy, rfl⟩))
      | const v => exact flat_VR ρ hxo
      | global g => exact .ptr 0 (hgr g (by simpa [xOk, Nat.blt_eq] using hxo))
      | func f => exact flat_VR ρ rfl
    by_cases hiw : i = K.wr
    · -- the writer
      rcases c.wrt.w with ⟨hw1, _⟩ | ⟨hw1, hb, hm, hbM, ⟨o0, hw4⟩, ⟨o1, hw5, hw6⟩, hw7, _⟩
      · omega
      subst hiw
      rw [show hview base K.bM K.wr K.m T K.wr (psAt C 0 K.wr) (N K.wr) = cutAt base K.m (N K.wr) by unfold hview; simp] at f2
      obtain ⟨_, CC⟩ := operStep_ok c.good f2
      have hSw : S.getD K.wr false ≠ true := by rw [hS]; simp
      have hAb : ∀ k ob, base.get k = some ob → AL n base K C S k ob := fun k ob hk => .inl (by rw [if_neg hSw]; exact hk)
      have hN0 : base.next ≤ N K.wr := by rw [← c.n0]; exact c.le (Nat.zero_le _) (by omega)
      have hview : ∀ k ob, (cutAt base K.m (N K.wr)).get k = some ob → AL n base K C S k ob ∧ k < N K.wr ∧ (k ≤ K.m ∨ K.m < k ∧ holdsM K.m (base.get k) = true) ∧ base.get k = some ob := fun k ob hk => by
        obtain ⟨g1, g2⟩ := cutAt_get c.hok hk
        exact ⟨hAb k ob g1, Nat.lt_of_lt_of_le (c.hok.lt _ _ g1) hN0, g2, g1⟩
      have hmn : K.m < base.next := c.hok.lt _ _ hw4
      have hisz : K.wr < S.size := by rw [h.sz]; exact (getD_of ho).2
      refine CC ρ b w x J Q ⟨(show K.m ≤ N K.wr by omega), fun k ob hk => (hview k ob hk).2.1⟩ ⟨fun k ob hk => h.obj k ob (hview k ob hk).1, fun k k' ob ob' j cc cc' hk hk' => h.inj k k' ob ob' j cc cc' (hview k ob hk).1 (hview k' ob' hk').1, fun k ob j cc hk => h.lt k ob j cc (hview k ob hk).1⟩ hgr hargs ?_ ?_
      · intro k hk1 hk2
        exact h.un K.wr hi hS k hk1 (by rw [← f3]; exact hk2)
      · intro ρ' v' w' hv hpost
        have hold : ∀ k, k < K.m → (HO K.wr).get k = base.get k := fun k hk => by
          rw [hpost.old k hk, cutAt_below (by omega)]
        have hkp : ∀ k ob j cc, k ≠ K.m → (K.m < k → holdsM K.m (base.get k) = false) → AL n base K C S k ob → ρ k = some (j, cc) → w'.heap[j]? = w.heap[j]? := fun k ob j cc hkm hkv ha hj =>
          hpost.keep j (h.lt _ _ _ _ ha hj) fun i1 o1 c1 hb1 hg1 hj1 => by
            obtain ⟨g1, _, g3, _⟩ := hview i1 o1 hg1
            have hb1' : K.m ≤ i1 := hb1
            have := h.inj _ _ _ _ _ _ _ g1 ha hj1 hj
            subst this
            rcases g3 with g3 | ⟨g3, g4⟩
            · omega
            · rw [hkv g3] at g4; cases g4
        refine hK _ _ ρ' (h.nextW c hi ho hS hp hv hpost.le (fun k hk => hpost.out k (by rw [f3]; exact hk)) hpost.size (fun j hj hnk => hpost.keep j (Nat.lt_of_lt_of_le hj h.size) fun i1 o1 c1 hb1 hg1 hj1 => ?_) hpost.os hpost.tape hpost.output (fun k ob ha => ?_) (fun k ob hm' => ?_) (fun k k' ob ob' j cc cc' hm' hm'' => ?_))
        · obtain ⟨_, _, _, g4⟩ := hview i1 o1 hg1
          have hb1' : K.m ≤ i1 := hb1
          refine hnk i1 o1 c1 (by omega) g4 ?_
          rw [← h.lo i1 (.inl (by rw [c.n0]; exact c.hok.lt _ _ g4))]
          exact hj1
        · rcases ha with hb2 | ⟨q, h1, h2, h3⟩
          · rw [set_true hisz, if_pos rfl, if_pos rfl, hw6, H.get_put _ _ _ _ hm] at hb2
            split at hb2
            · rename_i e
              cases hb2
              subst e
              refine .inl ⟨⟨o0, hAb _ _ hw4⟩, fun j cc hj => ?_⟩
              obtain ⟨j1, c1, g1, g2⟩ := hpost.rel.obj _ _ hw5
              rw [hpost.le _ _ hj] at g1; cases g1
              exact g2
            · rename_i hne
              refine .inl ⟨⟨ob, hAb _ _ hb2⟩, fun j cc hj => ?_⟩
              by_cases hkv : K.m < k ∧ holdsM K.m (base.get k) = true
              · obtain ⟨j1, c1, g1, g2⟩ := hpost.rel.obj k ob (by rw [hw7 k hkv.1 hkv.2]; exact hb2)
                rw [hpost.le _ _ hj] at g1; cases g1
                exact g2
              obtain ⟨j1, c1, g1, g2⟩ := h.obj k ob (hAb _ _ hb2)
              rw [hj] at g1; cases g1
              rw [hkp k ob j cc hne (fun hlt => by
                cases hh : holdsM K.m (base.get k) with
                | false => rfl
                | true => exact absurd ⟨hlt, hh⟩ hkv) (hAb _ _ hb2) hj]
              exact g2.mono hpost.le
          · rw [set_true hisz] at h2
            by_cases e : q = K.wr
            · subst e; exact .inr h3
            · rw [if_neg e] at h2
              have ha' : AL n base K C S k ob := .inr ⟨q, h1, h2, h3⟩
              refine .inl ⟨⟨ob, ha'⟩, fun j cc hj => ?_⟩
              obtain ⟨j1, c1, g1, g2⟩ := h.obj k ob ha'
              rw [hj] at g1; cases g1
              have hkn : base.next ≤ k := by
                have h4 := (c.piece h1 h3).1
                have h5 := c.le (p := 0) (q := q) (Nat.zero_le _) (by omega)
                rw [c.n0] at h5
                omega
              have hbn : base.get k = none := by
                cases hh : base.get k with
                | none => rfl
                | some o2 => have := c.hok.lt _ _ hh; omega
              rw [hkp k ob j cc (by omega) (fun _ => by rw [hbn]; rfl) ha' hj]
              exact g2.mono hpost.le
        · obtain ⟨g1, g2, g3, g4⟩ := c.piece hi hm'
          obtain ⟨j, cc, hj, hO⟩ := hpost.rel.obj k ob g4
          refine ⟨j, cc, hj, hO, ?_, hpost.rel.lt _ _ _ _ g4 hj⟩
          rcases Nat.lt_or_ge j w.heap.size with hlt | hge
          · obtain ⟨i0, o2, c0, k1, k2, k3⟩ := hpost.new k ob j cc (show K.m ≤ k by omega) g4 hj hlt
            obtain ⟨_, k4, k5, k6⟩ := hview i0 o2 k2
            have h1 : K.m ≤ i0 := k1
            obtain ⟨o3, hi0⟩ : ∃ o3, (HO K.wr).get i0 = some o3 := by
              rcases k5 with k5 | ⟨k5, k7⟩
              · obtain rfl : i0 = K.m := by omega
                exact ⟨o1, hw5⟩
              · exact ⟨o2, by rw [hw7 i0 k5 k7]; exact k6⟩
            have := hpost.rel.inj _ _ _ _ _ _ _ g4 hi0 hj (hpost.le _ _ k3)
            omega
          · exact hge
        · obtain ⟨_, _, _, g4⟩ := c.piece hi hm'
          obtain ⟨_, _, _, g4'⟩ := c.piece hi hm''
          exact hpost.rel.inj k k' ob ob' j cc cc' g4 g4'
    · rw [show hview base K.bM K.wr K.m T i (psAt C 0 i) (N i) = viewOf K.bM (fun p => (T.getD i 0).testBit p) (psAt C 0 i) (N i) by unfold hview; rw [beq_no hiw]; rfl] at f2
      obtain ⟨_, CC⟩ := operStep_ok c.good f2
      have hview : ∀ k ob, (viewOf K.bM (fun p => (T.getD i 0).testBit p) (psAt C 0 i) (N i)).get k = some ob → AL n base K C S k ob ∧ k < N i := fun k ob hk => by
        rcases c.view K.bM _ (by omega) hk with hb | ⟨q, hq, hf, hm⟩
        · refine ⟨.inl ?_, Nat.lt_of_lt_of_le (c.hok.lt _ _ (c.wrt.m0 hb)) (by rw [← c.n0]; exact c.le (Nat.zero_le _) (by omega))⟩
          split
          · exact c.wrt.m1 hb
          · exact c.wrt.m0 hb
        · have hSq := closed_all c.ro h.cl i o ho hp q (Nat.lt_of_lt_of_le (by omega) c.ro.nle) hf
          exact ⟨.inr ⟨q, by omega, hSq, hm⟩, Nat.lt_of_lt_of_le (c.piece (by omega) hm).2.1 (c.le (by omega) (by omega))⟩
      refine CC ρ b w x J Q ⟨Nat.le_refl _, fun k ob hk => (hview k ob hk).2⟩ ⟨fun k ob hk => h.obj k ob (hview k ob hk).1, fun k k' ob ob' j cc cc' hk hk' => h.inj k k' ob ob' j cc cc' (hview k ob hk).1 (hview k' ob' hk').1, fun k ob j cc hk => h.lt k ob j cc (hview k ob hk).1⟩ hgr hargs ?_ ?_
      · intro k hk1 hk2
        exact h.un i hi hS k hk1 (by rw [← f3]; exact hk2)
      · intro ρ' v' w' hv hpost
        refine hK _ _ ρ' (h.next c hi hiw ho hS hp hv hpost.le (fun k hk => hpost.out k (by rw [f3]; exact hk)) hpost.size (fun j hj => hpost.keep j hj fun k ob cc hbk hg => ?_) hpost.os hpost.tape hpost.output (fun k ob hm => ?_) (fun k k' ob ob' j cc cc' hm hm' => ?_))
        · have h1 : N i ≤ k := hbk
          have := (hview k ob hg).2
          omega
        · obtain ⟨g1, g2, g3, g4⟩ := c.piece hi hm
          obtain ⟨j, cc, hj, hO⟩ := hpost.rel.obj k ob g4
          refine ⟨j, cc, hj, hO, ?_, hpost.rel.lt _ _ _ _ g4 hj⟩
          rcases Nat.lt_or_ge j w.heap.size with hlt | hge
          · obtain ⟨i0, o0, c0, k1, k2, _⟩ := hpost.new k ob j cc g1 g4 hj hlt
            have h1 : N i ≤ i0 := k1
            have := (hview i0 o0 k2).2
            omega
          · exact hge
        · obtain ⟨_, _, _, g4⟩ := c.piece hi hm
          obtain ⟨_, _, _, g4'⟩ := c.piece hi hm'
          exact hpost.rel.inj k k' ob ob' j cc cc' g4 g4'
  · rw [if_neg (by rw [f1]; simp)]
    have hiw : i ≠ K.wr := by
      rintro rfl
      rcases c.wrt.w with ⟨hw1, _⟩ | ⟨_, _, _, _, _, _, _, hg⟩
      · omega
      · have := (hg o ho).1
        simp [Region.wanted, this] at f1
    refine ⟨fun _ _ => trivial, hK _ _ ρ (h.next c hi hiw ho hS hp (by rw [f2]; exact undef_VR) (Le.refl _) (fun _ _ => rfl) (Nat.le_refl _) (fun _ _ => rfl) rfl rfl rfl (fun k ob hm => by rw [f3] at hm; cases hm) (fun k k' ob ob' j cc cc' hm => by rw [f3] at hm; cases hm))⟩
/-- Behind the head: the state in the order of the text. -/
theorem HI.done {w0 : World} {S : Array Bool} {b : Act} {w : World} {ρ : Rn} (c : Ctx P G r ops T n base K a0 ρ0 A V C N HO) (h : HI ops n base K a0 ρ0 w0 V C N S b w ρ) (hall : ∀ q, q < n → S.getD q false = true) :
    RelA ρ (A n) b ∧ Post ρ0 base w0 ρ { t := addAll (fun _ => true) K.b1.t (psAt C 0 n), next := N n, bar := base.bar } w := by
  obtain ⟨a1, a2, a3, a4⟩ := c.act n (Nat.le_refl _)
  refine ⟨⟨by rw [a1]; exact h.tsz, fun t => ?_, by rw [a2]; exact h.dfs⟩, ?_⟩
  · by_cases hex : ∃ q o', q < n ∧ ops[q]? = some o' ∧ o'.dst = some t
    · obtain ⟨q, o', hq, ho', hd⟩ := hex
      by_cases hts : t < a0.tmps.size
      · rw [a3 q o' hq ho' t hd hts]; exact h.tw q o' hq (hall q hq) ho' t hd hts
      · have e1 : (A n).tmps.getD t undef = undef := by simp [Array.getD, a1, hts]
        have e2 : b.tmps.getD t undef = undef := by simp [Array.getD, ← h.tsz, hts]
        rw [e1, e2]; exact undef_VR
    · rw [a4 t fun q o' hq ho' hd => hex ⟨q, o', hq, ho', hd⟩]
      exact h.tn t fun q o' hq _ ho' hd => hex ⟨q, o', hq, ho', hd⟩
  · have hn0 : base.next ≤ N n := by rw [← c.n0]; exact c.le (Nat.zero_le _) (Nat.le_refl _)
    have hbS : (if S.getD K.wr false = true then K.b1 else base) = K.b1 := by
      rcases c.wrt.w with ⟨_, _, e⟩ | ⟨hw1, _⟩
      · rw [e]; simp
      · rw [hall _ hw1, if_pos rfl]
    have hget : ∀ k ob, (H.mk (addAll (fun _ => true) K.b1.t (psAt C 0 n)) (N n) base.bar).get k = some ob → AL n base K C S k ob := fun k ob hk => by
      rcases c.view K.b1 (fun _ => true) (nx := N n) (Nat.le_refl _) (i := k) (o := ob) hk with hb | ⟨q, hq, _, hm⟩
      · exact .inl (by rw [hbS]; exact hb)
      · exact .inr ⟨q, hq, hall q hq, hm⟩
    refine ⟨hn0, rfl, h.le, fun k hk => h.lo k (by rw [c.n0]; exact hk), ⟨fun k ob hk => h.obj k ob (hget k ob hk), fun k k' ob ob' j cc cc' hk hk' => h.inj k k' ob ob' j cc cc' (hget k ob hk) (hget k' ob' hk'), fun k ob j cc hk => h.lt k ob j cc (hget k ob hk)⟩,
      h.os, h.tape, h.output, h.size, h.keep, fun k ob j cc hb hk hj hlt => ?_, fun k hk => ?_, ⟨Nat.le_trans c.hok.bar hn0, fun k ob hk => ?_⟩⟩
    · rcases hget k ob hk with hg | ⟨q, hq, hSq, hm⟩
      · rw [hbS] at hg
        obtain ⟨ob2, hg⟩ := c.wrt.b hg
        refine ⟨k, ob2, cc, hb, hg, ?_⟩
        have := h.lo k (.inl (by rw [c.n0]; exact c.hok.lt _ _ hg))
        rw [← this]; exact hj
      · have := h.nw q hq hSq k ob hm j cc hj
        omega
    · have hkb : k < base.next := Nat.lt_of_lt_of_le hk c.hok.bar
      rw [← c.wrt.old hk]
      unfold H.get
      split
      · rename_i hlt
        show (addAll (fun _ => true) K.b1.t (psAt C 0 n)).get 16 k = K.b1.t.get 16 k
        refine addAll_other _ _ _ _ (fun p hp x hx => ?_) hlt (fun p hp x hx => ?_)
        · obtain ⟨q, _, hq, rfl⟩ := psAt_mem hp
          exact (c.piece (by omega) (i := x.1) (o := x.2) hx).2.2.1
        · obtain ⟨q, _, hq, rfl⟩ := psAt_mem hp
          have h1 := (c.piece (by omega) (i := x.1) (o := x.2) hx).1
          have h2 := c.le (p := 0) (q := q) (Nat.zero_le _) (by omega)
          rw [c.n0] at h2
          omega
      · rfl
    · show k < N n
      rcases hget k ob hk with hg | ⟨q, hq, hSq, hm⟩
      · rw [hbS] at hg
        obtain ⟨ob2, hg⟩ := c.wrt.b hg
        have := c.hok.lt _ _ hg; omega
      · exact Nat.lt_of_lt_of_le (c.piece hq hm).2.1 (c.le (by omega) (Nat.le_refl _))
end Go.Proofs.YtkjhnemfebgcnaaGreatDoor.Ev
