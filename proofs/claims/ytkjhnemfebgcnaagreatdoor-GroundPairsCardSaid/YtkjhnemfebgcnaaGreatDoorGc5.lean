/- An evaluator of closed calls: part B. What it comes to, the program comes to, in every world that holds the listed variables. -/
import Derived.Test.YtkjhnemfebgcnaaGreatDoorGc4
import Derived.Laws.Append
import Derived.Laws.AppendOwn
import Derived.Lib.AppendZerosOnto
import Derived.MapKept
import Derived.Laws.MakeOwn
import Derived.Laws.IdiomStrings
namespace Go.Proofs.YtkjhnemfebgcnaaGreatDoor.Ev
open Go Go.RowKit
variable {ρ : Rn} {P : Program}
def aBound (y : Nat) : Value → Option Nat
  | .int _ i => if 0 ≤ i ∧ i ≤ y then some i.toNat else none
  | _ => none
def aBounds (len cap : Nat) (low high : Option Value) : Option (Nat × Nat) :=
  match (match high with | some v => aBound cap v | none => some len) with
  | some h => match (match low with | some v => aBound h v | none => some 0) with
    | some l => some (l, h)
    | none => none
  | none => none
theorem aBound_ok {w : World} {y y' : Nat} {v v' : Value} {n : Nat} {code : BoundsCode} (hv : VR ρ v v') (hy : y ≤ y') (e : aBound y v = some n) : (Instr.sliceBound v' y' code).run P w = .ok n w ∧ n ≤ y := by
  unfold aBound at e
  split at e
  · rename_i k i
    cases hv
    split at e
    · rename_i h
      cases e
      have : 0 ≤ i ∧ i ≤ (y' : Int) := ⟨h.1, Int.le_trans h.2 (by omega)⟩
      exact ⟨by simp [Instr.sliceBound, asIntOf, this], by omega⟩
    · cases e
  · cases e
def OVR (ρ : Rn) : Option Value → Option Value → Prop
  | none, none => True
  | some v, some v' => VR ρ v v'
  | _, _ => False
theorem aBounds_ok {w : World} {len cap cap' : Nat} {low low' high high' : Option Value} {l h : Nat} {b : Bool} (hl : OVR ρ low low') (hh : OVR ρ high high') (hc : cap ≤ cap') (e : aBounds len cap low high = some (l, h)) :
    (Instr.sliceBounds b len cap' low' high' none).run P w = .ok (l, h, cap') w ∧ l ≤ h ∧ (h ≤ cap ∨ h ≤ len) := by
  unfold aBounds at e
  have key : ∀ h0, (match high with | some v => aBound cap v | none => some len) = some h0 →
      (h0 ≤ cap ∨ h0 ≤ len) ∧ (Instr.sliceBounds b len cap' low' high' none).run P w = ((match low' with | some v => Instr.sliceBound v h0 .sliceB | none => pure 0 : Sem Nat).run P w).andThen fun l w => .ok (l, h0, cap') w := by
    intro h0 e0
    cases high with
    | none => cases high' with
      | none =>
        simp at e0; subst e0
        refine ⟨.inr (Nat.le_refl _), ?_⟩
        cases low' <;> simp [Instr.sliceBounds]
      | some v' => exact hh.elim
    | some v => cases high' with
      | none => exact hh.elim
      | some v' =>
        simp only at e0
        obtain ⟨g1, g2⟩ := aBound_ok (P := P) (w := w) (code := if b then .sliceAcap else .sliceAlen) (show VR ρ v v' from hh) hc e0
        refine ⟨.inl g2, ?_⟩
        cases low' <;> simp [Instr.sliceBounds, g1]
  cases e1 : (match high with | some v => aBound cap v | none => some len) with
  | none => rw [e1] at e; cases e
  | some h0 =>
    rw [e1] at e
    simp only at e
    obtain ⟨k1, k2⟩ := key h0 e1
    cases e2 : (match low with | some v => aBound h0 v | none => some 0) with
    | none => rw [e2] at e; cases e
    | some l0 =>
      rw [e2] at e
      cases e
      rw [k2]
      cases low with
      | none => cases low' with
        | none => simp at e2; subst e2; exact ⟨rfl, Nat.zero_le _, k1⟩
        | some v' => exact hl.elim
      | some v => cases low' with
        | none => exact hl.elim
        | some v' =>
          simp only at e2
          obtain ⟨g1, g2⟩ := aBound_ok (P := P) (w := w) (code := .sliceB) (show VR ρ v v' from hl) (Nat.le_refl _) e2
          exact ⟨by simp only [g1]; rfl, g2, k1⟩
def aSliceAt (P : Program) (t : TypeId) (lo hi : Option Value) : Value → Option Value
  | .pointer (some ⟨b, o, none⟩) => match P.underlying t with
    | some (.array n elem) => match aSize P elem, aBounds n n lo hi with
      | some s, some (l, h) => some (.slice (some ⟨b, o + (if n = l then 0 else l * s), none⟩) (h - l) (n - l))
      | _, _ => none
    | _ => none
  | _ => none
theorem aSliceAt_ok {w : World} {t : TypeId} {lo lo' hi hi' : Option Value} {v v' r : Value} (hl : OVR ρ lo lo') (hh : OVR ρ hi hi') (hv : VR ρ v v') (hc : ∀ i j c, v = .pointer (some i) → ρ i.block = some (j, c) → c = none)
    (e : aSliceAt P t lo hi v = some r) : ∃ r', (Instr.sliceAt t v' lo' hi' none).run P w = .ok r' w ∧ VR ρ r r' := by
  unfold aSliceAt at e
  split at e
  · rename_i b o
    cases hv with
    | @ptr _ j c _ hj =>
      obtain rfl := hc _ _ _ rfl hj
      split at e
      · rename_i n elem hu
        split at e
        · rename_i s l h hs hb
          cases e
          obtain ⟨g1, _, _⟩ := aBounds_ok (P := P) (w := w) (b := false) hl hh (Nat.le_refl n) hb
          refine ⟨_, ?_, .sl _ _ _ hj⟩
          have R : (Instr.sliceAt t (.pointer (some ⟨j, o, none⟩)) lo' hi' none).run P w = .ok (.slice (some (if n = l then ⟨j, o, none⟩ else (⟨j, o, none⟩ : Addr).add (l * s))) (h - l) (n - l)) w := by
            simp [Instr.sliceAt, run_underlying hu, Instr.sureAddr, g1, run_size hs]
          rw [R]
          by_cases hnl : n = l
          · rw [if_pos hnl, if_pos hnl]; rfl
          · rw [if_neg hnl, if_neg hnl, add_eq]
        · cases e
      · cases e
  · cases e
def aSlice (P : Program) (t : TypeId) (lo hi : Option Value) : Value → Option Value
  | .slice a len cap => match P.underlying t with
    | some (.slice elem) => match aSize P elem, aBounds len cap lo hi with
      | some (s + 1), some (l, h) => if h ≤ cap then (match a with
        | some ⟨b, o, none⟩ => some (.slice (some ⟨b, o + (if cap = l then 0 else l * (s + 1)), none⟩) (h - l) (cap - l))
        | none => some (.slice none (h - l) (cap - l))
        | _ => none) else none
      | _, _ => none
    | _ => none
  | _ => none
theorem aSlice_ok {w : World} {t : TypeId} {lo lo' hi hi' : Option Value} {v v' r : Value} (hl : OVR ρ lo lo') (hh : OVR ρ hi hi') (hv : VR ρ v v')
    (e : aSlice P t lo hi v = some r) : ∃ r', (Instr.sliceAt t v' lo' hi' none).run P w = .ok r' w ∧ VR ρ r r' := by
  unfold aSlice at e
  split at e
  · rename_i a len cap
    split at e
    · rename_i elem hu
      split at e
      · rename_i s l h hs hb
        split at e
        · rename_i hcap
          have R : ∀ (x : Option Addr) (c' : Nat), cap ≤ c' → (Instr.sliceAt t (.slice x len c') lo' hi' none).run P w = .ok (.slice (if c' = l then x else x.map (·.add (l * (s + 1)))) (h - l) (c' - l)) w ∧ l ≤ h := fun x c' hc' => by
            obtain ⟨g1, g2, _⟩ := aBounds_ok (P := P) (w := w) (b := true) hl hh hc' hb
            exact ⟨by simp [Instr.sliceAt, Instr.slice, run_underlying hu, g1, run_size hs], g2⟩
          cases hv with
          | sl0 =>
            cases e
            obtain ⟨g1, _⟩ := R none cap (Nat.le_refl _)
            refine ⟨_, g1, ?_⟩
            have : (if cap = l then (none : Option Addr) else Option.map (fun x : Addr => x.add (l * (s + 1))) none) = none := by split <;> rfl
            rw [this]
            exact .sl0 _ _
          | @sl i j o _ _ hj =>
            cases e
            obtain ⟨g1, _⟩ := R (some ⟨j, o, none⟩) cap (Nat.le_refl _)
            refine ⟨_, g1, ?_⟩
            by_cases hnl : cap = l
            · rw [if_pos hnl, if_pos hnl]; exact .sl _ _ _ hj
            · rw [if_neg hnl, if_neg hnl, Option.map_some, add_eq]; exact .sl _ _ _ hj
          | @slL i j k o _ _ c' hj h1 h2 h3 =>
            cases e
            obtain ⟨g1, g2⟩ := R (some ⟨j, o, none⟩) c' h2
            refine ⟨_, g1, ?_⟩
            by_cases hnl : cap = l
            · have e0 : h - l = 0 := by omega
              have e1 : cap - l = 0 := by omega
              rw [e0, e1]
              by_cases hnl' : c' = l
              · rw [if_pos hnl']; exact .slE _ _ _ hj
              · rw [if_neg hnl', Option.map_some, add_eq]; exact .slE _ _ _ hj
            · rw [if_neg hnl, if_neg (by omega), Option.map_some, add_eq]
              refine .slL _ _ _ _ hj (by omega) (by omega) fun ho => ?_
              have h5 : l * (s + 1) = 0 := by omega
              have h6 : l = 0 := by
                rcases Nat.mul_eq_zero.1 h5 with h6 | h6
                · exact h6
                · omega
              have := h3 (by omega)
              omega
          | @slE i j k o o' c' hj =>
            cases e
            obtain ⟨g1, g2⟩ := R (some ⟨j, o', none⟩) c' (Nat.zero_le _)
            obtain rfl : h = 0 := by omega
            obtain rfl : l = 0 := by omega
            refine ⟨_, g1, ?_⟩
            by_cases hnl' : c' = 0
            · rw [if_pos hnl']; exact .slE _ _ _ hj
            · rw [if_neg hnl', Option.map_some, add_eq]; exact .slE _ _ _ hj
        · cases e
      · cases e
    · cases e
  · cases e
end Go.Proofs.YtkjhnemfebgcnaaGreatDoor.Ev

namespace Go.Proofs.YtkjhnemfebgcnaaGreatDoor.Ev
open Go Go.RowKit
variable {ρ : Rn} {P : Program}
theorem get_lt {h : H} {i : Nat} {o : Obj} (e : h.get i = some o) : i < 65536 := by
  unfold H.get at e
  split at e
  · assumption
  · cases e
/-- A block is forgotten. -/
theorem Post.kill {h : H} {w : World} {i : Nat} (hok : h.Ok) (hr : RW ρ h.get w) (hi : i < 65536) (hb : h.bar ≤ i) : Post ρ h w ρ (h.put i none) w := by
  have hg : ∀ k o, (h.put i none).get k = some o → h.get k = some o := fun k o e => by
    rw [H.get_put _ _ _ _ hi] at e
    split at e
    · cases e
    · exact e
  refine ⟨Nat.le_refl _, rfl, Le.refl _, fun _ _ => rfl, hr.less hg, rfl, rfl, rfl, Nat.le_refl _, fun _ _ _ => rfl, fun k o j c hbk hk hkj _ => ⟨k, o, c, hbk, hg _ _ hk, hkj⟩, fun k hk => ?_, ⟨hok.bar, fun k o hk => hok.lt _ _ (hg _ _ hk)⟩⟩
  rw [H.get_put _ _ _ _ hi, if_neg (by omega)]
/-- A block gets a new number: an append has written behind its cells. -/
theorem Post.rebind {h : H} {w w' : World} {i j : Nat} {c : Option Nat} {o0 o1 : Obj} (hok : h.Ok) (hr : RW ρ h.get w) (hn : h.next < 65536) (hf : ρ h.next = none) (hg : h.get i = some o0) (hb : h.bar ≤ i) (hj : ρ i = some (j, c))
    (hs : w'.heap.size = w.heap.size) (hk : ∀ k, k ≠ j → w'.heap[k]? = w.heap[k]?) (h1 : w'.os = w.os) (h2 : w'.tape = w.tape) (h3 : w'.output = w.output) (ho : OR (upd ρ h.next (j, c)) c o1 w'.heap[j]?) :
    Post ρ h w (upd ρ h.next (j, c)) ((h.put i none).push o1) w' := by
  have hil := get_lt hg
  have hlt := hok.lt _ _ hg
  have hjl := hr.lt _ _ _ _ hg hj
  have hl := upd_le (ρ := ρ) (j, c) hf
  have hgg : ∀ k, ((h.put i none).push o1).get k = if k = h.next then some o1 else if k = i then none else h.get k := fun k => by
    rw [H.get_push _ _ _ (by exact hn), H.get_put _ _ _ _ hil]; rfl
  have hold : ∀ k o, k ≠ h.next → ((h.put i none).push o1).get k = some o → k ≠ i ∧ h.get k = some o := fun k o hkn e => by
    rw [hgg, if_neg hkn] at e
    split at e
    · cases e
    · rename_i hne; exact ⟨hne, e⟩
  refine ⟨Nat.le_succ _, rfl, hl, fun k hk' => ?_, ⟨fun k o hk' => ?_, fun a a' o o' b c1 c2 ha ha' hba hba' => ?_, fun k o b c1 hk' hkb => ?_⟩, h1, h2, h3, by omega, fun k hk' hne => ?_, fun k o b c1 hbk hk' hkb hlt' => ?_, fun k hk' => ?_, ⟨Nat.le_succ_of_le hok.bar, fun k o hk' => ?_⟩⟩
  · have : ((h.put i none).push o1).next = h.next + 1 := rfl
    unfold upd; rw [if_neg (by omega)]
  · by_cases e : k = h.next
    · subst e
      rw [hgg, if_pos rfl] at hk'; cases hk'
      exact ⟨j, c, by simp [upd], ho⟩
    · obtain ⟨hne, hg'⟩ := hold k o e hk'
      obtain ⟨b, c1, g1, g2⟩ := hr.obj _ _ hg'
      refine ⟨b, c1, hl _ _ g1, ?_⟩
      rw [hk b (fun e' => hne (hr.inj _ _ _ _ _ _ _ hg' hg (e' ▸ g1) hj))]
      exact g2.mono hl
  · by_cases e : a = h.next
    · by_cases e' : a' = h.next
      · omega
      · obtain ⟨hne, hg'⟩ := hold a' o' e' ha'
        subst e
        simp [upd] at hba
        simp only [upd, if_neg e'] at hba'
        exact absurd (hr.inj _ _ _ _ _ _ _ hg' hg hba' (by rw [hj, hba.1])) hne
    · obtain ⟨hne, hg'⟩ := hold a o e ha
      simp only [upd, if_neg e] at hba
      by_cases e' : a' = h.next
      · subst e'
        simp [upd] at hba'
        exact absurd (hr.inj _ _ _ _ _ _ _ hg' hg hba (by rw [hj, hba'.1])) hne
      · obtain ⟨_, hg''⟩ := hold a' o' e' ha'
        simp only [upd, if_neg e'] at hba'
        exact hr.inj _ _ _ _ _ _ _ hg' hg'' hba hba'
  · rw [hs]
    by_cases e : k = h.next
    · subst e; simp [upd] at hkb; omega
    · obtain ⟨_, hg'⟩ := hold k o e hk'
      simp only [upd, if_neg e] at hkb
      exact hr.lt _ _ _ _ hg' hkb
  · exact hk k (fun e => hne i o0 c hb hg (e ▸ hj))
  · by_cases e : k = h.next
    · subst e; simp [upd] at hkb
      exact ⟨i, o0, c, hb, hg, by rw [hj, hkb.1]⟩
    · obtain ⟨_, hg'⟩ := hold k o e hk'
      simp only [upd, if_neg e] at hkb
      exact ⟨k, o, c1, hbk, hg', hkb⟩
  · rw [hgg, if_neg (by have := hok.bar; omega), if_neg (by omega)]
  · show k < h.next + 1
    by_cases e : k = h.next
    · omega
    · obtain ⟨_, hg'⟩ := hold k o e hk'
      have := hok.lt _ _ hg'; omega
/-- What is appended or copied: how many elements, and their cells. -/
def aSrc (h : H) (size : Nat) : Value → Option (Nat × List Value)
  | .string s => if size = 1 then some (s.size, ((s.extract 0 s.size).data.map fun b => Value.int .u8 b.toNat).toList) else none
  | .slice none l _ => if l = 0 then some (0, []) else none
  | .slice (some ⟨b, o, none⟩) l _ => if l = 0 then some (0, []) else match h.get b with
    | some (.cells cs _ _) => if o + l * size ≤ cs.size then some (l, (cs.extract o (o + l * size)).toList) else none
    | _ => none
  | _ => none
theorem aSrc_ok {h : H} {w : World} {size n : Nat} {v v' : Value} {l : List Value} (hr : RW ρ h.get w) (hv : VR ρ v v') (e : aSrc h size v = some (n, l)) :
    ∃ l', LR ρ l l' ∧ l.length = n * size ∧ (Builtin.lenOf v').run P w = .ok n w ∧ ∀ m W, m = n → W.heap = w.heap → (Builtin.firstCells size m v').run P W = .ok l'.toArray W := by
  have empty : ∀ (a : Option Addr) (c : Nat), ∃ l', LR ρ [] l' ∧ ([] : List Value).length = 0 * size ∧ (Builtin.lenOf (.slice a 0 c)).run P w = .ok 0 w ∧
      ∀ m W, m = 0 → W.heap = w.heap → (Builtin.firstCells size m (.slice a 0 c)).run P W = .ok l'.toArray W := fun a c =>
    ⟨[], .nil, by simp, rfl, fun m W hm _ => by subst hm; cases a <;> simp [Builtin.firstCells, loadCells, loadCellsFrom]⟩
  unfold aSrc at e
  split at e
  · rename_i s
    cases hv
    split at e
    · rename_i hs
      cases e
      subst hs
      refine ⟨_, LR.of rfl (fun k hk => flat0_VR _ ?_), by simp, rfl, fun m W hm _ => by subst hm; simp only [Builtin.firstCells, Sem.run_pure, Array.toArray_toList]⟩
      simp only [List.getD_eq_getElem?_getD, List.getElem?_eq_getElem hk, Option.getD_some]
      simp [flat0]
    · cases e
  · cases hv
    split at e
    · rename_i h0; subst h0; cases e; exact empty none _
    · cases e
  · rename_i b o len _
    split at e
    · rename_i h0; subst h0; cases e
      cases hv <;> exact empty _ _
    · rename_i h0
      split at e
      · rename_i cs t fl hg
        split at e
        · rename_i hn
          cases e
          have key : ∀ j c c', ρ b = some (j, c) → ∃ l', LR ρ (cs.extract o (o + n * size)).toList l' ∧ (cs.extract o (o + n * size)).toList.length = n * size ∧ (Builtin.lenOf (.slice (some ⟨j, o, none⟩) n c')).run P w = .ok n w ∧
              ∀ m W, m = n → W.heap = w.heap → (Builtin.firstCells size m (.slice (some ⟨j, o, none⟩) n c')).run P W = .ok l'.toArray W := fun j c c' hj => by
            obtain ⟨j', c1, hj', hO⟩ := hr.obj _ _ hg
            rw [hj] at hj'; cases hj'
            obtain ⟨l', g1, g2, g3⟩ := cells_read hO o (n * size) hn
            refine ⟨l', g3, by rw [g3.len, g1], rfl, fun m W hm hW => ?_⟩
            subst hm
            refine run_firstCells_some W size _ _ _ _ l' g1 (fun k u hk => ?_)
            have hk' : k < m * size := by
              rcases Nat.lt_or_ge k l'.length with h' | h'
              · omega
              · rw [List.getElem?_eq_none h'] at hk; cases hk
            rw [add_eq, cell_rd, hW, g2 k hk']
            simp [List.getD, hk]
          cases hv with
          | sl _ _ _ hj => exact key _ _ _ hj
          | slL _ _ _ _ hj => exact key _ _ _ hj
          | slE => exact absurd rfl h0
        · cases e
      · cases e
  · cases e
section runs
variable {w : World} {t u ty e : TypeId} {i : TypeInfo} {z : Value} {d : TypeDesc}
theorem run_append_in (ht : P.underlying t = some (.slice e)) (hu : P.underlying u = some d) (hd : d = .string ∨ ∃ e', d = .slice e') (hi : P.info? e = some i) (g o sLen sCap m : Nat) (cur : Array Value) (t' : TypeId) (hg : w.heap[g]? = some (.cells cur t' (0, 0)))
    (x : Value) (news : List Value) (hl : (Builtin.lenOf x).run P w = .ok m w) (hf : (Builtin.firstCells i.size m x).run P w = .ok news.toArray w) (h1 : ∀ v ∈ news, v.oneCell' = true)
    (hroom : sLen + m ≤ sCap) (hfit : o + sLen * i.size + news.length ≤ cur.size) :
    (Builtin.append_ #[t, u] ty #[.slice (some ⟨g, o, none⟩) sLen sCap, x]).run P w =
      .ok (.slice (some ⟨g, o, none⟩) (sLen + m) sCap) (w.setRow g (cur.toList.take (o + sLen * i.size) ++ news ++ cur.toList.drop (o + sLen * i.size + news.length)).toArray) := by
  have hst := run_storeCells_at P g (o + sLen * i.size) t' news 0 cur w hg (by simpa using hfit) h1
  simp only [Nat.add_zero] at hst
  rcases hd with rfl | ⟨e', rfl⟩
  · simp [Builtin.append_, run_underlying ht, run_underlying hu, sizeOf, typeInfo, hi, hl, hroom, hf, add_eq, hst]
  · simp [Builtin.append_, run_underlying ht, run_underlying hu, sizeOf, typeInfo, hi, hl, hroom, hf, add_eq, hst]
theorem run_append_new (ht : P.underlying t = some (.slice e)) (hu : P.underlying u = some d) (hd : d = .string ∨ ∃ e', d = .slice e') (hi : P.info? e = some i) (hz : i.zero = some z) (base : Option Addr) (sLen sCap m : Nat)
    (x : Value) (olds news : List Value) (hl : (Builtin.lenOf x).run P w = .ok m w) (hf : (Builtin.firstCells i.size m x).run P w.drew = .ok news.toArray w.drew) (ho : (Builtin.firstCells i.size sLen (.slice base sLen sCap)).run P w.drew = .ok olds.toArray w.drew)
    (hroom : sCap < sLen + m) (h63 : sLen + m ≤ 9223372036854775807) (hfit : (sLen + m) * i.bytes ≤ 140737488355328) :
    (Builtin.append_ #[t, u] ty #[.slice base sLen sCap, x]).run P w =
      .ok (.slice (some ⟨w.heap.size, 0, none⟩) (sLen + m) (grownCap w (sLen + m) sCap e))
        (w.drew.alloc (.cells (olds.toArray ++ news.toArray ++ Builtin.zeroCells z.cells (grownCap w (sLen + m) sCap e - (sLen + m))) e)) := by
  have hn : ¬ (sLen + m ≤ sCap) := by omega
  have h63' : ¬ (9223372036854775807 < ((sLen : Int) + (m : Int))) := by omega
  have hfit' := growslice_fits hroom hfit
  have h48' : ¬ (281474976710656 < Builtin.nextslicecap (sLen + m) sCap * i.bytes) := by omega
  rcases hd with rfl | ⟨e', rfl⟩
  · simp [Builtin.append_, run_underlying ht, run_underlying hu, sizeOf, typeInfo, zeroValue, hi, hz, hl, hn, h63', h48', Question.forced, hf, ho, newRow, grownCap]
    congr 2
    apply Array.ext'
    simp [List.append_assoc]
  · simp [Builtin.append_, run_underlying ht, run_underlying hu, sizeOf, typeInfo, zeroValue, hi, hz, hl, hn, h63', h48', Question.forced, hf, ho, newRow, grownCap]
    congr 2
    apply Array.ext'
    simp [List.append_assoc]
end runs
end Go.Proofs.YtkjhnemfebgcnaaGreatDoor.Ev

namespace Go.Proofs.YtkjhnemfebgcnaaGreatDoor.Ev
open Go Go.RowKit
variable {ρ : Rn} {P : Program}
def srcTy : TypeDesc → Bool
  | .string | .slice _ => true
  | _ => false
/-- A new row that an append has made. -/
def aFresh (h : H) (e : TypeId) (size bytes : Nat) (cells : List Value) (k : Nat) : Option (Value × H) :=
  if h.next < 65536 ∧ k ≤ 1000000000 ∧ k * bytes ≤ 140737488355328 then some (.slice (some ⟨h.next, 0, none⟩) k k, h.push (.cells cells.toArray e (1, size))) else none
def aAppend (P : Program) (h : H) (ats : Array TypeId) (args : Array Value) : Option (Value × H) :=
  match ats.toList, args.toList with
  | [t, u], [s, x] => match P.underlying t, P.underlying u with
    | some (.slice e), some du => match P.info? e with
      | some i => match i.zero with
        | some z =>
          if 0 < i.size ∧ z.cells.size = i.size ∧ srcTy du = true then
            match aSrc h i.size x with
            | some (m, news) =>
              if news.all (·.oneCell') = true then
                match s with
                | .slice none 0 0 => if m = 0 then some (.slice none 0 0, h) else aFresh h e i.size i.bytes news m
                | .slice (some ⟨b, o, none⟩) l c => match h.get b with
                  | some (.cells cs ty fl) =>
                    if fl.1 = 0 then
                      if l + m ≤ c then
                        if h.bar ≤ b ∧ o + l * i.size + news.length ≤ cs.size then some (.slice (some ⟨b, o, none⟩) (l + m) c, h.put b (some (.cells (splice cs (o + l * i.size) news) ty fl))) else none
                      else if o + l * i.size ≤ cs.size then aFresh h e i.size i.bytes ((cs.extract o (o + l * i.size)).toList ++ news) (l + m) else none
                    else if fl = (1, i.size) ∧ o = 0 ∧ h.bar ≤ b ∧ l * i.size ≤ cs.size ∧ 0 < l + c then
                      aFresh (h.put b none) e i.size i.bytes ((cs.extract 0 (l * i.size)).toList ++ news) (l + m)
                    else none
                  | _ => none
                | _ => none
              else none
            | none => none
          else none
        | none => none
      | none => none
    | _, _ => none
  | _, _ => none
theorem arr2 {α : Type} {a : Array α} {x y : α} (h : a.toList = [x, y]) : a = #[x, y] := by
  cases a; simp at h; simp [h]
theorem AR.two {a a' : Array Value} {x y : Value} (h : AR ρ a a') (e : a.toList = [x, y]) : ∃ x' y', a' = #[x', y'] ∧ VR ρ x x' ∧ VR ρ y y' := by
  have := h.lr
  rw [e] at this
  generalize hb : a'.toList = b at this
  cases this with
  | cons h1 h2 => cases h2 with
    | cons h2 h3 => cases h3; exact ⟨_, _, arr2 hb, h1, h2⟩
theorem LR.one {l m : List Value} (h : LR ρ l m) (h1 : l.all (·.oneCell') = true) : ∀ v ∈ m, v.oneCell' = true := by
  induction h with
  | nil => intro v hv; simp at hv
  | cons hxy _ ih =>
    intro v hv
    simp at h1
    rcases List.mem_cons.1 hv with rfl | hv
    · rw [hxy.oneCell]; exact h1.1
    · exact ih (by simpa using h1.2) v hv
theorem zc_size {z : Value} {n size : Nat} (hz : z.cells.size = size) : (Builtin.zeroCells z.cells n).size = n * size := by simp [Builtin.zeroCells, hz]
/-- The row that a growing append makes. -/
theorem aFresh_ok {h h' : H} {w : World} {e : TypeId} {size bytes k old : Nat} {z : Value} {olds news olds' news' : List Value} {r : Value} (hok : h.Ok) (hr : RW ρ h.get w) (hf : ∀ i, h.next ≤ i → i < h'.next → ρ i = none)
    (ea : aFresh h e size bytes (olds ++ news) k = some (r, h')) (ho : LR ρ olds olds') (hn : LR ρ news news') (hl : (olds ++ news).length = k * size) (hz : z.cells.size = size) :
    k ≤ 1000000000 ∧ k * bytes ≤ 140737488355328 ∧ ∃ ρ', VR ρ' r (.slice (some ⟨w.heap.size, 0, none⟩) k (grownCap w k old e)) ∧
      Post ρ h w ρ' h' (w.drew.alloc (.cells (olds'.toArray ++ news'.toArray ++ Builtin.zeroCells z.cells (grownCap w k old e - k)) e)) := by
  unfold aFresh at ea
  split at ea
  · rename_i hc
    obtain ⟨c1, c2, c3⟩ := hc
    cases ea
    have hfr : ρ h.next = none := hf _ (Nat.le_refl _) (Nat.lt_succ_self _)
    have hge := grownCap_ge w k old e
    refine ⟨c2, c3, upd ρ h.next (w.heap.size, some (grownCap w k old e)), .slL _ _ _ _ (by simp [upd]) (Nat.le_refl _) hge (fun _ => rfl), ?_⟩
    refine Post.alloc (w := w) hok hr c1 hfr rfl rfl rfl rfl ?_
    have hll := ((ho.append hn).mono (upd_le (w.heap.size, some (grownCap w k old e)) hfr))
    have := OR.mk (c := some (grownCap w k old e)) (cs := (olds ++ news).toArray) (t := e) (t' := e) (fl := (1, size)) (l := olds' ++ news') (rest := (Builtin.zeroCells z.cells (grownCap w k old e - k)).toList) (by simpa using hll) (fun _ => rfl) (fun x => absurd rfl x) (hf := by simp) (h5 := fun kp hkp => by
      cases hkp
      have h1 := (ho.append hn).len
      rw [hl] at h1
      rw [List.length_append, ← h1, Array.length_toList, zc_size hz, ← Nat.add_mul]
      congr 1; omega)
    have e2 : (olds'.toArray ++ news'.toArray ++ Builtin.zeroCells z.cells (grownCap w k old e - k)) = (olds' ++ news' ++ (Builtin.zeroCells z.cells (grownCap w k old e - k)).toList).toArray := by
      apply Array.ext'; simp
    rw [e2]
    exact this
  · cases ea
theorem aAppend_ok {h h' : H} {w : World} {ats : Array TypeId} {args args' : Array Value} {ty : TypeId} {r : Value} (hok : h.Ok) (hr : RW ρ h.get w) (hf : ∀ i, h.next ≤ i → i < h'.next → ρ i = none) (ha : AR ρ args args')
    (e : aAppend P h ats args = some (r, h')) : ∃ ρ' r' w', (Builtin.append_ ats ty args').run P w = .ok r' w' ∧ VR ρ' r r' ∧ Post ρ h w ρ' h' w' := by
  unfold aAppend at e
  split at e
  · rename_i t u s x hats hargs
    obtain rfl := arr2 hats
    obtain ⟨s', x', rfl, hs, hx⟩ := ha.two hargs
    split at e
    · rename_i el du ht hu
      split at e
      · rename_i i hi
        split at e
        · rename_i z hz
          split at e
          · rename_i hc
            obtain ⟨c1, c2, c3⟩ := hc
            have hd : du = .string ∨ ∃ e', du = .slice e' := by cases du <;> simp [srcTy] at c3 ⊢
            split at e
            · rename_i m news hsrc
              obtain ⟨news', n1, n2, n3, n4⟩ := aSrc_ok (P := P) hr hx hsrc
              split at e
              · rename_i hone
                have h1' := n1.one hone
                split at e
                · cases hs
                  split at e
                  · rename_i hm
                    cases e
                    subst hm
                    refine ⟨ρ, .slice none 0 0, w, ?_, .sl0 0 0, Post.refl hok hr⟩
                    have hf0 := n4 0 w rfl rfl
                    rcases hd with rfl | ⟨e', rfl⟩
                    · simp [Builtin.append_, run_underlying ht, run_underlying hu, sizeOf, typeInfo, hi, n3, hf0]
                    · simp [Builtin.append_, run_underlying ht, run_underlying hu, sizeOf, typeInfo, hi, n3, hf0]
                  · rename_i hm
                    obtain ⟨k1, k2, ρ', k3, k4⟩ := aFresh_ok (olds := []) (olds' := []) (old := 0) (z := z) hok hr hf e .nil n1 (by simpa using n2) c2
                    have R := run_append_new (P := P) (w := w) (ty := ty) ht hu hd hi hz none 0 0 m x' [] news' n3 (n4 m w.drew rfl rfl) (by simp [Builtin.firstCells]) (by omega) (by omega) (by simpa using k2)
                    simp only [Nat.zero_add] at R
                    exact ⟨ρ', _, _, R, k3, k4⟩
                · rename_i b o l c
                  split at e
                  · rename_i cs tyc fl hg
                    obtain ⟨j, cc, hj, hO⟩ := hr.obj _ _ hg
                    split at e
                    · rename_i hfl
                      have hs2 : s' = .slice (some ⟨j, o, none⟩) l c := by
                        obtain ⟨_, _, _, _, _, _, q, _⟩ := hO.row (by omega)
                        have hcc := q (by omega)
                        cases hs with
                        | sl _ _ _ hj' => rw [hj] at hj'; cases hj'; rfl
                        | slL _ _ _ _ hj' => rw [hj] at hj'; subst hcc; cases hj'
                        | slE _ _ _ hj' => rw [hj] at hj'; subst hcc; cases hj'
                      subst hs2
                      have hcc : cc = none := by
                        obtain ⟨_, _, _, _, _, _, q, _⟩ := hO.row (by omega)
                        exact q (by omega)
                      subst hcc
                      split at e
                      · rename_i hroom
                        split at e
                        · rename_i hb
                          cases e
                          obtain ⟨w', g1, g2⟩ := Post.splice (P := P) hok hr hg hb.1 hj (by omega) hb.2 (List.all_eq_true.1 hone) n1
                          refine ⟨ρ, .slice (some ⟨j, o, none⟩) (l + m) c, w', ?_, .sl _ _ _ hj, g2⟩
                          have hf0 := n4 m w rfl rfl
                          rcases hd with rfl | ⟨e', rfl⟩
                          · simp [Builtin.append_, run_underlying ht, run_underlying hu, sizeOf, typeInfo, hi, n3, hf0, hroom, add_eq, g1]
                          · simp [Builtin.append_, run_underlying ht, run_underlying hu, sizeOf, typeInfo, hi, n3, hf0, hroom, add_eq, g1]
                        · cases e
                      · rename_i hroom
                        split at e
                        · rename_i hn
                          obtain ⟨olds', o1, o2, o3⟩ := cells_read hO o (l * i.size) hn
                          have hlo : (cs.extract o (o + l * i.size)).toList.length = l * i.size := by rw [o3.len, o1]
                          obtain ⟨k1, k2, ρ', k3, k4⟩ := aFresh_ok (old := c) (z := z) hok hr hf e o3 n1 (by rw [List.length_append, hlo, n2, ← Nat.add_mul]) c2
                          have R := run_append_new (P := P) (w := w) (ty := ty) ht hu hd hi hz (some ⟨j, o, none⟩) l c m x' olds' news' n3 (n4 m w.drew rfl rfl)
                            (run_firstCells_some w.drew i.size l _ _ _ olds' o1 (fun q v hq => by
                              have hq' : q < l * i.size := by
                                rcases Nat.lt_or_ge q olds'.length with h' | h'
                                · omega
                                · rw [List.getElem?_eq_none h'] at hq; cases hq
                              rw [add_eq, cell_rd]
                              show rd w.heap[j]? (o + q) = some v
                              rw [o2 q hq']; simp [List.getD, hq])) (by omega) (by omega) k2
                          exact ⟨ρ', _, _, R, k3, k4⟩
                        · cases e
                    · split at e
                      · rename_i hfl hb
                        obtain ⟨b1, b2, b3, b4, b5⟩ := hb
                        subst b1 b2
                        obtain ⟨la, rest, t', hx2, hla, q1, _, q3⟩ := hO.row (by simp)
                        obtain ⟨kp, hkp⟩ := Option.isSome_iff_exists.1 (q1 rfl)
                        subst hkp
                        have hkl := q3 kp rfl
                        have hs2 : s' = .slice (some ⟨j, 0, none⟩) l kp ∧ l ≤ kp := by
                          cases hs with
                          | sl _ _ _ hj' => rw [hj] at hj'; cases hj'
                          | slL _ _ _ c' hj' p1 p2 p3 => rw [hj] at hj'; cases hj'; have := p3 rfl; subst this; exact ⟨rfl, by omega⟩
                          | slE => omega
                        obtain ⟨rfl, hlkp⟩ := hs2
                        have hbl := get_lt hg
                        have hlen := hla.len
                        simp at hlen
                        have p1 := Post.kill hok hr hbl b3
                        obtain ⟨olds', o1, o2, o3⟩ := cells_read hO 0 (l * i.size) (by omega)
                        simp only [Nat.zero_add] at o2 o3
                        have hlo : (cs.extract 0 (l * i.size)).toList.length = l * i.size := by rw [o3.len, o1]
                        have hlt : ((cs.extract 0 (l * i.size)).toList ++ news).length = (l + m) * i.size := by rw [List.length_append, hlo, n2, ← Nat.add_mul]
                        have hold : olds' = la.take (l * i.size) := by
                          apply List.ext_getElem?; intro q
                          rcases Nat.lt_or_ge q (l * i.size) with hq | hq
                          · have := o2 q hq
                            rw [hx2] at this
                            simp only [rd] at this
                            rw [List.getElem?_toArray, List.getElem?_append_left (by omega)] at this
                            rw [List.getElem?_take, if_pos hq, this]
                            simp [List.getD, show q < olds'.length by omega]
                          · rw [List.getElem?_eq_none (by omega), List.getElem?_take, if_neg (by omega)]
                        by_cases hroom : l + m ≤ kp
                        · have hmul : (l + m) * i.size ≤ kp * i.size := Nat.mul_le_mul_right _ hroom
                          have hnl : news'.length = m * i.size := by rw [← n1.len, n2]
                          have hfit : 0 + l * i.size + news'.length ≤ (la ++ rest).toArray.size := by
                            simp only [List.size_toArray, hkl, hnl, Nat.zero_add, ← Nat.add_mul]; exact hmul
                          have R := run_append_in (P := P) (w := w) (ty := ty) ht hu hd hi j 0 l kp m (la ++ rest).toArray t' hx2 x' news' n3 (n4 m w rfl rfl) h1' hroom hfit
                          unfold aFresh at e
                          split at e
                          · rename_i hc
                            cases e
                            have hfr : ρ h.next = none := hf _ (Nat.le_refl _) (Nat.lt_succ_self _)
                            refine ⟨upd ρ h.next (j, some kp), _, _, R, .slL _ _ _ _ (by simp [upd, H.put]) (Nat.le_refl _) hroom (fun _ => rfl), ?_⟩
                            refine Post.rebind hok hr hc.1 hfr hg b3 hj (by simp [World.setRow]) (fun k hk => setRow_other w j k _ hk) rfl rfl rfl ?_
                            rw [setRow_heap w j _ _ t' (0, 0) hx2]
                            have e2 : (((la ++ rest).toArray.toList.take (0 + l * i.size)) ++ news' ++ (la ++ rest).toArray.toList.drop (0 + l * i.size + news'.length)) = (olds' ++ news') ++ (la ++ rest).drop (l * i.size + news'.length) := by
                              simp only [Nat.zero_add]
                              rw [List.take_append_of_le_length (by omega), hold]
                            rw [e2]
                            have hll := (o3.append n1).mono (upd_le (j, some kp) hfr)
                            refine OR.mk (l := olds' ++ news') (by simpa using hll) (fun _ => rfl) (fun x => absurd rfl x) (fun kp' hkp' => ?_) (by simp)
                            cases hkp'
                            rw [← hkl]
                            have : l * i.size + news'.length ≤ (la ++ rest).length := by simpa using hfit
                            simp only [List.length_append, List.length_drop] at this ⊢
                            omega
                          · cases e
                        · obtain ⟨k1, k2, ρ', k3, k4⟩ := aFresh_ok (old := kp) (z := z) p1.ok p1.rel (fun q hq1 hq2 => hf q hq1 hq2) e o3 n1 hlt c2
                          have R := run_append_new (P := P) (w := w) (ty := ty) ht hu hd hi hz (some ⟨j, 0, none⟩) l kp m x' olds' news' n3 (n4 m w.drew rfl rfl)
                            (run_firstCells_some w.drew i.size l _ _ _ olds' o1 (fun q v hq => by
                              have hq' : q < l * i.size := by
                                rcases Nat.lt_or_ge q olds'.length with h' | h'
                                · omega
                                · rw [List.getElem?_eq_none h'] at hq; cases hq
                              rw [add_eq, cell_rd]
                              show rd w.heap[j]? (0 + q) = some v
                              rw [Nat.zero_add, o2 q hq']; simp [List.getD, hq])) (by omega) (by omega) k2
                          exact ⟨ρ', _, _, R, k3, p1.trans k4⟩
                      · cases e
                  · cases e
                · cases e
              · cases e
            · cases e
          · cases e
        · cases e
      · cases e
    · cases e
  · cases e
/-- A nil slice, and behind it so many zero values. -/
def aAppendZ (P : Program) (h : H) (ats : Array TypeId) (args : Array Value) : Option (Value × H) :=
  match ats.toList, args.toList with
  | [t, u], [.slice none 0 0, .int _ n] => match P.underlying t, P.underlying u with
    | some (.slice e), some (.int _) => match P.info? e with
      | some i => match i.zero with
        | some z =>
          if 0 < n ∧ 0 < i.size ∧ z.cells.size = i.size ∧ z.cells.toList.all flat0 = true then
            aFresh h e i.size i.bytes (Builtin.zeroCells z.cells n.toNat).toList n.toNat
          else none
        | none => none
      | none => none
    | _, _ => none
  | _, _ => none
theorem aAppendZ_ok {h h' : H} {w : World} {ats : Array TypeId} {args args' : Array Value} {ty : TypeId} {r : Value} (hok : h.Ok) (hr : RW ρ h.get w) (hf : ∀ i, h.next ≤ i → i < h'.next → ρ i = none) (ha : AR ρ args args')
    (e : aAppendZ P h ats args = some (r, h')) : ∃ ρ' r' w', (Builtin.append_ ats ty args').run P w = .ok r' w' ∧ VR ρ' r r' ∧ Post ρ h w ρ' h' w' := by
  unfold aAppendZ at e
  split at e
  · rename_i t u kk n hats hargs
    obtain rfl := arr2 hats
    obtain ⟨s', x', rfl, hs, hx⟩ := ha.two hargs
    cases hs
    cases hx
    split at e
    · rename_i el kn ht hu
      split at e
      · rename_i i hi
        split at e
        · rename_i z hz
          split at e
          · rename_i hc
            obtain ⟨c0, c1, c2, c3⟩ := hc
            have hzl : LR ρ (Builtin.zeroCells z.cells n.toNat).toList (Builtin.zeroCells z.cells n.toNat).toList := by
              refine LR.of rfl (fun k hk => flat0_VR _ ?_)
              have hk' : k < n.toNat * z.cells.size := by
                rw [Array.length_toList] at hk
                simpa [Builtin.zeroCells] using hk
              have hpos : 0 < z.cells.size := by omega
              have hm : k % z.cells.size < z.cells.size := Nat.mod_lt _ hpos
              have : ((Builtin.zeroCells z.cells n.toNat).toList.getD k undef) = z.cells.getD (k % z.cells.size) undef := by
                simp [Builtin.zeroCells, List.getD, hk', Array.getD, hm]
              rw [this]
              exact all_getD c3 _ hm
            obtain ⟨k1, k2, ρ', k3, k4⟩ := aFresh_ok (olds := []) (olds' := []) (old := 0) (z := z) hok hr hf e .nil hzl (by rw [List.nil_append, Array.length_toList, zc_size c2]) c2
            have R := Lib.run_append_grow_zeros w t u ty el i z kk kn ht hu hi hz none 0 0 [] (by simp [Builtin.firstCells]) n.toNat (by omega) c1 (by omega) (by omega) (by omega) (by
              rw [Nat.zero_add]
              unfold Builtin.nextslicecap
              rw [if_pos (by omega)]
              omega)
            rw [show ((n.toNat : Nat) : Int) = n by omega] at R
            simp only [Nat.zero_add] at R
            refine ⟨ρ', _, _, R, k3, ?_⟩
            simpa using k4
          · cases e
        · cases e
      · cases e
    · cases e
  · cases e
/-- Nothing appended: the slice itself. -/
def aAppend0 (P : Program) (h : H) (ats : Array TypeId) (args : Array Value) : Option (Value × H) :=
  match ats.toList, args.toList with
  | [t, u], [.slice (some ⟨b, o, none⟩) l c, x] => match P.underlying t, P.underlying u with
    | some (.slice e), some du => match P.info? e with
      | some i => if srcTy du = true ∧ l ≤ c then match aSrc h i.size x with
          | some (0, _) => some (.slice (some ⟨b, o, none⟩) l c, h)
          | _ => none
        else none
      | none => none
    | _, _ => none
  | _, _ => none
theorem aAppend0_ok {h h' : H} {w : World} {ats : Array TypeId} {args args' : Array Value} {ty : TypeId} {r : Value} (hok : h.Ok) (hr : RW ρ h.get w) (ha : AR ρ args args')
    (e : aAppend0 P h ats args = some (r, h')) : ∃ ρ' r' w', (Builtin.append_ ats ty args').run P w = .ok r' w' ∧ VR ρ' r r' ∧ Post ρ h w ρ' h' w' := by
  unfold aAppend0 at e
  split at e
  · rename_i t u b o l c x hats hargs
    obtain rfl := arr2 hats
    obtain ⟨s', x', rfl, hs, hx⟩ := ha.two hargs
    split at e
    · rename_i el du ht hu
      split at e
      · rename_i i hi
        split at e
        · rename_i hc
          obtain ⟨c3, hlc⟩ := hc
          have hd : du = .string ∨ ∃ e', du = .slice e' := by cases du <;> simp [srcTy] at c3 ⊢
          split at e
          · rename_i news hsrc
            cases e
            obtain ⟨news', n1, n2, n3, n4⟩ := aSrc_ok (P := P) hr hx hsrc
            have hn0 : news' = [] := List.length_eq_zero_iff.1 (by rw [← n1.len, n2]; simp)
            have hf0 := n4 0 w rfl rfl
            rw [hn0] at hf0
            obtain ⟨j, o', c', rfl, hc'⟩ : ∃ j o' c', s' = .slice (some ⟨j, o', none⟩) l c' ∧ l ≤ c' := by
              cases hs with
              | sl _ _ _ hj => exact ⟨_, _, _, rfl, hlc⟩
              | slL _ _ _ _ hj p1 p2 _ => exact ⟨_, _, _, rfl, by omega⟩
              | slE _ _ _ hj => exact ⟨_, _, _, rfl, by omega⟩
            refine ⟨ρ, .slice (some ⟨j, o', none⟩) l c', w, ?_, hs, Post.refl hok hr⟩
            rcases hd with rfl | ⟨e', rfl⟩
            · simp [Builtin.append_, run_underlying ht, run_underlying hu, sizeOf, typeInfo, hi, n3, hf0, hc', storeCells]
            · simp [Builtin.append_, run_underlying ht, run_underlying hu, sizeOf, typeInfo, hi, n3, hf0, hc', storeCells]
          · cases e
        · cases e
      · cases e
    · cases e
  · cases e
def aApp (P : Program) (h : H) (ats : Array TypeId) (args : Array Value) : Option (Value × H) := match aAppend0 P h ats args with
  | some y => some y
  | none => match aAppend P h ats args with
    | some y => some y
    | none => aAppendZ P h ats args
theorem aApp_ok {h h' : H} {w : World} {ats : Array TypeId} {args args' : Array Value} {ty : TypeId} {r : Value} (hok : h.Ok) (hr : RW ρ h.get w) (hf : ∀ i, h.next ≤ i → i < h'.next → ρ i = none) (ha : AR ρ args args')
    (e : aApp P h ats args = some (r, h')) : ∃ ρ' r' w', (Builtin.append_ ats ty args').run P w = .ok r' w' ∧ VR ρ' r r' ∧ Post ρ h w ρ' h' w' := by
  unfold aApp at e
  split at e
  · rename_i y hy
    cases e
    exact aAppend0_ok hok hr ha hy
  · split at e
    · rename_i y hy
      cases e
      exact aAppend_ok hok hr hf ha hy
    · exact aAppendZ_ok hok hr hf ha e
end Go.Proofs.YtkjhnemfebgcnaaGreatDoor.Ev

namespace Go.Proofs.YtkjhnemfebgcnaaGreatDoor.Ev
open Go Go.RowKit Go.MapKept
variable {ρ : Rn} {P : Program}
/-- A block that a Sem makes last. -/
def aBox (h : H) (t : TypeId) (cs : Array Value) : Option (Value × H) := (aNew h cs t).map fun x => (.pointer (some ⟨x.1, 0, none⟩), x.2)
theorem aBox_ok {h h' : H} {w : World} {t t' : TypeId} {cs cs' : Array Value} {r : Value} (hok : h.Ok) (hr : RW ρ h.get w) (hf : ∀ i, h.next ≤ i → i < h'.next → ρ i = none) (e : aBox h t cs = some (r, h')) (hv : LR ρ cs.toList cs'.toList) :
    ∃ ρ', VR ρ' r (.pointer (some ⟨w.heap.size, 0, none⟩)) ∧ Post ρ h w ρ' h' { w with heap := w.heap.push (.cells cs' t' (0, 0)) } := by
  unfold aBox at e
  cases hn : aNew h cs t with
  | none => rw [hn] at e; cases e
  | some x =>
    obtain ⟨i, h1⟩ := x
    rw [hn] at e; cases e
    obtain ⟨ρ', g1, g2⟩ := aNew_ok (t' := t') hok hr hf hn hv
    exact ⟨ρ', .ptr _ g1, g2⟩
def aAlloc (P : Program) (h : H) (t : TypeId) : Option (Value × H) := match (P.info? t).bind (·.zero) with
  | some z => if flat1 z = true then aBox h t z.cells else none
  | none => none
theorem run_zero {w : World} {t : TypeId} {z : Value} (h : (P.info? t).bind (·.zero) = some z) : (zeroValue t).run P w = .ok z w := by
  cases hi : P.info? t with
  | none => rw [hi] at h; cases h
  | some i => rw [hi] at h; simp only [Option.bind_some] at h; simp [zeroValue, typeInfo, hi, h]
theorem aAlloc_ok {h h' : H} {w : World} {t : TypeId} {r : Value} (hok : h.Ok) (hr : RW ρ h.get w) (hf : ∀ i, h.next ≤ i → i < h'.next → ρ i = none) (e : aAlloc P h t = some (r, h')) :
    ∃ ρ' r' w', (Instr.alloc t true (.tuple #[])).run P w = .ok r' w' ∧ VR ρ' r r' ∧ Post ρ h w ρ' h' w' := by
  unfold aAlloc at e
  split at e
  · rename_i z hz
    split at e
    · rename_i hfl
      obtain ⟨ρ', g1, g2⟩ := aBox_ok (t' := t) hok hr hf e (zero_LR hfl)
      refine ⟨ρ', _, _, ?_, g1, g2⟩
      simp [Instr.alloc, run_zero hz, newVar, newRow, newObj, Sem.run]
    · cases e
  · cases e
theorem aBoxV_ok {h h' : H} {w : World} {t : TypeId} {v v' r : Value} (hok : h.Ok) (hr : RW ρ h.get w) (hf : ∀ i, h.next ≤ i → i < h'.next → ρ i = none) (hv : VR ρ v v') (e : aBox h t v.cells = some (r, h')) :
    ∃ ρ' r' w', (Instr.box t v').run P w = .ok r' w' ∧ VR ρ' r r' ∧ Post ρ h w ρ' h' w' := by
  obtain ⟨ρ', g1, g2⟩ := aBox_ok (t' := t) hok hr hf e hv.cells
  refine ⟨ρ', _, _, ?_, g1, g2⟩
  simp [Instr.box, newVar, newRow, newObj, Sem.run]
def aBuildSlice (P : Program) (h : H) (t : TypeId) (len : Nat) (parts : List (Nat × Value)) : Option (Value × H) := match P.underlying t with
  | some (.slice elem) => match aSize P elem, (P.info? elem).bind (·.zero) with
    | some size, some z =>
      if len = 0 then (if parts.isEmpty = true then (aNew h #[] elem).map fun x => (.slice (some ⟨x.1, 0, none⟩) 0 0, x.2) else none)
      else if 0 < len * size ∧ len * size ≤ 16777216 ∧ flat1 z = true then
        match Instr.fill (fun i => some (i * size, size)) ((Array.range (len * size)).map (z.cells[· % z.cells.size]!)) parts with
        | some cells => (aNew h cells elem).map fun x => (.slice (some ⟨x.1, 0, none⟩) len len, x.2)
        | none => none
      else none
    | _, _ => none
  | _ => none
theorem LR.flat {l : List Value} (h : l.all flat0 = true) : LR ρ l l := by
  induction l with
  | nil => exact .nil
  | cons x l ih => simp at h; exact .cons (flat0_VR ρ h.1) (ih (by simpa using h.2))
theorem made_flat {z : Value} (hz : flat1 z = true) (n : Nat) : ((Array.range n).map (z.cells[· % z.cells.size]!)).toList.all flat0 = true := by
  have hc : z.cells.toList.all flat0 = true := by
    cases z with
    | agg cs => exact hz
    | _ => simpa [Value.cells, flat1] using hz
  rw [List.all_eq_true] at hc ⊢
  intro v hv
  simp only [Array.toList_map, List.mem_map] at hv
  obtain ⟨k, _, rfl⟩ := hv
  by_cases hk : k % z.cells.size < z.cells.size
  · have e : z.cells[k % z.cells.size]! = z.cells[k % z.cells.size] := by simp [hk]
    rw [e]
    exact hc _ (by simp)
  · have e : z.cells[k % z.cells.size]! = default := by
      have h0 := Nat.mod_lt k (y := z.cells.size)
      simp only [getElem!_def]
      rw [Array.getElem?_eq_none (by omega)]
    rw [e]; rfl
theorem aBuildSlice_ok {h h' : H} {w : World} {t : TypeId} {len : Nat} {ps : List (Nat × Value)} {ps' : Array (Nat × Value)} {r : Value} (hok : h.Ok) (hr : RW ρ h.get w) (hf : ∀ i, h.next ≤ i → i < h'.next → ρ i = none) (hp : PR ρ ps ps'.toList)
    (e : aBuildSlice P h t len ps = some (r, h')) : ∃ ρ' r' w', (Instr.buildSlice t len ps').run P w = .ok r' w' ∧ VR ρ' r r' ∧ Post ρ h w ρ' h' w' := by
  unfold aBuildSlice at e
  split at e
  · rename_i elem hu
    split at e
    · rename_i size z hs hz
      split at e
      · rename_i h0
        subst h0
        split at e
        · rename_i hpe
          cases hn : aNew h #[] elem with
          | none => rw [hn] at e; cases e
          | some x =>
            obtain ⟨i, h1⟩ := x
            rw [hn] at e; cases e
            obtain ⟨ρ', g1, g2⟩ := aNew_ok (t' := elem) (cs' := #[]) hok hr hf hn .nil
            refine ⟨ρ', .slice (some ⟨w.heap.size, 0, none⟩) 0 0, _, ?_, .sl _ _ _ g1, g2⟩
            have hps : ps'.toList = [] := by
              cases ps with
              | nil => generalize ps'.toList = q at hp; cases hp; rfl
              | cons a b => simp at hpe
            have hps' : ps' = #[] := by cases ps'; simpa using hps
            subst hps'
            simp [Instr.buildSlice, run_underlying hu, run_size hs, newRow, newObj, Sem.run, Instr.fill, Array.range_zero']
        · cases e
      · split at e
        · rename_i hc
          obtain ⟨c0, c1, c2⟩ := hc
          split at e
          · rename_i cells hfill
            cases hn : aNew h cells elem with
            | none => rw [hn] at e; cases e
            | some x =>
              obtain ⟨i, h1⟩ := x
              rw [hn] at e; cases e
              obtain ⟨cells', f1, f2⟩ := fill_ok hp (LR.flat (made_flat c2 (len * size))) hfill
              obtain ⟨ρ', g1, g2⟩ := aNew_ok (t' := elem) hok hr hf hn f2
              refine ⟨ρ', .slice (some ⟨w.heap.size, 0, none⟩) len len, _, ?_, .sl _ _ _ g1, g2⟩
              have h24 : ¬ (16777216 < len * size) := by omega
              have h0 : ¬ (len * size = 0) := by omega
              simp [Instr.buildSlice, run_underlying hu, run_size hs, run_zero hz, h24, h0, newRow, newObj, Sem.run, f1]
          · cases e
        · cases e
    · cases e
  · cases e
def aMakeSlice (P : Program) (h : H) (t : TypeId) : Value → Value → Option (Value × H)
  | .int _ l, .int _ c => match P.underlying t with
    | some (.slice elem) => match P.info? elem with
      | some i => match i.zero with
        | some z => if 0 ≤ l ∧ l ≤ c ∧ (i.bytes : Int) * c ≤ 281474976710656 ∧ c ≤ 1000000000 ∧ flat1 z = true then
            (aNew h (madeCells z.cells (c.toNat * i.size)) elem).map fun x => (.slice (some ⟨x.1, 0, none⟩) l.toNat c.toNat, x.2)
          else none
        | none => none
      | none => none
    | _ => none
  | _, _ => none
theorem aMakeSlice_ok {h h' : H} {w : World} {t : TypeId} {a a' b b' r : Value} (hok : h.Ok) (hr : RW ρ h.get w) (hf : ∀ i, h.next ≤ i → i < h'.next → ρ i = none) (ha : VR ρ a a') (hb : VR ρ b b')
    (e : aMakeSlice P h t a b = some (r, h')) : ∃ ρ' r' w', (Instr.makeSlice t a' b').run P w = .ok r' w' ∧ VR ρ' r r' ∧ Post ρ h w ρ' h' w' := by
  unfold aMakeSlice at e
  split at e
  · rename_i kl l kc c
    cases ha; cases hb
    split at e
    · rename_i elem hu
      split at e
      · rename_i i hi
        split at e
        · rename_i z hz
          split at e
          · rename_i hc
            obtain ⟨c1, c2, c3, c4, c5⟩ := hc
            cases hn : aNew h (madeCells z.cells (c.toNat * i.size)) elem with
            | none => rw [hn] at e; cases e
            | some x =>
              obtain ⟨n, h1⟩ := x
              rw [hn] at e; cases e
              obtain ⟨ρ', g1, g2⟩ := aNew_ok (t' := elem) hok hr hf hn (LR.flat (made_flat c5 (c.toNat * i.size)))
              exact ⟨ρ', _, _, run_make w t elem i z hu hi hz kl kc l c c1 c2 c3 (by omega), .sl _ _ _ g1, g2⟩
          · cases e
        · cases e
      · cases e
    · cases e
  · cases e
def keyOk : TypeDesc → Value → Bool
  | .int _, .int _ _ | .string, .string _ | .bool, .bool _ => true
  | _, _ => false
theorem run_checkKey' {w : World} {kt : TypeId} {d : TypeDesc} {k : Value} (hd : P.underlying kt = some d) (hk : keyOk d k = true) (b : Bool) (n : Nat) : (Instr.checkKey b (n + 1) kt k).run P w = .ok () w := by
  unfold Instr.checkKey
  simp only [Sem.run_bind, run_underlying hd, Result.andThen]
  cases d <;> cases k <;> simp_all [keyOk]
theorem keyOk_flat {d : TypeDesc} {k : Value} (h : keyOk d k = true) : flat0 k = true := by cases d <;> cases k <;> simp_all [keyOk, flat0]
theorem find_ok {d : TypeDesc} {k : Value} {l l' : List MapEntry} (h : ER ρ l l') : ∀ {n : Nat} {r : Option (Nat × Value)}, Instr.findNow d k l n = some r →
    (r = none ∧ Instr.findNow d k l' n = some none) ∨ ∃ i v v', r = some (i, v) ∧ VR ρ v v' ∧ Instr.findNow d k l' n = some (some (i, v')) := by
  induction h with
  | nil => intro n r e; simp [Instr.findNow] at e; exact .inl ⟨e.symm, rfl⟩
  | @cons k0 v v' b l l' hk hv _ ih =>
    intro n r e
    simp only [Instr.findNow] at e ⊢
    cases hs : Instr.sameNow d k k0 with
    | none => rw [hs] at e; cases e
    | some x =>
      rw [hs] at e
      cases x with
      | true => cases e; exact .inr ⟨n, v, v', rfl, hv, rfl⟩
      | false => exact ih e
def aLookup (P : Program) (h : H) (t : TypeId) (m k : Value) (commaOk : Bool) : Option Value := match P.underlying t with
  | some (.map key elem) => match P.underlying key with
    | some d => if keyOk d k = true then
        match (match m with | .map none => some [] | .map (some r) => (match h.get r with | some (.map es _) => some es.toList | _ => none) | _ => none) with
        | some es => match Instr.findNow d k es 0 with
          | some (some (_, v)) => some (if commaOk then .tuple #[v, .bool true] else v)
          | some none => match (P.info? elem).bind (·.zero) with
            | some z => if flat1 z = true then some (if commaOk then .tuple #[z, .bool false] else z) else none
            | none => none
          | none => none
        | none => none
      else none
    | none => none
  | _ => none
theorem VR.pair {v v' : Value} (h : VR ρ v v') (b : Bool) : VR ρ (.tuple #[v, .bool b]) (.tuple #[v', .bool b]) :=
  .tuple rfl fun t ht => by
    match t, ht with
    | 0, _ => exact h
    | 1, _ => exact .bool b
theorem aLookup_ok {h : H} {w : World} {t : TypeId} {m m' k k' r : Value} {c : Bool} (hr : RW ρ h.get w) (hm : VR ρ m m') (hk : VR ρ k k') (e : aLookup P h t m k c = some r) :
    ∃ r', (Instr.lookup t m' k' c).run P w = .ok r' w ∧ VR ρ r r' := by
  unfold aLookup at e
  split at e
  · rename_i key elem hu
    split at e
    · rename_i d hd
      split at e
      · rename_i hko
        obtain rfl := flat0_eq (keyOk_flat hko) hk
        have fin : ∀ (es es' : List MapEntry), ER ρ es es' → (match Instr.findNow d k' es 0 with
            | some (some (_, v)) => some (if c then .tuple #[v, .bool true] else v)
            | some none => match (P.info? elem).bind (·.zero) with
              | some z => if flat1 z = true then some (if c then .tuple #[z, .bool false] else z) else none
              | none => none
            | none => none) = some r →
            ∃ r', VR ρ r r' ∧ ((∃ i v', Instr.findNow d k' es' 0 = some (some (i, v')) ∧ r' = if c then .tuple #[v', .bool true] else v') ∨
              (Instr.findNow d k' es' 0 = some none ∧ ∃ z, (P.info? elem).bind (·.zero) = some z ∧ r' = if c then .tuple #[z, .bool false] else z)) := by
          intro es es' hE he
          cases hfn : Instr.findNow d k' es 0 with
          | none => rw [hfn] at he; cases he
          | some x =>
            rw [hfn] at he
            rcases find_ok hE hfn with ⟨rfl, h2⟩ | ⟨i, v, v', rfl, hv, h2⟩
            · simp only at he
              split at he
              · rename_i z hz
                split at he
                · rename_i hfl
                  cases he
                  refine ⟨_, ?_, .inr ⟨h2, z, hz, rfl⟩⟩
                  cases c
                  · exact flat1_VR ρ hfl
                  · exact (flat1_VR ρ hfl).pair false
                · cases he
              · cases he
            · simp only at he
              cases he
              refine ⟨_, ?_, .inl ⟨i, v', h2, rfl⟩⟩
              cases c
              · exact hv
              · exact hv.pair true
        split at e
        · rename_i es hes
          split at hes
          · cases hm
            cases hes
            have hck := run_checkKey' (w := w) hd hko true 9999
            obtain ⟨r', g1, ⟨i, v', h2, rfl⟩ | ⟨h2, z, hz, rfl⟩⟩ := fin [] [] .nil e
            · simp [Instr.findNow] at h2
            · refine ⟨_, ?_, g1⟩
              simp [Instr.lookup, run_underlying hu, hck, run_findKey hd h2, run_zero hz]
          · rename_i rr
            cases hm with
            | @map _ j cc hj =>
              split at hes
              · rename_i es0 clock hg
                cases hes
                obtain ⟨j', c', hj', hO⟩ := hr.obj _ _ hg
                rw [hj] at hj'; cases hj'
                obtain ⟨es', hx, hE⟩ := hO
                have hck := run_checkKey' (w := w) hd hko es'.isEmpty 9999
                obtain ⟨r', g1, ⟨i, v', h2, rfl⟩ | ⟨h2, z, hz, rfl⟩⟩ := fin es0.toList es'.toList hE e
                · refine ⟨_, ?_, g1⟩
                  simp [Instr.lookup, run_underlying hu, Go.MapKept.run_getObj_map hx, hck, run_findKey hd h2]
                · refine ⟨_, ?_, g1⟩
                  simp [Instr.lookup, run_underlying hu, Go.MapKept.run_getObj_map hx, hck, run_findKey hd h2, run_zero hz]
              · cases hes
          · cases hes
        · cases e
      · cases e
    · cases e
  · cases e
end Go.Proofs.YtkjhnemfebgcnaaGreatDoor.Ev

namespace Go.Proofs.YtkjhnemfebgcnaaGreatDoor.Ev
open Go Go.RowKit Go.MapKept
variable {ρ : Rn} {P : Program}
def aObj (h : H) (o : Obj) : Option (Nat × H) := if h.next < 65536 then some (h.next, h.push o) else none
theorem aObj_ok {h h' : H} {w : World} {o o' : Obj} {i : Nat} (hok : h.Ok) (hr : RW ρ h.get w) (hf : ∀ i, h.next ≤ i → i < h'.next → ρ i = none) (e : aObj h o = some (i, h')) (hO : ∀ ρ', Le ρ ρ' → OR ρ' none o (some o')) :
    ∃ ρ', ρ' i = some (w.heap.size, none) ∧ Post ρ h w ρ' h' { w with heap := w.heap.push o' } := by
  unfold aObj at e
  split at e
  · rename_i hn
    cases e
    have hfr : ρ h.next = none := hf _ (Nat.le_refl _) (Nat.lt_succ_self _)
    exact ⟨upd ρ h.next (w.heap.size, none), by simp [upd], Post.alloc hok hr hn hfr rfl rfl rfl rfl (hO _ (upd_le _ hfr))⟩
  · cases e
def aMakeMap (h : H) : Option (Value × H) := (aObj h (.map #[] 0)).map fun x => (.map (some x.1), x.2)
theorem aMakeMap_ok {h h' : H} {w : World} {t : TypeId} {r : Value} (hok : h.Ok) (hr : RW ρ h.get w) (hf : ∀ i, h.next ≤ i → i < h'.next → ρ i = none) (e : aMakeMap h = some (r, h')) :
    ∃ ρ' r' w', (Instr.makeMap t none).run P w = .ok r' w' ∧ VR ρ' r r' ∧ Post ρ h w ρ' h' w' := by
  unfold aMakeMap at e
  cases hn : aObj h (.map #[] 0) with
  | none => rw [hn] at e; cases e
  | some x =>
    obtain ⟨i, h1⟩ := x
    rw [hn] at e; cases e
    obtain ⟨ρ', g1, g2⟩ := aObj_ok (o' := .map #[] 0) hok hr hf hn (fun ρ' _ => ⟨#[], rfl, .nil⟩)
    exact ⟨ρ', _, _, by simp [Instr.makeMap, newObj, Sem.run], .map g1, g2⟩
def aMapUpdate (P : Program) (h : H) (t : TypeId) (m k v : Value) : Option H := match P.underlying t, m with
  | some (.map key _), .map (some r) => match P.underlying key, h.get r with
    | some d, some (.map es clock) => if keyOk d k = true ∧ h.bar ≤ r then
        match Instr.findNow d k es.toList 0 with
        | some (some (i, _)) => if Instr.sameBits 10000 (((es[i]?).map (·.key)).getD k) k = true then some (h.put r (some (.map (es.modify i fun e => { e with key := k, val := v }) clock))) else none
        | some none => some (h.put r (some (.map (es.push { key := k, val := v, born := clock }) (clock + 1))))
        | none => none
      else none
    | _, _ => none
  | _, _ => none
theorem ER.push {l l' : List MapEntry} (h : ER ρ l l') {k v v' : Value} {b : Nat} (hk : flat0 k = true) (hv : VR ρ v v') : ER ρ (l ++ [⟨k, v, b⟩]) (l' ++ [⟨k, v', b⟩]) := by
  induction h with
  | nil => exact .cons hk hv .nil
  | cons h1 h2 _ ih => exact .cons h1 h2 ih
theorem ER.modify {l l' : List MapEntry} (h : ER ρ l l') (i : Nat) {k v v' : Value} (hk : flat0 k = true) (hv : VR ρ v v') :
    ER ρ (l.modify i fun e => { e with key := k, val := v }) (l'.modify i fun e => { e with key := k, val := v' }) := by
  induction h generalizing i with
  | nil => simp; exact .nil
  | cons h1 h2 h3 ih => cases i with
    | zero => exact .cons hk hv h3
    | succ i => exact .cons h1 h2 (ih i)
theorem ER.key {l l' : List MapEntry} (h : ER ρ l l') (i : Nat) : (l'[i]?).map (·.key) = (l[i]?).map (·.key) := by
  induction h generalizing i with
  | nil => rfl
  | cons h1 h2 h3 ih => cases i with
    | zero => rfl
    | succ i => simpa using ih i
theorem aMapUpdate_ok {h h' : H} {w : World} {t : TypeId} {m m' k k' v v' : Value} (hok : h.Ok) (hr : RW ρ h.get w) (hm : VR ρ m m') (hk : VR ρ k k') (hv : VR ρ v v') (e : aMapUpdate P h t m k v = some h') :
    ∃ w', (Instr.mapUpdate t m' k' v').run P w = .ok () w' ∧ Post ρ h w ρ h' w' := by
  unfold aMapUpdate at e
  split at e
  · rename_i key elem r hu
    cases hm with
    | @map _ j cc hj =>
      split at e
      · rename_i d es clock hd hg
        split at e
        · rename_i hc
          obtain ⟨hko, hb⟩ := hc
          have hkf := keyOk_flat hko
          obtain rfl := flat0_eq hkf hk
          obtain ⟨j', c', hj', hO⟩ := hr.obj _ _ hg
          rw [hj] at hj'; cases hj'
          obtain ⟨es', hx, hE⟩ := hO
          have hck := run_checkKey' (w := w) hd hko false 9999
          have fin : ∀ o1 o2 : Obj, OR ρ cc o1 (some o2) → Post ρ h w ρ (h.put r (some o1)) { w with heap := w.heap.setIfInBounds j o2 } := fun o1 o2 hO => by
            obtain ⟨s1, s2⟩ := heap_set (o' := o2) hx
            refine Post.write hok hr hg hb hj (by simp) (fun k hk => s2 k hk) rfl rfl rfl ?_
            show OR ρ cc o1 (w.heap.setIfInBounds j o2)[j]?
            rw [s1]; exact hO
          split at e
          · rename_i i v0 hfn
            split at e
            · rename_i hsb
              cases e
              rcases find_ok hE hfn with ⟨h1, _⟩ | ⟨i', v1, v1', h1, _, h2⟩
              · cases h1
              · cases h1
                have hkey : ((es'[i]?).map (·.key)).getD k' = ((es[i]?).map (·.key)).getD k' := by
                  have := hE.key i
                  simp only [Array.getElem?_toList] at this
                  rw [this]
                refine ⟨_, ?_, fin _ (.map (es'.modify i fun e => { e with key := k', val := v' }) clock) ⟨_, rfl, by simpa using hE.modify i hkf hv⟩⟩
                have hsb' : Instr.sameBits 10000 (((es'[i]?).map (·.key)).getD k') k' = true := by rw [hkey]; exact hsb
                simp [Instr.mapUpdate, run_underlying hu, Go.MapKept.run_getObj_map hx, hck, run_findKey hd h2, Instr.keyThatStays, hsb', run_setObj_map _ hx]
            · cases e
          · rename_i hfn
            cases e
            rcases find_ok hE hfn with ⟨_, h2⟩ | ⟨_, _, _, h1, _, _⟩
            · refine ⟨_, ?_, fin _ (.map (es'.push { key := k', val := v', born := clock }) (clock + 1)) ⟨_, rfl, by simpa using hE.push hkf hv⟩⟩
              simp [Instr.mapUpdate, run_underlying hu, Go.MapKept.run_getObj_map hx, hck, run_findKey hd h2, run_setObj_map _ hx]
            · cases h1
          · cases e
        · cases e
      · cases e
  · cases e
/-- The bytes of cells. -/
def toByte : Value → Option UInt8
  | .int .u8 b => if 0 ≤ b ∧ b < 256 then some (UInt8.ofNat b.toNat) else none
  | _ => none
def toBytes : List Value → Option (List UInt8)
  | [] => some []
  | v :: l => match toByte v, toBytes l with
    | some b, some r => some (b :: r)
    | _, _ => none
theorem toBytes_spec : ∀ (l : List Value) (bs : List UInt8), toBytes l = some bs → l = bs.map fun b => Value.int .u8 (b.toNat : Int)
  | [], bs, e => by cases e; rfl
  | v :: l, bs, e => by
    unfold toBytes at e
    split at e
    · rename_i b r hb hr
      cases e
      rw [toBytes_spec l r hr]
      unfold toByte at hb
      split at hb
      · split at hb
        · rename_i n h
          cases hb
          simp; omega
        · cases hb
      · cases hb
    · cases e
def aBytesString (P : Program) (h : H) (src dst : TypeId) (x : Value) : Option Value := match P.underlying src, P.underlying dst with
  | some (.slice e), some .string => match P.underlying e with
    | some (.int .u8) => match x with
      | .slice (some a) n c => match aSrc h 1 (.slice (some a) n c) with
        | some (_, l) => (toBytes l).map fun bs => .string ⟨bs.toArray⟩
        | none => none
      | _ => none
    | _ => none
  | _, _ => none
theorem LR.int {l l' : List Value} (h : LR ρ l l') (hf : l.all flat0 = true) : l' = l := by
  induction h with
  | nil => rfl
  | cons h1 _ ih => simp at hf; rw [flat0_eq hf.1 h1, ih (by simpa using hf.2)]
theorem aBytesString_ok {h : H} {w : World} {src dst : TypeId} {x x' r : Value} (hr : RW ρ h.get w) (hx : VR ρ x x') (e : aBytesString P h src dst x = some r) : ∃ r', (convert src dst x').run P w = .ok r' w ∧ VR ρ r r' := by
  unfold aBytesString at e
  split at e
  · rename_i el hs hd
    split at e
    · rename_i he
      split at e
      · rename_i a n c
        split at e
        · rename_i m l hsrc
          cases hb : toBytes l with
          | none => rw [hb] at e; cases e
          | some bs =>
            rw [hb] at e; cases e
            obtain ⟨l', n1, n2, n3, n4⟩ := aSrc_ok (P := P) hr hx hsrc
            have hl := toBytes_spec l bs hb
            have hfl : l.all flat0 = true := by rw [hl, List.all_eq_true]; intro v hv; obtain ⟨b, _, rfl⟩ := List.mem_map.1 hv; rfl
            obtain rfl := n1.int hfl
            refine ⟨.string ⟨bs.toArray⟩, ?_, .string _⟩
            have hx2 : ∃ a' c', x' = .slice (some a') n c' := by cases hx <;> exact ⟨_, _, rfl⟩
            obtain ⟨a', c', rfl⟩ := hx2
            have hmn : m = n := by
              have : (Builtin.lenOf (.slice (some a') n c')).run P w = .ok n w := rfl
              rw [this] at n3; cases n3; rfl
            subst hmn
            have hlen : bs.length = m := by have := n2; rw [hl] at this; simpa using this
            rw [run_convert_bytes_string w src dst el (some a') m c' hs he hd]
            have hld := n4 m w rfl rfl
            simp only [Builtin.firstCells, Nat.mul_one] at hld
            have e2 : l' = (bs.map (fun b => (b.toNat : Int))).map (Value.int .u8) := by rw [hl]; simp
            rw [e2] at hld
            rw [run_bytesToString w a' m c' _ hld, foldl_push_byteCells]
            simp
        · cases e
      · cases e
    · cases e
  · cases e
def aRange (P : Program) (h : H) (t : TypeId) (x : Value) : Option (Value × H) := match P.underlying t, x with
  | some .string, .string s => (aObj h (.stringIter s 0)).map fun y => (.pointer (some ⟨y.1, 0, none⟩), y.2)
  | _, _ => none
theorem aRange_ok {h h' : H} {w : World} {t : TypeId} {x x' r : Value} (hok : h.Ok) (hr : RW ρ h.get w) (hf : ∀ i, h.next ≤ i → i < h'.next → ρ i = none) (hx : VR ρ x x') (e : aRange P h t x = some (r, h')) :
    ∃ ρ' r' w', (Instr.range t x').run P w = .ok r' w' ∧ VR ρ' r r' ∧ Post ρ h w ρ' h' w' := by
  unfold aRange at e
  split at e
  · rename_i s hu
    cases hx
    cases hn : aObj h (.stringIter s 0) with
    | none => rw [hn] at e; cases e
    | some x =>
      obtain ⟨i, h1⟩ := x
      rw [hn] at e; cases e
      obtain ⟨ρ', g1, g2⟩ := aObj_ok (o' := .stringIter s 0) hok hr hf hn (fun ρ' _ => rfl)
      exact ⟨ρ', _, _, by simp [Instr.range, run_underlying hu, newObj, Sem.run], .ptr 0 g1, g2⟩
  · cases e
def aNext (h : H) : Value → Option (Value × H)
  | .pointer (some ⟨r, 0, none⟩) => match h.get r with
    | some (.stringIter s pos) => if h.bar ≤ r then
        (if pos < s.size then some (.tuple #[.bool true, goInt pos, .int .i32 (Utf8.decode s pos).1], h.put r (some (.stringIter s (pos + (Utf8.decode s pos).2))))
        else some (.tuple #[.bool false], h))
      else none
    | _ => none
  | _ => none
theorem aNext_ok {h h' : H} {w : World} {t : TypeId} {x x' r : Value} (hok : h.Ok) (hr : RW ρ h.get w) (hx : VR ρ x x') (e : aNext h x = some (r, h')) :
    ∃ r' w', (Instr.next x' true t).run P w = .ok r' w' ∧ VR ρ r r' ∧ Post ρ h w ρ h' w' := by
  unfold aNext at e
  split at e
  · rename_i b
    cases hx with
    | @ptr _ j cc _ hj =>
      split at e
      · rename_i s pos hg
        obtain ⟨j', c', hj', hO⟩ := hr.obj _ _ hg
        rw [hj] at hj'; cases hj'
        have hO' : w.heap[j]? = some (.stringIter s pos) := hO
        have hgo : (getObj j).run P w = .ok (.stringIter s pos) w := by simp [getObj, Sem.run, hO']
        split at e
        · rename_i hb
          split at e
          · rename_i hp
            cases e
            refine ⟨.tuple #[.bool true, goInt pos, .int .i32 (Utf8.decode s pos).1], { w with heap := w.heap.setIfInBounds j (.stringIter s (pos + (Utf8.decode s pos).2)) }, ?_, ?_, ?_⟩
            · simp [Instr.next, hgo, hp, setObj, Sem.run, hO']
            · exact .tuple rfl fun t ht => by
                match t, ht with
                | 0, _ => exact .bool true
                | 1, _ => exact .int _ _
                | 2, _ => exact .int _ _
            · obtain ⟨s1, s2⟩ := heap_set (o' := .stringIter s (pos + (Utf8.decode s pos).2)) hO'
              refine Post.write hok hr hg hb hj (by simp) (fun k hk => s2 k hk) rfl rfl rfl ?_
              show OR ρ cc _ (w.heap.setIfInBounds j _)[j]?
              rw [s1]; rfl
          · rename_i hp
            cases e
            refine ⟨.tuple #[.bool false], w, ?_, ?_, Post.refl hok hr⟩
            · simp [Instr.next, hgo, hp]
            · exact .tuple rfl fun t ht => by
                match t, ht with
                | 0, _ => exact .bool false
        · cases e
      · cases e
  · cases e
def trunc (n : Nat) : Value → Value
  | .slice a l c => .slice a (min n l) c
  | v => v
def aLen : Value → Option Nat
  | .slice _ l _ => some l
  | .string s => some s.size
  | _ => none
def aCopy (P : Program) (h : H) (ats : Array TypeId) (args : Array Value) : Option (Value × H) := match ats.toList, args.toList with
  | [t, _], [d, x] => match P.underlying t, d, aLen x with
    | some (.slice el), .slice a l _, some m => match aSize P el with
      | some size => if min m l = 0 then some (goInt 0, h) else
        match (if m ≤ l then aSrc h size x else aSrc h size (trunc l x)) with
        | some (n, vs) => if n = min m l ∧ vs.all (·.oneCell') = true then (match a with
          | some ⟨b, o, none⟩ => match h.get b with
            | some (.cells cs ty fl) => if h.bar ≤ b ∧ fl.1 ≠ 2 ∧ o + vs.length ≤ cs.size then some (goInt n, h.put b (some (.cells (splice cs o vs) ty fl))) else none
            | _ => none
          | _ => none) else none
        | none => none
      | none => none
    | _, _, _ => none
  | _, _ => none
theorem VR.trunc {v v' : Value} (h : VR ρ v v') (n : Nat) : VR ρ (trunc n v) (trunc n v') := by
  cases h with
  | sl0 l c => exact .sl0 _ _
  | sl o l c h => exact .sl _ _ _ h
  | slL o l c c' h h1 h2 h3 => exact .slL _ _ _ _ h (by omega) h2 h3
  | slE o o' c' h => simp only [Ev.trunc, Nat.min_zero]; exact .slE _ _ _ h
  | agg h1 h2 => exact .agg h1 h2
  | bool b => exact .bool b
  | int k n => exact .int k n
  | float k n => exact .float k n
  | complex k n m => exact .complex k n m
  | string s => exact .string s
  | ptr0 => exact .ptr0
  | ptr o h => exact .ptr o h
  | map0 => exact .map0
  | map h => exact .map h
  | func fn h0 h1 h2 h3 h4 => exact .func fn h0 h1 h2 h3 h4
  | yield h => exact .yield h
  | nilFunc => exact .nilFunc
  | iface t h => exact .iface t h
  | nilIface => exact .nilIface
  | tuple h1 h2 => exact .tuple h1 h2
theorem aLen_ok {w : World} {v v' : Value} {m : Nat} (h : VR ρ v v') (e : aLen v = some m) : (Builtin.lenOf v').run P w = .ok m w := by
  cases h <;> simp [aLen] at e <;> subst e <;> rfl
theorem firstCells_trunc (size n l : Nat) (v : Value) (w : World) : (Builtin.firstCells size n (trunc l v)).run P w = (Builtin.firstCells size n v).run P w := by
  cases v with
  | slice a b c => cases a <;> rfl
  | _ => rfl
theorem aCopy_ok {h h' : H} {w : World} {ats : Array TypeId} {args args' : Array Value} {ty : TypeId} {r : Value} (hok : h.Ok) (hr : RW ρ h.get w) (ha : AR ρ args args')
    (e : aCopy P h ats args = some (r, h')) : ∃ r' w', (Builtin.copy_ ats ty args').run P w = .ok r' w' ∧ VR ρ r r' ∧ Post ρ h w ρ h' w' := by
  unfold aCopy at e
  split at e
  · rename_i t u d x hats hargs
    obtain rfl := arr2 hats
    obtain ⟨d', x', rfl, hd, hx⟩ := ha.two hargs
    split at e
    · rename_i el a l c m hu hlen
      have hln := aLen_ok (P := P) (w := w) hx hlen
      split at e
      · rename_i size hs
        split at e
        · rename_i h0
          cases e
          refine ⟨goInt 0, w, ?_, .int _ _, Post.refl hok hr⟩
          have hf0 : (Builtin.firstCells size 0 x').run P w = .ok #[] w := by
            cases hx <;> simp [aLen] at hlen <;> first | simp [Builtin.firstCells, loadCells, loadCellsFrom]
          have hn0 : Nat.min m l = 0 := h0
          have hst : ∀ q : Option Addr, (match q with | some a => storeCells a [] | none => pure () : Sem Unit).run P w = .ok () w := fun q => by cases q <;> rfl
          cases hd with
          | sl0 => simp [Builtin.copy_, run_underlying hu, hln, run_size hs, hf0, hn0]
          | sl => simp [Builtin.copy_, run_underlying hu, hln, run_size hs, hf0, hn0, storeCells]
          | slL => simp [Builtin.copy_, run_underlying hu, hln, run_size hs, hf0, hn0, storeCells]
          | slE => simp [Builtin.copy_, run_underlying hu, hln, run_size hs, hf0, storeCells]
        · rename_i h0
          split at e
          · rename_i n vs hsrc
            split at e
            · rename_i hc
              obtain ⟨rfl, hone⟩ := hc
              have hsr : ∃ vs', LR ρ vs vs' ∧ (Builtin.firstCells size (min m l) x').run P w = .ok vs'.toArray w := by
                split at hsrc
                · obtain ⟨vs', n1, _, _, n4⟩ := aSrc_ok (P := P) hr hx hsrc
                  exact ⟨vs', n1, n4 _ w rfl rfl⟩
                · obtain ⟨vs', n1, _, _, n4⟩ := aSrc_ok (P := P) hr (hx.trunc l) hsrc
                  exact ⟨vs', n1, by rw [← firstCells_trunc]; exact n4 _ w rfl rfl⟩
              obtain ⟨vs', n1, n2⟩ := hsr
              have hmin : Nat.min m l = min m l := rfl
              split at e
              · rename_i b o
                split at e
                · rename_i cs ty fl hg
                  split at e
                  · rename_i hb
                    obtain ⟨b1, b2, b3⟩ := hb
                    cases e
                    obtain ⟨j, cc, hj, _⟩ := hr.obj _ _ hg
                    have hd2 : ∃ c', d' = .slice (some ⟨j, o, none⟩) l c' := by
                      cases hd with
                      | sl _ _ _ hj' => rw [hj] at hj'; cases hj'; exact ⟨_, rfl⟩
                      | slL _ _ _ _ hj' => rw [hj] at hj'; cases hj'; exact ⟨_, rfl⟩
                      | slE => exact absurd (Nat.min_zero m) h0
                    obtain ⟨c', rfl⟩ := hd2
                    obtain ⟨w', g1, g2⟩ := Post.splice (P := P) hok hr hg b1 hj b2 b3 (List.all_eq_true.1 hone) n1
                    refine ⟨goInt ((min m l : Nat) : Int), w', ?_, .int _ _, g2⟩
                    simp [Builtin.copy_, run_underlying hu, hln, run_size hs, hmin, n2, g1]
                  · cases e
                · cases e
              · cases e
            · cases e
          · cases e
      · cases e
    · cases e
  · cases e
end Go.Proofs.YtkjhnemfebgcnaaGreatDoor.Ev
