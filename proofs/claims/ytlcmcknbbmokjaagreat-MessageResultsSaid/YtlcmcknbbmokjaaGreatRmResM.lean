/- Results of lines: the mathematics of names that occur twice. -/
import Derived.Test.YtlcmcknbbmokjaaGreatRmNamedR
import Derived.Test.YtlcmcknbbmokjaaGreatPm11
import Derived.Test.YtlcmcknbbmokjaaGreatPm15
namespace Go.Proofs.YtlcmcknbbmokjaaGreat
open Go Go.RowKit
/-- No name occurs twice. -/
def Apart (l : List ResV) : Prop := l.Pairwise fun a b => a.name ≠ b.name
theorem onceStep_same (S : ByteArray → Bool) (s : ByteArray) : onceStep S s s = true := by simp [onceStep]
theorem onceStep_ne (S : ByteArray → Bool) {s z : ByteArray} (h : z ≠ s) : onceStep S s z = S z := by simp [onceStep, h]
theorem named_step {q : ResV} (S : ByteArray → Bool) (h : resErr q = 0) : fst [resErr q, unl (!(S q.name)) 9] = if S q.name then 9 else 0 := by
  rw [h]
  cases S q.name <;> simp [fst, unl]
theorem named_apart : ∀ (l : List ResV) (S : ByteArray → Bool), (∀ x ∈ l, resErr x = 0) → (∀ x ∈ l, S x.name = false) → Apart l → namedRErr l S = 0
  | [], _, _, _, _ => rfl
  | q :: r, S, hz, hs, hp => by
    unfold namedRErr
    rw [named_step S (hz q (by simp)), hs q (by simp)]
    simp only [Bool.false_eq_true, if_false, ne_eq, not_true_eq_false]
    have hp' := List.pairwise_cons.1 hp
    refine named_apart r _ (fun x hx => hz x (by simp [hx])) (fun x hx => ?_) hp'.2
    rw [onceStep_ne _ (fun e => hp'.1 x hx e.symm)]
    exact hs x (by simp [hx])
theorem named_twice : ∀ (l : List ResV) (S : ByteArray → Bool), (∀ x ∈ l, resErr x = 0) → ¬ ((∀ x ∈ l, S x.name = false) ∧ Apart l) → namedRErr l S = 9
  | [], _, _, h => absurd ⟨by simp, List.Pairwise.nil⟩ h
  | q :: r, S, hz, h => by
    unfold namedRErr
    rw [named_step S (hz q (by simp))]
    cases hq : S q.name
    · simp only [Bool.false_eq_true, if_false, ne_eq, not_true_eq_false]
      refine named_twice r _ (fun x hx => hz x (by simp [hx])) (fun hn => h ⟨fun x hx => ?_, List.pairwise_cons.2 ⟨fun x hx e => ?_, hn.2⟩⟩)
      · rcases List.mem_cons.1 hx with rfl | hx
        · exact hq
        · have := hn.1 x hx
          by_cases e : x.name = q.name
          · rw [e]; exact hq
          · rwa [onceStep_ne _ e] at this
      · have := hn.1 x hx
        rw [← e, onceStep_same] at this
        cases this
    · simp
theorem ress_apart {l : List ResV} (hn : l.length ≤ 64) (hz : ∀ x ∈ l, resErr x = 0) (h : Apart l) : ressErr l = 0 := by
  unfold ressErr
  rw [if_neg (by omega)]
  exact named_apart l _ hz (fun _ _ => rfl) h
theorem ress_twice {l : List ResV} (hn : l.length ≤ 64) (hz : ∀ x ∈ l, resErr x = 0) (h : ¬ Apart l) : ressErr l = 9 := by
  unfold ressErr
  rw [if_neg (by omega)]
  exact named_twice l _ hz (fun hh => h hh.2)
theorem apart_iff (l : List ResV) : Apart l ↔ ∀ i k, i < l.length → k < i → (l.getD k default).name ≠ (l.getD i default).name := by
  unfold Apart
  rw [List.pairwise_iff_getElem]
  constructor
  · intro h i k hi hk
    have := h k i (by omega) hi hk
    simpa [List.getD_eq_getElem?_getD, List.getElem?_eq_getElem hi, List.getElem?_eq_getElem (show k < l.length by omega)] using this
  · intro h k i hk hi hlt
    have := h i k hi hlt
    simpa [List.getD_eq_getElem?_getD, List.getElem?_eq_getElem hi, List.getElem?_eq_getElem hk] using this
/-- The result that a line of an answer has. -/
def resOf (l : LineV) : ResV := if (l.act.toList == [75] || l.act.toList == [79]) = true then ⟨l.q.name, true, l.q.minute⟩ else ⟨l.q.name, false, 0⟩
theorem resOf_name (l : LineV) : (resOf l).name = l.q.name := by unfold resOf; split <;> rfl
theorem resOf_ok {l : LineV} (h : lineErr l = 0) : resErr (resOf l) = 0 := by
  unfold lineErr at h
  rw [fst_zero] at h
  have h2 : reqErr l.q = 0 := h _ (by simp)
  unfold reqErr at h2
  rw [fst_zero] at h2
  have hn : nameE l.q.name = 0 := h2 _ (by simp)
  have hm : rng l.q.minute 0 1439 = 0 := h2 _ (by simp)
  have key : ∀ a b : Int, a = 0 → b = 0 → fst [a, b] = 0 := fun a b h1 h2 => by subst h1 h2; rfl
  unfold resErr resOf
  split
  · exact key _ _ hn hm
  · exact key _ _ hn rfl
theorem getD_map {α β : Type} [Inhabited α] [Inhabited β] (f : α → β) (l : List α) (i : Nat) (h : i < l.length) : (l.map f).getD i default = f (l.getD i default) := by
  simp [List.getD_eq_getElem?_getD, List.getElem?_map, List.getElem?_eq_getElem h]
theorem apart_map (L : List LineV) : Apart (L.map resOf) ↔ ∀ i k, i < L.length → k < i → (L.getD k default).q.name ≠ (L.getD i default).q.name := by
  rw [apart_iff]
  constructor
  · intro h i k hi hk
    have := h i k (by simpa using hi) hk
    rwa [getD_map resOf L i hi, getD_map resOf L k (by omega), resOf_name, resOf_name] at this
  · intro h i k hi hk
    simp only [List.length_map] at hi
    rw [getD_map resOf L i hi, getD_map resOf L k (by omega), resOf_name, resOf_name]
    exact h i k hi hk
end Go.Proofs.YtlcmcknbbmokjaaGreat
