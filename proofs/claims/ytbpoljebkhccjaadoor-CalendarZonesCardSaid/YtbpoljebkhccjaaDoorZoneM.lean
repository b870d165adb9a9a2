/- What a zone's stretches mean: the offset at a moment, and the moments that have a local one. -/
import Derived.Test.YtbpoljebkhccjaaDoorLocal
namespace Go.Proofs.YtbpoljebkhccjaaDoor
open Go Go.RowKit
/-- The changes of a zone are in order, the first one not before f. -/
def asc : Int → List (Int × Int) → Prop
  | _, [] => True
  | f, c :: r => f ≤ c.1 ∧ c.1 ≤ 143999999 ∧ asc c.1 r
theorem asc_mono {f g : Int} {cs : List (Int × Int)} (h : asc f cs) (hg : g ≤ f) : asc g cs := by
  cases cs with
  | nil => trivial
  | cons c r => obtain ⟨a, b, k⟩ := h; exact ⟨by omega, b, k⟩
/-- The offset at a moment, as the reference reckons it. -/
def offR : Int → List (Int × Int) → Int → Int
  | o, [], _ => o
  | o, c :: r, t => offR (if c.1 ≤ t then c.2 else o) r t
theorem offR_take (o : Int) (cs : List (Int × Int)) (t : Int) (k : Nat) (h : k < cs.length) : offR o (cs.take (k + 1)) t = if (cs.getD k (0, 0)).1 ≤ t then (cs.getD k (0, 0)).2 else offR o (cs.take k) t := by
  induction cs generalizing o k with
  | nil => simp at h
  | cons c r ih =>
    cases k with
    | zero => simp [offR]
    | succ j => simpa [offR] using ih (if c.1 ≤ t then c.2 else o) j (by simpa using h)
theorem offR_early {f o t : Int} {cs : List (Int × Int)} (h : asc f cs) (ht : t < f) : offR o cs t = o := by
  induction cs generalizing f with
  | nil => rfl
  | cons c r ih =>
    obtain ⟨a, b, k⟩ := h
    rw [offR, if_neg (by omega)]
    exact ih k (by omega)
theorem offR_in {o t : Int} {cs : List (Int × Int)} (h0 : -720 ≤ o ∧ o ≤ 840) (h : ∀ c ∈ cs, -720 ≤ c.2 ∧ c.2 ≤ 840) : -720 ≤ offR o cs t ∧ offR o cs t ≤ 840 := by
  induction cs generalizing o with
  | nil => exact h0
  | cons c r ih =>
    rw [offR]
    refine ih ?_ (fun x hx => h x (by simp [hx]))
    split
    · exact h c (by simp)
    · exact h0
theorem locs_early {f o t : Int} {cs : List (Int × Int)} (h : asc f cs) (ht : t < f) : locs t (strs f o cs) = 0 := by
  induction cs generalizing f o with
  | nil => simp only [strs, locs, List.map_cons, List.map_nil, List.sum_cons, List.sum_nil, inS]; rw [if_neg (by omega)]; rfl
  | cons c r ih =>
    obtain ⟨a, b, k⟩ := h
    have := ih (o := c.2) k (by omega)
    simp only [strs, locs, List.map_cons, List.sum_cons, inS] at this ⊢
    rw [if_neg (by omega), this]; rfl
theorem locs_offR {f o t : Int} {cs : List (Int × Int)} (h : asc f cs) (ht : f ≤ t) (hm : t ≤ 143999999) : locs t (strs f o cs) = offR o cs t := by
  induction cs generalizing f o with
  | nil => simp only [strs, locs, List.map_cons, List.map_nil, List.sum_cons, List.sum_nil, inS, offR]; rw [if_pos ⟨ht, hm⟩]; omega
  | cons c r ih =>
    obtain ⟨a, b, k⟩ := h
    rw [offR]
    by_cases hc : c.1 ≤ t
    · rw [if_pos hc]
      have := ih (o := c.2) k hc
      simp only [strs, locs, List.map_cons, List.sum_cons, inS] at this ⊢
      rw [if_neg (by omega), this]; omega
    · rw [if_neg hc, offR_early k (by omega)]
      have := locs_early (o := c.2) k (show t < c.1 by omega)
      simp only [strs, locs, List.map_cons, List.sum_cons, inS] at this ⊢
      rw [if_pos ⟨ht, by omega⟩, this]; omega
/-- Of the n numbers from a on those with a property, in ascending order. -/
def rf (p : Int → Bool) : Int → Nat → List Int
  | _, 0 => []
  | a, n + 1 => (if p a = true then [a] else []) ++ rf p (a + 1) n
theorem rf_snoc (p : Int → Bool) (a : Int) (n : Nat) : rf p a (n + 1) = rf p a n ++ (if p (a + n) = true then [a + (n : Int)] else []) := by
  induction n generalizing a with
  | zero => simp [rf]
  | succ n ih =>
    rw [rf, ih (a + 1), rf, List.append_assoc]
    have e : a + 1 + (n : Int) = a + ((n + 1 : Nat) : Int) := by omega
    rw [e]
theorem rf_app (p : Int → Bool) (a : Int) (n m : Nat) : rf p a (n + m) = rf p a n ++ rf p (a + n) m := by
  induction n generalizing a with
  | zero => simp [rf]
  | succ n ih =>
    rw [show n + 1 + m = (n + m) + 1 by omega, rf, ih (a + 1), rf, List.append_assoc]
    have e : a + 1 + (n : Int) = a + ((n + 1 : Nat) : Int) := by omega
    rw [e]
theorem rf_congr {p q : Int → Bool} (a : Int) (n : Nat) (h : ∀ x, a ≤ x → x < a + n → p x = q x) : rf p a n = rf q a n := by
  induction n generalizing a with
  | zero => rfl
  | succ n ih => rw [rf, rf, h a (by omega) (by omega), ih (a + 1) (fun x h1 h2 => h x (by omega) (by omega))]
theorem rf_none {p : Int → Bool} (a : Int) (n : Nat) (h : ∀ x, a ≤ x → x < a + n → p x = false) : rf p a n = [] := by
  induction n generalizing a with
  | zero => rfl
  | succ n ih => rw [rf, h a (by omega) (by omega), ih (a + 1) (fun x h1 h2 => h x (by omega) (by omega))]; rfl
theorem rf_one (x a : Int) (n : Nat) : rf (fun u => decide (u = x)) a n = if a ≤ x ∧ x < a + n then [x] else [] := by
  induction n generalizing a with
  | zero => rw [rf, if_neg (by omega)]
  | succ n ih =>
    rw [rf, ih (a + 1)]
    by_cases h : a = x
    · subst h; rw [if_pos (by simp), if_neg (by omega), if_pos (by omega)]; rfl
    · rw [if_neg (by simpa using h)]
      by_cases h2 : a + 1 ≤ x ∧ x < a + 1 + (n : Int)
      · rw [if_pos h2, if_pos (by omega)]; rfl
      · rw [if_neg h2, if_neg (by omega)]; rfl
theorem rf_len (p : Int → Bool) (a : Int) (n : Nat) : (rf p a n).length ≤ n := by
  induction n generalizing a with
  | zero => simp [rf]
  | succ n ih => rw [rf, List.length_append]; have := ih (a + 1); split <;> simp <;> omega
/-- Whether a universal moment has a local one. -/
def lcB (o : Int) (cs : List (Int × Int)) (t u : Int) : Bool := decide (u + offR o cs u = t)
theorem hits_rf {f o t : Int} {cs : List (Int × Int)} (h : asc f cs) (hf : f ≤ 143999999) : hits t (strs f o cs) = rf (lcB o cs t) f (143999999 - f + 1).toNat := by
  induction cs generalizing f o with
  | nil =>
    have e : rf (lcB o [] t) f (143999999 - f + 1).toNat = rf (fun u => decide (u = t - o)) f (143999999 - f + 1).toNat := rf_congr _ _ fun x _ _ => by
      unfold lcB offR; rw [decide_eq_decide]; omega
    rw [e, rf_one]
    simp only [strs, hits, List.map_cons, List.map_nil, List.flatten_cons, List.flatten_nil, List.append_nil, hit]
    by_cases hc : f ≤ t - o ∧ t - o ≤ 143999999
    · rw [if_pos hc, if_pos (by omega)]
    · rw [if_neg hc, if_neg (by omega)]
  | cons c r ih =>
    obtain ⟨a, b, k⟩ := h
    have e : (143999999 - f + 1).toNat = (c.1 - f).toNat + (143999999 - c.1 + 1).toNat := by omega
    have h1 : rf (lcB o (c :: r) t) f (c.1 - f).toNat = rf (fun u => decide (u = t - o)) f (c.1 - f).toNat := rf_congr _ _ fun x hx1 hx2 => by
      unfold lcB; rw [offR, if_neg (by omega), offR_early k (by omega), decide_eq_decide]; omega
    have h2 : rf (lcB o (c :: r) t) c.1 (143999999 - c.1 + 1).toNat = rf (lcB c.2 r t) c.1 (143999999 - c.1 + 1).toNat := rf_congr _ _ fun x hx1 hx2 => by
      unfold lcB; rw [offR, if_pos (by omega)]
    rw [e, rf_app, show f + ((c.1 - f).toNat : Int) = c.1 by omega, h1, h2, ← ih (o := c.2) k b, rf_one]
    have e2 : hits t (strs f o (c :: r)) = hit t (f, c.1 - 1, o) ++ hits t (strs c.1 c.2 r) := by simp [strs, hits]
    rw [e2]
    congr 1
    unfold hit
    by_cases hc : f ≤ t - o ∧ t - o ≤ c.1 - 1
    · rw [if_pos hc, if_pos (by omega)]
    · rw [if_neg hc, if_neg (by omega)]
theorem univ_rf {o t : Int} {cs : List (Int × Int)} (h : asc 0 cs) (h0 : -720 ≤ o ∧ o ≤ 840) (hr : ∀ c ∈ cs, -720 ≤ c.2 ∧ c.2 ≤ 840) (lo hi : Int) (n : Nat) (hlo : lo = max 0 (t - 840)) (hhi : hi = min 143999999 (t + 720)) (hn : n = (hi - lo + 1).toNat) (ht0 : 0 ≤ t) (ht1 : t ≤ 143999999) :
    univ o cs t = rf (lcB o cs t) lo n := by
  unfold univ
  rw [hits_rf h (by decide)]
  have hb : ∀ u, lcB o cs t u = true → t - 840 ≤ u ∧ u ≤ t + 720 := fun u hu => by
    have := offR_in (t := u) h0 hr
    have e := of_decide_eq_true hu
    omega
  have e : (143999999 - 0 + 1 : Int).toNat = lo.toNat + (n + (143999999 - hi).toNat) := by omega
  rw [e, rf_app, rf_app, rf_none 0 _ (fun x h1 h2 => by
    cases hx : lcB o cs t x
    · rfl
    · have := hb x hx; omega), rf_none (_ + (n : Int)) _ (fun x h1 h2 => by
    cases hx : lcB o cs t x
    · rfl
    · have := hb x hx; omega), List.nil_append, List.append_nil]
  congr 1
  omega
/-- A zone without error. -/
theorem chs_asc {f : Bool} {pm po : Int} {cs : List (Int × Int)} (h : chsErr f pm po cs = 0) (hp : pm ≤ 143999999) (hp0 : 0 ≤ pm) (hf : f = true → pm = 0) : asc pm cs ∧ (∀ c ∈ cs, (0 ≤ c.1 ∧ c.1 ≤ 143999999) ∧ -720 ≤ c.2 ∧ c.2 ≤ 840) := by
  induction cs generalizing f pm po with
  | nil => exact ⟨trivial, fun c hc => by simp at hc⟩
  | cons c r ih =>
    rw [chsErr] at h
    split at h
    · rename_i h1; exact absurd h h1
    · rename_i h1
      have h1 : chgErr (f || decide (1440 ≤ wrap64 (c.1 - pm))) po c.1 c.2 = 0 := by simpa using h1
      obtain ⟨⟨a, b⟩, d, e⟩ := chgErr_zero h1
      obtain ⟨hasc, hall⟩ := ih h b a (fun hx => by cases hx)
      have hle : pm ≤ c.1 := by
        unfold chgErr at h1
        obtain ⟨-, h1⟩ := fst_cons_zero h1
        obtain ⟨-, h1⟩ := fst_cons_zero h1
        obtain ⟨-, h1⟩ := fst_cons_zero h1
        obtain ⟨h1, -⟩ := fst_cons_zero h1
        cases hf' : f
        · rw [hf'] at h1
          simp only [Bool.false_or] at h1
          have hw : wrap64 (c.1 - pm) = c.1 - pm := by unfold wrap64; omega
          rw [hw] at h1
          by_cases hd : 1440 ≤ c.1 - pm
          · omega
          · rw [decide_eq_false hd] at h1; simp [unl] at h1
        · have := hf hf'; omega
      exact ⟨⟨hle, b, hasc⟩, fun x hx => by
        rcases List.mem_cons.1 hx with rfl | hx
        · exact ⟨⟨a, b⟩, d, e⟩
        · exact hall x hx⟩
theorem zone_good {o : Int} {cs : List (Int × Int)} (h : zoneErr o cs = 0) : (-720 ≤ o ∧ o ≤ 840) ∧ cs.length ≤ 64 ∧ asc 0 cs ∧ (∀ c ∈ cs, (0 ≤ c.1 ∧ c.1 ≤ 143999999) ∧ -720 ≤ c.2 ∧ c.2 ≤ 840) := by
  unfold zoneErr at h
  split at h
  · rename_i h1; exact absurd h h1
  · rename_i h1
    have h1 : zoneHead o cs.length = 0 := by simpa using h1
    unfold zoneHead at h1
    obtain ⟨ho, h1⟩ := fst_cons_zero h1
    obtain ⟨hl, -⟩ := fst_cons_zero h1
    obtain ⟨ha, hr⟩ := chs_asc h (by decide) (by decide) (fun _ => rfl)
    refine ⟨rng_zero ho, ?_, ha, hr⟩
    by_cases hd : (cs.length : Int) ≤ 64
    · omega
    · rw [decide_eq_false hd] at hl; simp [unl] at hl
end Go.Proofs.YtbpoljebkhccjaaDoor
