/- What the local moments of a zone's changes are: plain arithmetic. -/
import Derived.Test.YtbpoljebkhccjaaDoorZoneR
import Derived.Test.YtbpoljebkhccjaaDoorNoonMath
namespace Go.Proofs.YtbpoljebkhccjaaDoor
open Go Go.RowKit
/-- The changes of a zone, far from each other and small. -/
def gp : Int → List (Int × Int) → Prop
  | _, [] => True
  | o, c :: r => (-180 ≤ c.2 - o ∧ c.2 - o ≤ 180) ∧ (∀ c' r', r = c' :: r' → c.1 + 1440 ≤ c'.1) ∧ gp c.2 r
theorem chs_gp {f : Bool} {pm po : Int} {cs : List (Int × Int)} (h : chsErr f pm po cs = 0) (hp0 : 0 ≤ pm) (hp : pm ≤ 143999999) (hpo : -720 ≤ po ∧ po ≤ 840) : gp po cs ∧ (f = false → ∀ c r, cs = c :: r → pm + 1440 ≤ c.1) := by
  induction cs generalizing f pm po with
  | nil => exact ⟨trivial, fun _ c r h => by cases h⟩
  | cons c r ih =>
    rw [chsErr] at h
    split at h
    · rename_i h1; exact absurd h h1
    · rename_i h1
      have h1 : chgErr (f || decide (1440 ≤ wrap64 (c.1 - pm))) po c.1 c.2 = 0 := by simpa using h1
      obtain ⟨⟨a, b⟩, d, e⟩ := chgErr_zero h1
      obtain ⟨hgp, hnx⟩ := ih h a b ⟨d, e⟩
      rw [chgErr_eq hpo, if_neg (show ¬¬(0 ≤ c.1 ∧ c.1 ≤ 143999999) from fun h => h ⟨a, b⟩), if_neg (show ¬¬(-720 ≤ c.2 ∧ c.2 ≤ 840) from fun h => h ⟨d, e⟩)] at h1
      by_cases h3 : 180 < c.2 - po ∨ 180 < po - c.2
      · rw [if_pos h3] at h1; exact absurd h1 (by decide)
      · rw [if_neg h3] at h1
        refine ⟨⟨by omega, fun c' r' e => hnx rfl c' r' e, hgp⟩, fun hf c' r' e => ?_⟩
        injection e with e1 e2
        subst e1 hf
        by_cases h4 : 1440 ≤ wrap64 (c.1 - pm)
        · have hw : wrap64 (c.1 - pm) = c.1 - pm := by unfold wrap64; omega
          omega
        · rw [decide_eq_false h4] at h1; simp at h1
theorem zone_gp {o : Int} {cs : List (Int × Int)} (h : zoneErr o cs = 0) : gp o cs := by
  obtain ⟨ho, hl, -, -⟩ := zone_good h
  rw [zoneErr_few ho hl] at h
  exact (chs_gp h (by decide) (by decide) ho).1
theorem hits_cons (t f o : Int) (c : Int × Int) (r : List (Int × Int)) : hits t (strs f o (c :: r)) = hit t (f, c.1 - 1, o) ++ hits t (strs c.1 c.2 r) := by simp [strs, hits]
theorem hits_one (t f o : Int) : hits t (strs f o []) = hit t (f, 143999999, o) := by simp [strs, hits]
theorem hit_no {t a b o : Int} (h : ¬ (a ≤ t - o ∧ t - o ≤ b)) : hit t (a, b, o) = [] := by unfold hit; rw [if_neg h]
theorem hit_yes {t a b o : Int} (h : a ≤ t - o ∧ t - o ≤ b) : hit t (a, b, o) = [t - o] := by unfold hit; rw [if_pos h]
theorem hit_len (t : Int) (s : Int × Int × Int) : (hit t s).length ≤ 1 := by unfold hit; split <;> simp
theorem hits_late {t o : Int} {c : Int × Int} {r : List (Int × Int)} (h : gp o (c :: r)) (hc : t - o + 180 < c.1) : hits t (strs c.1 c.2 r) = [] := by
  induction r generalizing o c with
  | nil => obtain ⟨h1, -, -⟩ := h; rw [hits_one, hit_no (by omega)]
  | cons d r ih =>
    obtain ⟨h1, h2, h3⟩ := h
    have := h2 d r rfl
    rw [hits_cons, hit_no (by omega), ih h3 (by omega)]; rfl
theorem hits_two {t f o : Int} {cs : List (Int × Int)} (h : gp o cs) : (hits t (strs f o cs)).length ≤ 2 := by
  induction cs generalizing f o with
  | nil => rw [hits_one]; have := hit_len t (f, 143999999, o); omega
  | cons c r ih =>
    obtain ⟨h1, h2, h3⟩ := h
    rw [hits_cons]
    by_cases hf : f ≤ t - o ∧ t - o ≤ c.1 - 1
    · have hl := hit_len t (f, c.1 - 1, o)
      rw [List.length_append]
      cases r with
      | nil => rw [hits_one]; have := hit_len t (c.1, 143999999, c.2); omega
      | cons d r =>
        have := h2 d r rfl
        have hl2 := hit_len t (c.1, d.1 - 1, c.2)
        rw [hits_cons, hits_late h3 (by omega), List.append_nil]; omega
    · rw [hit_no hf]; exact ih h3
/-- The offset ahead of change k. -/
def bef (o : Int) (cs : List (Int × Int)) : Nat → Int
  | 0 => o
  | k + 1 => (cs.getD k (0, 0)).2
theorem bef_cons (o : Int) (d : Int × Int) (r : List (Int × Int)) (k : Nat) : bef o (d :: r) (k + 1) = bef d.2 r k := by
  cases k <;> rfl
theorem low_ok {t o : Int} {d : Int × Int} {r : List (Int × Int)} {k : Nat} (h : gp o (d :: r)) (hk : k < (d :: r).length) (ht : (((d :: r).getD k (0, 0)).1 - 180 ≤ t - bef o (d :: r) k)) : d.1 - 180 ≤ t - o := by
  induction k generalizing o d r with
  | zero => exact ht
  | succ k ih =>
    obtain ⟨h1, h2, h3⟩ := h
    rw [bef_cons] at ht
    cases r with
    | nil => simp at hk
    | cons e r =>
      have := h2 e r rfl
      have := ih h3 (by simpa using hk) ht
      omega
theorem rest_hits {t o : Int} {c : Int × Int} {r : List (Int × Int)} (h : gp o (c :: r)) (ht : t - c.2 ≤ c.1) (hm : c.1 ≤ 143999999) : hits t (strs c.1 c.2 r) = if c.1 ≤ t - c.2 then [t - c.2] else [] := by
  obtain ⟨h1, h2, h3⟩ := h
  cases r with
  | nil =>
    rw [hits_one]
    by_cases hc : c.1 ≤ t - c.2
    · rw [if_pos hc, hit_yes (by omega)]
    · rw [if_neg hc, hit_no (by omega)]
  | cons d r =>
    have := h2 d r rfl
    rw [hits_cons, hits_late h3 (by omega), List.append_nil]
    by_cases hc : c.1 ≤ t - c.2
    · rw [if_pos hc, hit_yes (by omega)]
    · rw [if_neg hc, hit_no (by omega)]
theorem hits_skip {t f o : Int} {cs : List (Int × Int)} {k : Nat} (h : gp o cs) (ha : asc f cs) (hk : k < cs.length) (hb : bef o cs k < (cs.getD k (0, 0)).2) (ht : t = (cs.getD k (0, 0)).1 + bef o cs k) : hits t (strs f o cs) = [] := by
  induction cs generalizing f o k with
  | nil => simp at hk
  | cons d r ih =>
    obtain ⟨-, am, ar⟩ := ha
    have hg := h
    obtain ⟨h1, h2, h3⟩ := h
    cases k with
    | zero =>
      have hb' : o < d.2 := hb
      have ht' : t = d.1 + o := ht
      rw [hits_cons, hit_no (by omega), rest_hits hg (by omega) am, if_neg (by omega)]; rfl
    | succ k =>
      rw [bef_cons] at hb ht
      have hkr : k < r.length := by simpa using hk
      have eq : (d :: r).getD (k + 1) (0, 0) = r.getD k (0, 0) := rfl
      rw [eq] at hb ht
      cases r with
      | nil => simp at hkr
      | cons e r =>
        have := h2 e r rfl
        have := low_ok (t := t) h3 hkr (by omega)
        rw [hits_cons, hit_no (by omega), ih h3 ar hkr hb ht]; rfl
theorem hits_twice {t f o : Int} {cs : List (Int × Int)} {k : Nat} (h : gp o cs) (ha : asc f cs) (hk : k < cs.length) (hb : (cs.getD k (0, 0)).2 < bef o cs k) (ht : t = (cs.getD k (0, 0)).1 + (cs.getD k (0, 0)).2) (hf : k = 0 → f ≤ (cs.getD k (0, 0)).1 - 180) :
    hits t (strs f o cs) = [t - bef o cs k, (cs.getD k (0, 0)).1] := by
  induction cs generalizing f o k with
  | nil => simp at hk
  | cons d r ih =>
    obtain ⟨-, am, ar⟩ := ha
    have hg := h
    obtain ⟨h1, h2, h3⟩ := h
    cases k with
    | zero =>
      have hb' : d.2 < o := hb
      have ht' : t = d.1 + d.2 := ht
      have hf' : f ≤ d.1 - 180 := hf rfl
      rw [hits_cons, hit_yes (by omega), rest_hits hg (by omega) am, if_pos (by omega)]
      show [t - o, t - d.2] = [t - o, d.1]
      rw [show t - d.2 = d.1 by omega]
    | succ k =>
      rw [bef_cons] at hb ⊢
      have hkr : k < r.length := by simpa using hk
      have eq : (d :: r).getD (k + 1) (0, 0) = r.getD k (0, 0) := rfl
      rw [eq] at hb ht ⊢
      cases r with
      | nil => simp at hkr
      | cons e r =>
        have hde := h2 e r rfl
        have hbd : -180 ≤ ((e :: r).getD k (0, 0)).2 - bef d.2 (e :: r) k := by
          have : ∀ (o : Int) (cs : List (Int × Int)) (k : Nat), gp o cs → k < cs.length → -180 ≤ (cs.getD k (0, 0)).2 - bef o cs k := by
            intro o cs
            induction cs generalizing o with
            | nil => intro k _ hk; simp at hk
            | cons x xs ih =>
              intro k hg hk
              cases k with
              | zero => exact hg.1.1
              | succ k => rw [bef_cons]; exact ih x.2 k hg.2.2 (by simpa using hk)
          exact this _ _ _ h3 hkr
        have := low_ok (t := t) h3 hkr (by omega)
        rw [hits_cons, hit_no (by omega), ih h3 ar hkr hb ht (fun h => by subst h; show d.1 ≤ e.1 - 180; omega)]; rfl
theorem rf_ge {p : Int → Bool} {a : Int} {n : Nat} : ∀ z ∈ rf p a n, a ≤ z ∧ z < a + n ∧ p z = true := by
  induction n generalizing a with
  | zero => intro z hz; simp [rf] at hz
  | succ n ih =>
    intro z hz
    rw [rf, List.mem_append] at hz
    rcases hz with hz | hz
    · split at hz
      · rename_i hp
        have : z = a := by simpa using hz
        subst this; exact ⟨by omega, by omega, hp⟩
      · simp at hz
    · have := ih z hz; exact ⟨by omega, by omega, this.2.2⟩
theorem mem_rf {p : Int → Bool} {a x : Int} {n : Nat} (h1 : a ≤ x) (h2 : x < a + n) (hp : p x = true) : x ∈ rf p a n := by
  induction n generalizing a with
  | zero => omega
  | succ n ih =>
    rw [rf, List.mem_append]
    by_cases e : a = x
    · subst e; left; rw [if_pos hp]; simp
    · right; exact ih (by omega) (by omega)
theorem rf_pair {p : Int → Bool} {a x y : Int} {n : Nat} (h : rf p a n = [x, y]) : x < y := by
  induction n generalizing a with
  | zero => simp [rf] at h
  | succ n ih =>
    rw [rf] at h
    split at h
    · have h' : a = x ∧ rf p (a + 1) n = [y] := by simpa using h
      have := rf_ge (p := p) (a := a + 1) (n := n) y (by rw [h'.2]; simp)
      omega
    · exact ih (by simpa using h)
theorem univ_mem {o t : Int} {cs : List (Int × Int)} (ha : asc 0 cs) (h1 : 0 ≤ t) (h2 : t ≤ 143999999) : t ∈ univ o cs (t + offR o cs t) := by
  unfold univ
  rw [hits_rf ha (by decide)]
  exact mem_rf h1 (by omega) (by unfold lcB; exact decide_eq_true rfl)
theorem univ_pair {o t x y : Int} {cs : List (Int × Int)} (ha : asc 0 cs) (h : univ o cs t = [x, y]) : x < y := by
  unfold univ at h
  rw [hits_rf ha (by decide)] at h
  exact rf_pair h
end Go.Proofs.YtbpoljebkhccjaaDoor
