/- The weeks of a list of days that ascends: masks, counts, runs. -/
import Derived.Test.YtbpoljebkhccjaaDoorRunLen
import Derived.Test.YtbpoljebkhccjaaDoorAsc
namespace Go.Proofs.YtbpoljebkhccjaaDoor
open Go Go.RowKit
def wk (d : Int) : Int := (d + 5) / 7
def nW (ds : List Int) (z : Int) : Nat := ds.countP (fun d => decide (wk d = z))
def nB (ds : List Int) (z : Int) : Nat := ds.countP (fun d => decide (wk d < z))
/-- Days that ascend. -/
structure Asc (ds : List Int) : Prop where
  lt : ∀ i j, i < j → j < ds.length → ds.getD i 0 < ds.getD j 0
  bd : ∀ d ∈ ds, 0 ≤ d ∧ d ≤ 99999
theorem getD_mem {ds : List Int} {i : Nat} (h : i < ds.length) : ds.getD i 0 ∈ ds := by
  simp [h]
theorem asc_of {ds : List Int} (h : ascErr ds = 0) : Asc ds ∧ ds.length ≤ 512 := by
  unfold ascErr at h
  by_cases hl : 512 < ds.length
  · rw [if_pos hl] at h; omega
  · rw [if_neg hl] at h
    have key : ∀ k, k ≤ ds.length → fst ((ascL ds).drop k) = 0 ∧ ∀ i, i < k → ascAt ds i = 0 := by
      intro k
      induction k with
      | zero => intro _; exact ⟨by simpa using h, fun i hi => absurd hi (by omega)⟩
      | succ k ih =>
        intro hk
        obtain ⟨h1, h2⟩ := ih (by omega)
        rw [ascL_drop ds k (by omega)] at h1
        by_cases e : ascAt ds k = 0
        · rw [if_pos e] at h1
          exact ⟨h1, fun i hi => by
            by_cases e2 : i = k
            · rw [e2]; exact e
            · exact h2 i (by omega)⟩
        · rw [if_neg e] at h1; exact absurd h1 e
    have hall := (key ds.length (Nat.le_refl _)).2
    have hone : ∀ i, i < ds.length → (0 ≤ ds.getD i 0 ∧ ds.getD i 0 ≤ 99999) ∧ (0 < i → ds.getD (i - 1) 0 < ds.getD i 0) := by
      intro i hi
      have e := hall i hi
      unfold ascAt at e
      obtain ⟨e1, e2⟩ := fst_cons_zero e
      obtain ⟨e2, -⟩ := fst_cons_zero e2
      refine ⟨?_, fun h0 => ?_⟩
      · unfold rng at e1
        split at e1
        · assumption
        · omega
      · unfold unl at e2
        split at e2
        · rename_i hh
          have : ¬ (i = 0) := by omega
          simpa [this] using hh
        · omega
    have hlt : ∀ n i, i + n + 1 < ds.length → ds.getD i 0 < ds.getD (i + n + 1) 0 := by
      intro n
      induction n with
      | zero => intro i hi; exact (hone (i + 1) hi).2 (by omega)
      | succ n ih =>
        intro i hi
        have a := ih i (by omega)
        have b := (hone (i + (n + 1) + 1) hi).2 (by omega)
        rw [show i + (n + 1) + 1 - 1 = i + n + 1 by omega] at b
        omega
    refine ⟨⟨fun i j hij hj => ?_, fun d hd => ?_⟩, by omega⟩
    · have := hlt (j - i - 1) i (by omega)
      rwa [show i + (j - i - 1) + 1 = j by omega] at this
    · obtain ⟨i, hi, rfl⟩ := List.getElem_of_mem hd
      have := (hone i hi).1
      simpa [hi] using this
theorem wk_mono {a b : Int} (h : a ≤ b) : wk a ≤ wk b := by unfold wk; omega
theorem Asc.le {ds : List Int} (h : Asc ds) {i j : Nat} (hij : i ≤ j) (hj : j < ds.length) : wk (ds.getD i 0) ≤ wk (ds.getD j 0) := by
  rcases Nat.lt_or_eq_of_le hij with e | e
  · exact wk_mono (Int.le_of_lt (h.lt i j e hj))
  · rw [e]; exact Int.le_refl _
/-- A list of which just the first n have q has n of them. -/
theorem countP_first (q : Int → Bool) : ∀ (L : List Int) (n : Nat), n ≤ L.length → (∀ j, j < L.length → (q (L.getD j 0) = true ↔ j < n)) → L.countP q = n
  | [], n, hn, _ => by simp at hn; simp [hn]
  | a :: t, n, hn, h => by
    cases n with
    | zero =>
      rw [List.countP_eq_zero]
      intro x hx
      obtain ⟨j, hj, rfl⟩ := List.getElem_of_mem hx
      have h1 := h j hj
      have h2 : (a :: t).getD j 0 = (a :: t)[j] := by simp only [List.getD_eq_getElem?_getD, List.getElem?_eq_getElem hj, Option.getD_some]
      rw [h2] at h1
      exact fun hq => absurd (h1.1 hq) (by omega)
    | succ n =>
      have ha : q a = true := (h 0 (by simp)).2 (by omega)
      rw [List.countP_cons_of_pos ha, countP_first q t n (by simpa using hn) (fun j hj => by
        have := h (j + 1) (by simpa using hj)
        simp only [List.getD_cons_succ] at this
        rw [this]; omega)]
/-- Which of the days lie before a week. -/
theorem nB_iff {ds : List Int} (h : Asc ds) (z : Int) : ∀ j, j < ds.length → (wk (ds.getD j 0) < z ↔ j < nB ds z) := by
  -- the number of the days before z
  have hex : ∃ n, n ≤ ds.length ∧ ∀ j, j < ds.length → (wk (ds.getD j 0) < z ↔ j < n) := by
    have key : ∀ m, m ≤ ds.length → ∃ n, n ≤ m ∧ ∀ j, j < m → (wk (ds.getD j 0) < z ↔ j < n) := by
      intro m
      induction m with
      | zero => intro _; exact ⟨0, Nat.le_refl _, fun j hj => absurd hj (by omega)⟩
      | succ m ih =>
        intro hm
        obtain ⟨n, hn, hj⟩ := ih (by omega)
        by_cases e : wk (ds.getD m 0) < z
        · refine ⟨m + 1, Nat.le_refl _, fun j hjm => ⟨fun _ => hjm, fun _ => ?_⟩⟩
          exact Int.lt_of_le_of_lt (h.le (by omega) (by omega)) e
        · refine ⟨n, by omega, fun j hjm => ?_⟩
          by_cases e2 : j = m
          · subst e2; exact ⟨fun x => absurd x e, fun x => absurd x (by omega)⟩
          · exact hj j (by omega)
    exact key ds.length (Nat.le_refl _)
  obtain ⟨n, hn, hj⟩ := hex
  have : nB ds z = n := countP_first _ ds n hn (fun j hjl => by rw [decide_eq_true_eq]; exact hj j hjl)
  rw [this]; exact hj
theorem nB_of {ds : List Int} {z : Int} {k : Nat} (hk : k ≤ ds.length) (h : ∀ j, j < ds.length → (wk (ds.getD j 0) < z ↔ j < k)) : nB ds z = k :=
  countP_first _ ds k hk (fun j hj => by rw [decide_eq_true_eq]; exact h j hj)
theorem nB_succ (ds : List Int) (z : Int) : nB ds (z + 1) = nB ds z + nW ds z := by
  unfold nB nW
  induction ds with
  | nil => rfl
  | cons a t ih =>
    simp only [List.countP_cons, decide_eq_true_eq]
    rw [ih]
    by_cases e1 : wk a < z
    · rw [if_pos (show wk a < z + 1 by omega), if_pos e1, if_neg (show ¬ wk a = z by omega)]; omega
    · by_cases e2 : wk a = z
      · rw [if_pos (show wk a < z + 1 by omega), if_neg e1, if_pos e2]; omega
      · rw [if_neg (show ¬ wk a < z + 1 by omega), if_neg e1, if_neg e2]; omega
theorem nB_run (ds : List Int) (f : Int) (p n : Nat) (h : ∀ i : Nat, i < n → nW ds (f + i) = p) : nB ds (f + n) = nB ds f + n * p := by
  induction n with
  | zero => simp
  | succ n ih =>
    have e : f + ((n + 1 : Nat) : Int) = (f + n) + 1 := by omega
    rw [e, nB_succ, ih (fun i hi => h i (by omega)), h n (by omega), Nat.add_mul]
    omega
theorem nB_le (ds : List Int) (z : Int) : nB ds z ≤ ds.length := List.countP_le_length ..
theorem or_popc : ∀ m, m < 128 → ∀ i, i < 7 → (m / 2 ^ i % 2 = 0 → popc (m ||| 2 ^ i) = popc m + 1) ∧ m ||| 2 ^ i < 128 ∧ (∀ j, j < 7 → ((m ||| 2 ^ i) / 2 ^ j % 2 = 1 ↔ (m / 2 ^ j % 2 = 1 ∨ i = j))) := by decide +kernel
theorem or_nat : ∀ m, m < 128 → ∀ i, i < 7 → bits BinOp.or IntKind.i64 ((m : Nat) : Int) (IntKind.i64.wrap (2 ^ i)) = ((m ||| 2 ^ i : Nat) : Int) := by decide +kernel
theorem popc_zero : ∀ m, m < 128 → popc m = 0 → m = 0 := by decide +kernel
theorem wd_lt (d : Int) : (Cal.wd d).toNat < 7 := by unfold Cal.wd; omega
/-- A week's mask: its bits are the weekdays, and so many are its days. -/
theorem wkF_ok {ds : List Int} (h : Asc ds) (k : Nat) (hk : k ≤ ds.length) : ∀ z, ∃ m : Nat, m < 128 ∧ wkF (ds.take k) z = m ∧ popc m = nW (ds.take k) z ∧ ∀ i, i < 7 → (m / 2 ^ i % 2 = 1 ↔ ∃ d ∈ ds.take k, wk d = z ∧ (Cal.wd d).toNat = i) := by
  induction k with
  | zero => intro z; exact ⟨0, by decide, rfl, rfl, fun i _ => by simp⟩
  | succ k ih =>
    intro z
    have hlt : k < ds.length := by omega
    obtain ⟨m, hm, hF, hp, hb⟩ := ih (by omega) z
    have hT := wkF_take ds k hlt
    obtain ⟨x, hx⟩ : ∃ x, ds[k] = x := ⟨_, rfl⟩
    have htake : ds.take (k + 1) = ds.take k ++ [x] := by rw [← hx, List.take_append_getElem hlt]
    have hnW : nW (ds.take (k + 1)) z = nW (ds.take k) z + if wk x = z then 1 else 0 := by
      rw [htake]; unfold nW; rw [List.countP_append]; simp
    rw [hx] at hT
    by_cases e : wk x = z
    · have hw := wd_lt x
      have hor := or_popc m hm _ hw
      have hno : m / 2 ^ (Cal.wd x).toNat % 2 = 0 := by
        rcases Nat.mod_two_eq_zero_or_one (m / 2 ^ (Cal.wd x).toNat) with h0 | h1
        · exact h0
        · obtain ⟨d, hd, hdz, hdw⟩ := (hb _ hw).1 h1
          obtain ⟨j, hj, rfl⟩ := List.getElem_of_mem hd
          have hj2 : j < k := by simp at hj; omega
          have hl := h.lt j k hj2 hlt
          have e1 : (ds.take k)[j] = ds.getD j 0 := by simp [show j < ds.length by omega]
          have e2 : x = ds.getD k 0 := by rw [← hx]; simp [hlt]
          rw [e1] at hdz hdw
          rw [← e2] at hl
          unfold wk at e hdz
          unfold Cal.wd at hdw
          omega
      refine ⟨m ||| 2 ^ (Cal.wd x).toNat, hor.2.1, ?_, by rw [hor.1 hno, hnW, if_pos e, hp], fun i hi => ?_⟩
      · rw [hT]
        unfold wkStep orDay
        rw [show ((x + 5) / 7) = z from e, if_pos rfl, hF]
        exact or_nat m hm _ hw
      · rw [hor.2.2 i hi, hb i hi, htake]
        constructor
        · rintro (⟨d, hd, h1, h2⟩ | h1)
          · exact ⟨d, by simp [hd], h1, h2⟩
          · exact ⟨x, by simp, e, h1⟩
        · rintro ⟨d, hd, h1, h2⟩
          rw [List.mem_append] at hd
          rcases hd with hd | hd
          · exact .inl ⟨d, hd, h1, h2⟩
          · rw [List.mem_singleton] at hd; subst hd; exact .inr h2
    · refine ⟨m, hm, ?_, by rw [hnW, if_neg e, hp]; rfl, fun i hi => ?_⟩
      · rw [hT]
        unfold wkStep
        rw [if_neg (fun e2 => e (by rw [e2]; rfl))]
        exact hF
      · rw [hb i hi, htake]
        constructor
        · rintro ⟨d, hd, h1, h2⟩; exact ⟨d, by simp [hd], h1, h2⟩
        · rintro ⟨d, hd, h1, h2⟩
          rw [List.mem_append] at hd
          rcases hd with hd | hd
          · exact ⟨d, hd, h1, h2⟩
          · rw [List.mem_singleton] at hd; subst hd; exact absurd h1 e
theorem RunOf.uniq {F : Int → Int} {f : Int} {n n' : Nat} (h : RunOf F f n) (h' : RunOf F f n') : n = n' := by
  obtain ⟨a1, a2, a3⟩ := h
  obtain ⟨b1, b2, b3⟩ := h'
  rcases Nat.lt_trichotomy n n' with e | e | e
  · rcases a3 with a3 | a3
    · omega
    · exact absurd (b2 n e) a3
  · exact e
  · rcases b3 with b3 | b3
    · omega
    · exact absurd (a2 n' e) b3
/-- One run more. -/
def JStep (ds : List Int) (F : Int → Int) (k : Nat) (l : List (Int × Int × Int)) (k' : Nat) (l' : List (Int × Int × Int)) : Prop :=
  k < ds.length ∧ ∃ n, RunOf F (wk (ds.getD k 0)) n ∧ k' = k + n * popc (F (wk (ds.getD k 0))).toNat ∧ l' = l ++ [(ds.getD k 0, ds.getD (k' - 1) 0, F (wk (ds.getD k 0)))]
inductive JoinTo (ds : List Int) (F : Int → Int) : Nat → Nat → List (Int × Int × Int) → Prop
  | zero : JoinTo ds F 0 0 []
  | step {j k k' : Nat} {l l' : List (Int × Int × Int)} : JoinTo ds F j k l → JStep ds F k l k' l' → JoinTo ds F (j + 1) k' l'
theorem JStep.uniq {ds : List Int} {F : Int → Int} {k k1 k2 : Nat} {l l1 l2 : List (Int × Int × Int)} (h1 : JStep ds F k l k1 l1) (h2 : JStep ds F k l k2 l2) : k1 = k2 ∧ l1 = l2 := by
  obtain ⟨_, n, hn, rfl, rfl⟩ := h1
  obtain ⟨_, n', hn', rfl, rfl⟩ := h2
  have := hn.uniq hn'
  subst this
  exact ⟨rfl, rfl⟩
theorem JoinTo.uniq {ds : List Int} {F : Int → Int} {j : Nat} : ∀ {k1 k2 : Nat} {l1 l2 : List (Int × Int × Int)}, JoinTo ds F j k1 l1 → JoinTo ds F j k2 l2 → k1 = k2 ∧ l1 = l2 := by
  induction j with
  | zero => intro _ _ _ _ h1 h2; cases h1; cases h2; exact ⟨rfl, rfl⟩
  | succ j ih =>
    intro _ _ _ _ h1 h2
    cases h1 with
    | step a1 s1 =>
      cases h2 with
      | step a2 s2 =>
        obtain ⟨rfl, rfl⟩ := ih a1 a2
        exact s1.uniq s2
theorem JoinTo.back {ds : List Int} {F : Int → Int} {i n : Nat} : ∀ {k : Nat} {l : List (Int × Int × Int)}, JoinTo ds F (i + n + 1) k l → ∃ k' l', JoinTo ds F i k' l' ∧ k' < ds.length := by
  induction n with
  | zero => intro _ _ h; cases h with | step a s => exact ⟨_, _, a, s.1⟩
  | succ n ih => intro _ _ h; cases h with | step a s => exact ih a
/-- All the days joined: there is but one way. -/
theorem JoinTo.end {ds : List Int} {F : Int → Int} {j1 j2 : Nat} {l1 l2 : List (Int × Int × Int)} (h1 : JoinTo ds F j1 ds.length l1) (h2 : JoinTo ds F j2 ds.length l2) : l1 = l2 := by
  rcases Nat.lt_trichotomy j1 j2 with e | e | e
  · rw [show j2 = j1 + (j2 - j1 - 1) + 1 by omega] at h2
    obtain ⟨k', l', h3, h4⟩ := h2.back
    have := (h1.uniq h3).1
    omega
  · subst e; exact (h1.uniq h2).2
  · rw [show j1 = j2 + (j1 - j2 - 1) + 1 by omega] at h1
    obtain ⟨k', l', h3, h4⟩ := h1.back
    have := (h2.uniq h3).1
    omega
/-- k is where a week begins, or the end. -/
def Bd (ds : List Int) (k : Nat) : Prop := k ≤ ds.length ∧ (k < ds.length → nB ds (wk (ds.getD k 0)) = k)
theorem Bd.zero {ds : List Int} (h : Asc ds) : Bd ds 0 := ⟨Nat.zero_le _, fun h0 => nB_of (Nat.zero_le _) (fun j hj => ⟨fun e => absurd (h.le (Nat.zero_le j) hj) (by omega), fun e => absurd e (by omega)⟩)⟩
theorem wkF_all {ds : List Int} (h : Asc ds) (z : Int) : ∃ m : Nat, m < 128 ∧ wkF ds z = m ∧ popc m = nW ds z := by
  obtain ⟨m, h1, h2, h3, _⟩ := wkF_ok h ds.length (Nat.le_refl _) z
  rw [List.take_length] at h2 h3
  exact ⟨m, h1, h2, h3⟩
theorem run_end {ds : List Int} (h : Asc ds) {k n m : Nat} (hk : k < ds.length) (hB : Bd ds k) (hR : RunOf (wkF ds) (wk (ds.getD k 0)) n) (hm : wkF ds (wk (ds.getD k 0)) = m) :
    1 ≤ n * popc m ∧ k + n * popc m ≤ ds.length ∧ Bd ds (k + n * popc m) := by
  obtain ⟨f, hf⟩ : ∃ f, f = wk (ds.getD k 0) := ⟨_, rfl⟩
  have hBk := hB.2 hk
  rw [← hf] at hR hm hBk
  have hp : ∀ z, wkF ds z = m → nW ds z = popc m := by
    intro z hz
    obtain ⟨m2, h1, h2, h3⟩ := wkF_all h z
    have : m2 = m := by rw [hz] at h2; omega
    rw [← h3, this]
  have hn1 : 1 ≤ n := by
    rcases Nat.eq_zero_or_pos n with e | e
    · subst e
      rcases hR.2.2 with x | x
      · omega
      · exact absurd (by simp) x
    · exact e
  have hp1 : 1 ≤ popc m := by
    rw [← hp f hm]
    unfold nW
    have hin := getD_mem hk
    have : 0 < ds.countP (fun d => decide (wk d = f)) := by
      rw [List.countP_pos_iff]
      exact ⟨_, hin, by simp [hf]⟩
    omega
  have hrun := nB_run ds f (popc m) n (fun i hi => hp _ ((hR.2.1 i hi).trans hm))
  rw [hBk] at hrun
  have hle := nB_le ds (f + n)
  rw [hrun] at hle
  refine ⟨Nat.mul_pos hn1 hp1, hle, hle, fun hlt => ?_⟩
  refine nB_of hle fun j hj => ?_
  have i1 := nB_iff h (f + n) j hj
  have i2 := nB_iff h (f + n) (k + n * popc m) hlt
  rw [hrun] at i1 i2
  have i3 : ¬ wk (ds.getD (k + n * popc m) 0) < f + n := fun e => absurd (i2.1 e) (by omega)
  constructor
  · intro e
    rcases Nat.lt_or_ge j (k + n * popc m) with e2 | e2
    · exact e2
    · exact absurd (h.le e2 hj) (by omega)
  · intro e
    have := i1.2 e
    omega
end Go.Proofs.YtbpoljebkhccjaaDoor
