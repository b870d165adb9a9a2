/- Arithmetic of TopBeaconMasks: days of two lists together and in common; masks. Arithmetic of CalendarCovers: two lists merged, a join read back, a period split and moved. -/
import Derived.Test.YtoaimgfekbnijaaDoorJoinAll
import Derived.Test.YtoaimgfekbnijaaDoorCollect
import Derived.Test.YtoaimgfekbnijaaDoorParts1
namespace Go.Proofs.YtoaimgfekbnijaaDoor
open Go Go.RowKit
/-- The days from lo on, n of them. -/
def rowD (lo : Int) (n : Nat) : List Int := (List.range n).map fun i : Nat => lo + i
theorem rowD_mem (lo : Int) (n : Nat) (d : Int) : d ∈ rowD lo n ↔ lo ≤ d ∧ d < lo + n := by
  unfold rowD
  simp only [List.mem_map, List.mem_range]
  exact ⟨fun ⟨i, h1, h2⟩ => by omega, fun h => ⟨(d - lo).toNat, by omega, by omega⟩⟩
theorem rowD_pair (lo : Int) (n : Nat) : (rowD lo n).Pairwise (· < ·) := by
  unfold rowD
  rw [List.pairwise_map]
  exact List.pairwise_lt_range.imp fun h => by omega
theorem rowD_succ (lo : Int) (n : Nat) : rowD lo (n + 1) = rowD lo n ++ [lo + n] := by
  unfold rowD
  rw [List.range_succ, List.map_append]; rfl
theorem rowD_len (lo : Int) (n : Nat) : (rowD lo n).length = n := by simp [rowD]
/-- Those of them that one of two lists has. -/
def uniT (X Y : List Int) (lo : Int) (n : Nat) : List Int := (rowD lo n).filter fun d => decide (d ∈ X) || decide (d ∈ Y)
theorem uniT_succ (X Y : List Int) (lo : Int) (n : Nat) : uniT X Y lo (n + 1) = uniT X Y lo n ++ (if (decide (lo + n ∈ X) || decide (lo + n ∈ Y)) = true then [lo + n] else []) := by
  unfold uniT
  rw [rowD_succ, List.filter_append]
  simp only [List.filter_cons, List.filter_nil]
theorem uniT_len (X Y : List Int) (lo : Int) (n : Nat) : (uniT X Y lo n).length ≤ n := by
  unfold uniT
  exact Nat.le_trans (List.length_filter_le _ _) (by rw [rowD_len]; exact Nat.le_refl _)
theorem pick {X : List Int} {lo : Int} {n : Nat} (hX : X.Pairwise (· < ·)) (hb : ∀ d ∈ X, lo ≤ d ∧ d < lo + n) (p : Int → Bool) (hp : ∀ d, lo ≤ d → d < lo + n → (p d = true ↔ d ∈ X)) : (rowD lo n).filter p = X :=
  pair_ext _ _ ((rowD_pair lo n).filter p) hX fun d => by
    rw [List.mem_filter, rowD_mem]
    exact ⟨fun ⟨h1, h2⟩ => (hp d h1.1 h1.2).1 h2, fun h => ⟨hb d h, (hp d (hb d h).1 (hb d h).2).2 h⟩⟩
theorem cnt {α : Type} (p q : α → Bool) : ∀ l : List α, (l.filter p).length + (l.filter q).length = (l.filter fun d => p d || q d).length + (l.filter fun d => p d && q d).length
  | [] => rfl
  | a :: t => by
    have := cnt p q t
    simp only [List.filter_cons]
    cases p a <;> cases q a <;> simp <;> omega
theorem uni_len {X Y M : List Int} {lo : Int} {n : Nat} (hX : X.Pairwise (· < ·)) (hY : Y.Pairwise (· < ·)) (hM : M.Pairwise (· < ·)) (bX : ∀ d ∈ X, lo ≤ d ∧ d < lo + n) (bY : ∀ d ∈ Y, lo ≤ d ∧ d < lo + n) (hm : ∀ d, d ∈ M ↔ d ∈ X ∧ d ∈ Y) :
    (uniT X Y lo n).length + M.length = X.length + Y.length := by
  have h := cnt (fun d => decide (d ∈ X)) (fun d => decide (d ∈ Y)) (rowD lo n)
  rw [pick hX bX _ (fun d _ _ => by simp), pick hY bY _ (fun d _ _ => by simp), pick hM (fun d hd => bX d ((hm d).1 hd).1) (fun d => decide (d ∈ X) && decide (d ∈ Y)) (fun d _ _ => by simp [hm])] at h
  unfold uniT
  omega
theorem fst_zero : ∀ {l : List Int}, (∀ x ∈ l, x = 0) → fst l = 0
  | [], _ => rfl
  | a :: t, h => by
    have ha := h a (by simp)
    subst ha
    have := fst_zero (l := t) fun x hx => h x (by simp [hx])
    simp [fst, this]
theorem asc_err {ds : List Int} (hp : ds.Pairwise (· < ·)) (hb : ∀ d ∈ ds, 0 ≤ d ∧ d ≤ 99999) (hl : ds.length ≤ 512) : ascErr ds = 0 := by
  unfold ascErr
  rw [if_neg (by omega)]
  refine fst_zero fun x hx => ?_
  unfold ascL at hx
  obtain ⟨k, hk, rfl⟩ := List.mem_map.1 hx
  have hk' : k < ds.length := List.mem_range.1 hk
  obtain ⟨b1, b2⟩ := hb _ (getD_mem hk')
  unfold ascAt
  rw [rng_ok b1 b2]
  have e : (decide (k = 0) || decide (ds.getD (k - 1) 0 < ds.getD k 0)) = true := by
    by_cases h0 : k = 0
    · simp [h0]
    · have := (List.pairwise_iff_getElem.1 hp) (k - 1) k (by omega) hk' (by omega)
      have h1 : k - 1 < ds.length := by omega
      simp [h0, hk', h1, this]
  rw [e]; rfl
theorem uni_asc (X Y : List Int) (lo : Int) (n : Nat) (h1 : 0 ≤ lo) (h2 : lo + n ≤ 100000) (h3 : n ≤ 512) : ascErr (uniT X Y lo n) = 0 := by
  refine asc_err ((rowD_pair lo n).filter _) (fun d hd => ?_) (Nat.le_trans (uniT_len X Y lo n) h3)
  have := (rowD_mem lo n d).1 (List.mem_filter.1 hd).1
  omega
theorem uniT_pair (X Y : List Int) (lo : Int) (n : Nat) : (uniT X Y lo n).Pairwise (· < ·) := (rowD_pair lo n).filter _
/-- The days of a period as a choice of a row. -/
theorem daysL_row (a b m : Int) (n : Nat) (h : b = a + n - 1) : daysL a b m = (rowD a n).filter (inM m) :=
  (pick (daysL_pair a b m) (fun d hd => by have := (daysL_mem a b m d).1 hd; omega) _ (fun d h1 h2 => by rw [daysL_mem]; exact ⟨fun e => ⟨h1, by omega, e⟩, fun e => e.2.2⟩)).symm
theorem inM_tb (m : Nat) (d : Int) : inM (m : Int) d = m.testBit (Cal.wd d).toNat := by
  rw [Bool.eq_iff_iff, inM_nat, Nat.testBit_eq_decide_div_mod_eq, decide_eq_true_eq]
theorem bits_or : ∀ m, m < 128 → ∀ o, o < 128 → bits BinOp.or IntKind.i64 ((m : Nat) : Int) ((o : Nat) : Int) = ((m ||| o : Nat) : Int) := by decide +kernel
theorem bits_and : ∀ m, m < 128 → ∀ o, o < 128 → bits BinOp.and IntKind.i64 ((m : Nat) : Int) ((o : Nat) : Int) = ((m &&& o : Nat) : Int) := by decide +kernel
theorem or_bd : ∀ m, m < 128 → ∀ o, o < 128 → m ||| o < 128 ∧ m &&& o < 128 ∧ (1 ≤ m → 1 ≤ m ||| o) := by decide +kernel
/-- A mask, one more, both and their common part. -/
theorem masks (m o : Int) (m1 : 1 ≤ m) (m2 : m ≤ 127) (o1 : 1 ≤ o) (o2 : o ≤ 127) :
    ∃ u c : Int, Hid (bits BinOp.or IntKind.i64 m o = u) ∧ Hid (bits BinOp.and IntKind.i64 m o = c) ∧ 1 ≤ u ∧ u ≤ 127 ∧ 0 ≤ c ∧ c ≤ 127 ∧ ∀ a b : Int, (daysL a b m).length + (daysL a b o).length = (daysL a b u).length + (daysL a b c).length := by
  obtain ⟨m, rfl⟩ := Int.eq_ofNat_of_zero_le (by omega : 0 ≤ m)
  obtain ⟨o, rfl⟩ := Int.eq_ofNat_of_zero_le (by omega : 0 ≤ o)
  obtain ⟨b1, b2, b3⟩ := or_bd m (by omega) o (by omega)
  have b4 := b3 (by omega)
  refine ⟨((m ||| o : Nat) : Int), ((m &&& o : Nat) : Int), Lib.hid (bits_or m (by omega) o (by omega)), Lib.hid (bits_and m (by omega) o (by omega)), by omega, by omega, by omega, by omega, fun a b => ?_⟩
  by_cases hab : a ≤ b
  · have hn : b = a + ((b - a + 1).toNat : Nat) - 1 := by omega
    rw [daysL_row a b _ _ hn, daysL_row a b _ _ hn, daysL_row a b _ _ hn, daysL_row a b _ _ hn, cnt]
    have e1 : (fun d => inM (m : Int) d || inM (o : Int) d) = inM ((m ||| o : Nat) : Int) := by
      funext d; rw [inM_tb, inM_tb, inM_tb, Nat.testBit_or]
    have e2 : (fun d => inM (m : Int) d && inM (o : Int) d) = inM ((m &&& o : Nat) : Int) := by
      funext d; rw [inM_tb, inM_tb, inM_tb, Nat.testBit_and]
    rw [e1, e2]
  · have e : ∀ k, daysL a b k = [] := fun k => by
      rw [List.eq_nil_iff_forall_not_mem]
      intro d hd
      have := (daysL_mem a b k d).1 hd
      omega
    simp [e]
theorem daysL_none (a b : Int) : daysL a b 0 = [] := by
  rw [List.eq_nil_iff_forall_not_mem]
  intro d hd
  have h := ((daysL_mem a b 0 d).1 hd).2.2
  simp [inM] at h
/-- Seven neighbouring days have each weekday once. -/
theorem week_one (a : Int) (w : Nat) (hw : w < 7) : (daysL a (a + 6) ((2 ^ w : Nat) : Int)).length = 1 := by
  rw [daysL_row a (a + 6) _ 7 (by omega)]
  have e : inM ((2 ^ w : Nat) : Int) = fun d => decide (w = (Cal.wd d).toNat) := by
    funext d; rw [inM_tb, Nat.testBit_two_pow]
  rw [e]
  obtain ⟨r, hr, hr7⟩ : ∃ r : Nat, (a + 5) % 7 = r ∧ r < 7 := ⟨((a + 5) % 7).toNat, by omega, by omega⟩
  have key : ∀ i : Nat, (Cal.wd (a + i)).toNat = (r + i) % 7 := fun i => by unfold Cal.wd; omega
  unfold rowD
  rw [List.filter_map, List.length_map]
  have e2 : ((fun d => decide (w = (Cal.wd d).toNat)) ∘ fun i : Nat => a + (i : Int)) = fun i : Nat => decide (w = (r + i) % 7) := by
    funext i; simp only [Function.comp, key]
  rw [e2]
  clear e2 key e hr
  revert w r
  decide +kernel
/-- The days of the first i periods. -/
theorem allDays_succ (l : List (Int × Int × Int)) (i : Nat) (h : i < l.length) : (allDays (l.take (i + 1))).length = (allDays (l.take i)).length + (daysL (l.getD i (0, 0, 0)).1 (l.getD i (0, 0, 0)).2.1 (l.getD i (0, 0, 0)).2.2).length := by
  unfold allDays
  rw [List.take_succ_eq_append_getElem h, List.map_append, List.flatten_append, List.length_append]
  simp [h]
end Go.Proofs.YtoaimgfekbnijaaDoor
namespace Go.Proofs.YtoaimgfekbnijaaDoor
open Go Go.RowKit
/-- Two ascending lists, merged up to two places. -/
structure Mg (x y : List Int) (i k : Nat) (L : List Int) : Prop where
  asc : L.Pairwise (· < ·)
  mem : ∀ d, d ∈ L ↔ d ∈ x.take i ∨ d ∈ y.take k
  ltx : ∀ d ∈ L, i < x.length → d < x.getD i 0
  lty : ∀ d ∈ L, k < y.length → d < y.getD k 0
  len : L.length ≤ i + k
theorem Mg.zero (x y : List Int) : Mg x y 0 0 [] := ⟨List.Pairwise.nil, by simp, by simp, by simp, by simp⟩
theorem take_mem {x : List Int} {i : Nat} (hi : i < x.length) (d : Int) : d ∈ x.take (i + 1) ↔ d ∈ x.take i ∨ d = x.getD i 0 := by
  rw [List.take_succ_eq_append_getElem hi, List.mem_append, List.mem_singleton]
  simp [hi]
theorem pw_next {x : List Int} (h : x.Pairwise (· < ·)) {i j : Nat} (hij : i < j) (hj : j < x.length) : x.getD i 0 < x.getD j 0 := by
  have := (List.pairwise_iff_getElem.1 h) i j (by omega) hj hij
  simpa [hj, show i < x.length by omega] using this
theorem pw_snoc {L : List Int} {d : Int} (h : L.Pairwise (· < ·)) (hd : ∀ e ∈ L, e < d) : (L ++ [d]).Pairwise (· < ·) := by
  rw [List.pairwise_append]
  exact ⟨h, List.pairwise_singleton _ _, fun e he f hf => by rw [List.mem_singleton] at hf; subst hf; exact hd e he⟩
theorem Mg.left {x y L : List Int} {i k : Nat} (hx : x.Pairwise (· < ·)) (h : Mg x y i k L) (hi : i < x.length) (hlt : k < y.length → x.getD i 0 < y.getD k 0) : Mg x y (i + 1) k (L ++ [x.getD i 0]) where
  asc := pw_snoc h.asc fun e he => h.ltx e he hi
  mem d := by rw [List.mem_append, List.mem_singleton, h.mem, take_mem hi, or_right_comm]
  ltx d hd h1 := by
    rw [List.mem_append, List.mem_singleton] at hd
    have := pw_next hx (Nat.lt_add_one i) h1
    rcases hd with hd | rfl
    · have := h.ltx d hd hi; omega
    · exact this
  lty d hd h1 := by
    rw [List.mem_append, List.mem_singleton] at hd
    rcases hd with hd | rfl
    · exact h.lty d hd h1
    · exact hlt h1
  len := by have := h.len; simp; omega
theorem Mg.right {x y L : List Int} {i k : Nat} (hy : y.Pairwise (· < ·)) (h : Mg x y i k L) (hk : k < y.length) (hlt : i < x.length → y.getD k 0 < x.getD i 0) : Mg x y i (k + 1) (L ++ [y.getD k 0]) where
  asc := pw_snoc h.asc fun e he => h.lty e he hk
  mem d := by rw [List.mem_append, List.mem_singleton, h.mem, take_mem hk, or_assoc]
  lty d hd h1 := by
    rw [List.mem_append, List.mem_singleton] at hd
    have := pw_next hy (Nat.lt_add_one k) h1
    rcases hd with hd | rfl
    · have := h.lty d hd hk; omega
    · exact this
  ltx d hd h1 := by
    rw [List.mem_append, List.mem_singleton] at hd
    rcases hd with hd | rfl
    · exact h.ltx d hd h1
    · exact hlt h1
  len := by have := h.len; simp; omega
theorem Mg.both {x y L : List Int} {i k : Nat} (hx : x.Pairwise (· < ·)) (hy : y.Pairwise (· < ·)) (h : Mg x y i k L) (hi : i < x.length) (hk : k < y.length) (he : x.getD i 0 = y.getD k 0) : Mg x y (i + 1) (k + 1) (L ++ [x.getD i 0]) where
  asc := pw_snoc h.asc fun e he => h.ltx e he hi
  mem d := by
    rw [List.mem_append, List.mem_singleton, h.mem, take_mem hi, take_mem hk, ← he]
    generalize (d ∈ x.take i) = A
    generalize (d ∈ y.take k) = B
    generalize (d = x.getD i 0) = C
    exact ⟨fun h => h.elim (fun h => h.elim (fun a => .inl (.inl a)) fun b => .inr (.inl b)) fun c => .inl (.inr c), fun h => h.elim (fun h => h.elim (fun a => .inl (.inl a)) .inr) fun h => h.elim (fun b => .inl (.inr b)) .inr⟩
  ltx d hd h1 := by
    rw [List.mem_append, List.mem_singleton] at hd
    have := pw_next hx (Nat.lt_add_one i) h1
    rcases hd with hd | rfl
    · have := h.ltx d hd hi; omega
    · exact this
  lty d hd h1 := by
    rw [List.mem_append, List.mem_singleton] at hd
    have := pw_next hy (Nat.lt_add_one k) h1
    rcases hd with hd | rfl
    · have := h.lty d hd hk; omega
    · omega
  len := by have := h.len; simp; omega
theorem Mg.err {x y L : List Int} {i k : Nat} (h : Mg x y i k L) (bx : ∀ d ∈ x, 0 ≤ d ∧ d ≤ 99999) (bdy : ∀ d ∈ y, 0 ≤ d ∧ d ≤ 99999) (hl : i + k ≤ 512) : ascErr L = 0 :=
  asc_err h.asc (fun d hd => ((h.mem d).1 hd).elim (fun e => bx d (List.mem_of_mem_take e)) fun e => bdy d (List.mem_of_mem_take e)) (Nat.le_trans h.len hl)
theorem getD_left {α : Type} (l r : List α) (t : Nat) (z : α) (h : t < l.length) : (l ++ r).getD t z = l.getD t z := by
  rw [List.getD_eq_getElem?_getD, List.getElem?_append_left h, ← List.getD_eq_getElem?_getD]
/-- A join, read back. -/
theorem JoinTo.read {ds : List Int} (h : Asc ds) {j k : Nat} {l : List (Int × Int × Int)} (hj : JoinTo ds (wkF ds) j k l) :
    (∀ t, t < l.length → ∃ k0 c, 1 ≤ c ∧ k0 + c ≤ ds.length ∧ (l.getD t (0, 0, 0)).1 = ds.getD k0 0 ∧ (l.getD t (0, 0, 0)).2.1 = ds.getD (k0 + c - 1) 0 ∧ daysL (l.getD t (0, 0, 0)).1 (l.getD t (0, 0, 0)).2.1 (l.getD t (0, 0, 0)).2.2 = (ds.drop k0).take c ∧ (0 < t → (l.getD (t - 1) (0, 0, 0)).2.1 < ds.getD k0 0)) ∧
    (0 < l.length → 0 < k ∧ (l.getD (l.length - 1) (0, 0, 0)).2.1 = ds.getD (k - 1) 0) := by
  induction hj with
  | zero => exact ⟨fun t ht => by simp at ht, fun h0 => by simp at h0⟩
  | @step j k k' l l' a s ih =>
    have hB := (a.days h).1
    obtain ⟨hk, n, hR, rfl, rfl⟩ := s
    obtain ⟨m, hm7, hm, hp⟩ := wkF_all h (wk (ds.getD k 0))
    obtain ⟨c, hc⟩ : ∃ c, c = n * popc m := ⟨_, rfl⟩
    have hd := run_days h hk hB hR hm hc
    have hre := run_end h hk hB hR hm
    rw [hm]
    simp only [Int.toNat_natCast]
    rw [← hc] at hre ⊢
    have hseg : daysL (ds.getD k 0) (ds.getD (k + c - 1) 0) m = (ds.drop k).take c := by
      refine pair_ext _ _ (daysL_pair _ _ _) ((h.pair.drop).take) fun x => ?_
      rw [daysL_mem, inM_nat, hd x, seg_mem hre.2.1]
    constructor
    · intro t ht
      by_cases htl : t < l.length
      · obtain ⟨k0, c0, r1, r2, r3, r4, r5, r6⟩ := ih.1 t htl
        have e1 : (l ++ [(ds.getD k 0, ds.getD (k + c - 1) 0, (m : Int))]).getD t (0, 0, 0) = l.getD t (0, 0, 0) := getD_left _ _ _ _ htl
        have e2 : (l ++ [(ds.getD k 0, ds.getD (k + c - 1) 0, (m : Int))]).getD (t - 1) (0, 0, 0) = l.getD (t - 1) (0, 0, 0) := getD_left _ _ _ _ (by omega)
        rw [e1, e2]
        exact ⟨k0, c0, r1, r2, r3, r4, r5, r6⟩
      · have hte : t = l.length := by simp at ht; omega
        subst hte
        have e1 : (l ++ [(ds.getD k 0, ds.getD (k + c - 1) 0, (m : Int))]).getD l.length (0, 0, 0) = (ds.getD k 0, ds.getD (k + c - 1) 0, (m : Int)) := by
          rw [List.getD_eq_getElem?_getD, List.getElem?_append_right (Nat.le_refl _)]; simp
        rw [e1]
        refine ⟨k, c, hre.1, hre.2.1, rfl, rfl, hseg, fun h0 => ?_⟩
        have e2 : (l ++ [(ds.getD k 0, ds.getD (k + c - 1) 0, (m : Int))]).getD (l.length - 1) (0, 0, 0) = l.getD (l.length - 1) (0, 0, 0) := getD_left _ _ _ _ (by omega)
        rw [e2, (ih.2 h0).2]
        have := (ih.2 h0).1
        exact h.lt (k - 1) k (by omega) hk
    · intro _
      refine ⟨by omega, ?_⟩
      have e1 : (l ++ [(ds.getD k 0, ds.getD (k + c - 1) 0, (m : Int))]).getD ((l ++ [(ds.getD k 0, ds.getD (k + c - 1) 0, (m : Int))]).length - 1) (0, 0, 0) = (ds.getD k 0, ds.getD (k + c - 1) 0, (m : Int)) := by
        rw [List.getD_eq_getElem?_getD, List.getElem?_append_right (by simp)]; simp
      rw [e1]
/-- The parts of a period have its days. -/
theorem split_days (a b m day : Int) (h1 : a < day) (h2 : day ≤ b) : daysL a (day - 1) m ++ daysL day b m = daysL a b m := by
  refine pair_ext _ _ ?_ (daysL_pair _ _ _) fun d => ?_
  · rw [List.pairwise_append]
    refine ⟨daysL_pair _ _ _, daysL_pair _ _ _, fun x hx y hy => ?_⟩
    have := (daysL_mem _ _ _ _).1 hx
    have := (daysL_mem _ _ _ _).1 hy
    omega
  · rw [List.mem_append, daysL_mem, daysL_mem, daysL_mem]
    constructor
    · rintro (⟨p, q, r⟩ | ⟨p, q, r⟩)
      · exact ⟨p, by omega, r⟩
      · exact ⟨by omega, q, r⟩
    · rintro ⟨p, q, r⟩
      by_cases hd : d < day
      · exact .inl ⟨p, by omega, r⟩
      · exact .inr ⟨by omega, q, r⟩
theorem refN_bit : ∀ n, n < 128 → ∀ s, s < 7 → ∀ i, i < 7 → refN n s 7 / 2 ^ ((i + s) % 7) % 2 = n / 2 ^ i % 2 := by decide +kernel
theorem refN_lt : ∀ n, n < 128 → ∀ s, s < 7 → refN n s 7 < 128 ∧ (1 ≤ n → 1 ≤ refN n s 7) := by decide +kernel
/-- The days of a moved period are moved days. -/
theorem shift_days (a b d : Int) (n s : Nat) (hn : n < 128) (hs : d % 7 = (s : Int)) : daysL (a + d) (b + d) (refN n s 7 : Nat) = (daysL a b n).map (· + d) := by
  have hs7 : s < 7 := by omega
  have key : ∀ x : Int, inM ((refN n s 7 : Nat) : Int) (x + d) = true ↔ inM (n : Int) x = true := fun x => by
    rw [inM_nat, inM_nat, show (Cal.wd (x + d)).toNat = ((Cal.wd x).toNat + s) % 7 from by unfold Cal.wd; omega, refN_bit n hn s hs7 _ (wd_lt x)]
  refine pair_ext _ _ (daysL_pair _ _ _) ?_ fun e => ?_
  · rw [List.pairwise_map]
    exact (daysL_pair a b n).imp fun h => by omega
  · rw [daysL_mem, List.mem_map]
    constructor
    · rintro ⟨p, q, r⟩
      refine ⟨e - d, (daysL_mem _ _ _ _).2 ⟨by omega, by omega, (key (e - d)).1 (by rw [show e - d + d = e from by omega]; exact r)⟩, by omega⟩
    · rintro ⟨x, hx, rfl⟩
      obtain ⟨p, q, r⟩ := (daysL_mem _ _ _ _).1 hx
      exact ⟨by omega, by omega, (key x).2 r⟩
end Go.Proofs.YtoaimgfekbnijaaDoor
