/- Contracts of package calendar: Universal and Local. -/
import Derived.Test.YtoaimgfekbnijaaDoorStr
import Derived.RangeFuncBox
namespace Go.Proofs.YtoaimgfekbnijaaDoor
open Go.RowKit
/-- Cells of a list of triples. -/
structure StAt (w : World) (b : Nat) (l : List (Int × Int × Int)) : Prop where
  f : ∀ i, i < l.length → w.cell? ⟨b, i * 3, none⟩ = some (.int .i64 (l.getD i (0, 0, 0)).1)
  t : ∀ i, i < l.length → w.cell? ⟨b, i * 3 + 1, none⟩ = some (.int .i64 (l.getD i (0, 0, 0)).2.1)
  o : ∀ i, i < l.length → w.cell? ⟨b, i * 3 + 2, none⟩ = some (.int .i64 (l.getD i (0, 0, 0)).2.2)
theorem StAt.below {w w' : World} {b : Nat} {l : List (Int × Int × Int)} (h : StAt w b l) (hb : Below w.heap.size w w') : StAt w' b l := ⟨fun i hi => b_old hb (h.f i hi), fun i hi => b_old hb (h.t i hi), fun i hi => b_old hb (h.o i hi)⟩
theorem flat3_get (l : List (Int × Int × Int)) (i : Nat) (h : i < l.length) : (flat3 l)[i * 3]? = some (.int .i64 (l.getD i (0, 0, 0)).1) ∧ (flat3 l)[i * 3 + 1]? = some (.int .i64 (l.getD i (0, 0, 0)).2.1) ∧ (flat3 l)[i * 3 + 2]? = some (.int .i64 (l.getD i (0, 0, 0)).2.2) := by
  induction l generalizing i with
  | nil => simp at h
  | cons x r ih =>
    cases i with
    | zero => simp [flat3]
    | succ j =>
      have e : flat3 (x :: r) = [.int .i64 x.1, .int .i64 x.2.1, .int .i64 x.2.2] ++ flat3 r := by simp [flat3]
      obtain ⟨a, b, c⟩ := ih j (by simpa using h)
      rw [e, show (j + 1) * 3 = 3 + j * 3 from by omega]
      refine ⟨?_, ?_, ?_⟩
      · rw [List.getElem?_append_right (by simp)]; simpa using a
      · rw [List.getElem?_append_right (by simp; omega)]; simpa [show 3 + j * 3 + 1 - 3 = j * 3 + 1 from by omega] using b
      · rw [List.getElem?_append_right (by simp; omega)]; simpa [show 3 + j * 3 + 2 - 3 = j * 3 + 2 from by omega] using c
theorem stAt_of_own {w : World} {base : Nat} {e : TypeId} {v : Value} {k : Nat} {l : List (Int × Int × Int)} (h : w.ownsRow base e 3 v (k + 1) (flat3 l)) (hl : l.length = k + 1) : ∃ g cap, v = .slice (some ⟨g, 0, none⟩) (k + 1) cap ∧ StAt w g l := by
  obtain ⟨g, cap, rfl⟩ := ownsRow_succ h
  refine ⟨g, cap, rfl, ⟨fun i hi => ?_, fun i hi => ?_, fun i hi => ?_⟩⟩
  · rw [h.cellAt _ (by omega)]; exact (flat3_get l i hi).1
  · rw [h.cellAt _ (by omega)]; exact (flat3_get l i hi).2.1
  · rw [h.cellAt _ (by omega)]; exact (flat3_get l i hi).2.2
theorem strs_len (f o : Int) (cs : List (Int × Int)) : (strs f o cs).length = cs.length + 1 := by
  induction cs generalizing f o with
  | nil => rfl
  | cons c r ih => simp [strs, ih]
theorem strs_off (f o : Int) (cs : List (Int × Int)) (h0 : -720 ≤ o ∧ o ≤ 840) (h : ∀ c ∈ cs, -720 ≤ c.2 ∧ c.2 ≤ 840) : ∀ s ∈ strs f o cs, -720 ≤ s.2.2 ∧ s.2.2 ≤ 840 := by
  induction cs generalizing f o with
  | nil => intro s hs; simp [strs] at hs; subst hs; exact h0
  | cons c r ih =>
    intro s hs
    simp only [strs, List.mem_cons] at hs
    rcases hs with rfl | hs
    · exact h0
    · exact ih _ _ (h c (by simp)) (fun x hx => h x (by simp [hx])) s hs
def hit (t : Int) (s : Int × Int × Int) : List Int := if s.1 ≤ t - s.2.2 ∧ t - s.2.2 ≤ s.2.1 then [t - s.2.2] else []
def hits (t : Int) (l : List (Int × Int × Int)) : List Int := (l.map (hit t)).flatten
theorem hits_take (t : Int) (l : List (Int × Int × Int)) (k : Nat) (h : k < l.length) : hits t (l.take (k + 1)) = hits t (l.take k) ++ hit t (l.getD k (0, 0, 0)) := by
  unfold hits
  rw [List.take_succ_eq_append_getElem h, List.map_append, List.flatten_append]
  simp only [List.getD_eq_getElem?_getD, List.getElem?_eq_getElem h, Option.getD_some, List.map_cons, List.map_nil, List.flatten_cons, List.flatten_nil, List.append_nil]
theorem hits_len (t : Int) (l : List (Int × Int × Int)) : (hits t l).length ≤ l.length := by
  induction l with
  | nil => simp [hits]
  | cons x r ih =>
    have e : hits t (x :: r) = hit t x ++ hits t r := by simp [hits]
    rw [e]
    have : (hit t x).length ≤ 1 := by unfold hit; split <;> simp
    simp; omega
def univ (o : Int) (cs : List (Int × Int)) (t : Int) : List Int := hits t (strs 0 o cs)
def UnivRes (w : World) (o : Int) (cs : List (Int × Int)) (t : Int) (r : Ending) (w' : World) : Prop :=
  ∃ v, r = .returned (.tuple #[v, .int .i64 (if univ o cs t = [] then 7 else 0)]) ∧ w'.ownsRow w.heap.size 3 1 v (univ o cs t).length ((univ o cs t).map (Value.int .i64)) ∧ Below w.heap.size w w'
theorem own_mono {w : World} {base base' : Nat} {e : TypeId} {size : Nat} {v : Value} {n : Nat} {xs : List Value} (h : w.ownsRow base e size v n xs) (hb : base' ≤ base) : w.ownsRow base' e size v n xs := by
  refine ⟨h.1, ?_⟩
  rcases h.2 with hn | ⟨g, cap, cur, hv, h1, rest⟩
  · exact .inl hn
  · exact .inr ⟨g, cap, cur, hv, Nat.le_trans hb h1, rest⟩
theorem mem_range {cs : List (Int × Int)} {P : Int × Int → Prop} (h : ∀ c ∈ cs, P c) (i : Nat) (hi : i < cs.length) : P (cs.getD i (0, 0)) := by
  simp only [List.getD_eq_getElem?_getD, List.getElem?_eq_getElem hi, Option.getD_some]
  exact h _ (List.getElem_mem hi)
theorem infoInt : (Tryd.prog.info? 3).map (fun i => (i.zero, i.size, i.bytes)) = some (some (.int .i64 0), 1, 8) := by kernel_rfl
set_option maxRecDepth 100000 in
set_option maxHeartbeats 1000000 in
theorem Universal_some (o t : Int) (b off cap : Nat) (cs : List (Int × Int)) (w : World) (hc : ChAt w b off cs) (hn : cs.length ≤ 64) (h1 : -720 ≤ o) (h2 : o ≤ 840) (hr : ∀ c ∈ cs, (0 ≤ c.1 ∧ c.1 ≤ 143999999) ∧ -720 ≤ c.2 ∧ c.2 ≤ 840) (hz : zoneErr o cs = 0) (ht1 : 0 ≤ t) (ht2 : t ≤ 143999999) :
    Calls Tryd.prog 43 #[.agg #[.int .i64 o, .slice (some ⟨b, off, none⟩) cs.length cap], .int .i64 t] w (UnivRes w o cs t) := by
  obtain ⟨i0, hi, hz0, hz1, hz2⟩ := info_parts infoInt
  have HZ := Lib.hid hz; clear hz
  have HT : Hid (rng t 0 143999999 = 0) := Lib.hid (rng_ok ht1 ht2)
  have HR := Lib.hid hr; clear hr
  have HO : Hid (∀ i, i < cs.length + 1 → -720 ≤ ((strs 0 o cs).getD i (0, 0, 0)).2.2 ∧ ((strs 0 o cs).getD i (0, 0, 0)).2.2 ≤ 840) := Lib.hid (fun i hi => by
    have hl := strs_len 0 o cs
    have hi' : i < (strs 0 o cs).length := by omega
    simp only [List.getD_eq_getElem?_getD, List.getElem?_eq_getElem hi', Option.getD_some]
    exact strs_off 0 o cs ⟨h1, h2⟩ (fun c hc => (HR.out c hc).2) _ (List.getElem_mem hi'))
  obtain ⟨W, HW, hb0, hk0, hk1⟩ : ∃ W, Hid (w.alloc (.cells #[.int .i64 o, .slice (some ⟨b, off, none⟩) cs.length cap] 72) = W) ∧ Below w.heap.size w W ∧ W.cell? ⟨w.heap.size, 0, none⟩ = some (.int .i64 o) ∧ W.cell? ⟨w.heap.size, 1, none⟩ = some (.slice (some ⟨b, off, none⟩) cs.length cap) := ⟨_, Lib.hid rfl, below_alloc w _, by simp, by simp⟩
  go_enter Tryd.func43, Tryd.ntmps43
  go_wp2_with fail
  rw [HW.out]
  refine (CheckZone_some o b off cap cs W (hc.below hb0) hn h1 h2).mono ?_
  rintro e w1 ⟨rfl, hb1⟩
  rw [HZ.out]
  have hb01 := b_then hb0 hb1
  have k0 := b_old hb1 hk0
  have k1 := b_old hb1 hk1
  go_wp2_with fail
  refine (checkMoment_any _ _).mono ?_
  rintro e w1 ⟨rfl, rfl⟩
  rw [HT.out]
  go_wp2_with fail
  refine (fe_new [_, _] _ _ _ _ _ rfl rfl (by simp)).mono ?_
  rintro e w2 ⟨rfl, hw⟩
  have hz00 : (fst [0, 0] != 0) = false := rfl
  have hb2 : Below w1.heap.size w1 w2 := by rw [hw]; exact below_alloc _ _
  have hb02 := b_then hb01 hb2
  have l0 := b_old hb2 k0
  have l1 := b_old hb2 k1
  clear hw hb1 k0 k1 hk0 hk1 hb2 hb0
  go_wp2_with fail
  refine (stretches_some o b off cap cs w2 (hc.below hb02) hn (fun i hi => (mem_range HR.out i hi).1)).mono ?_
  rintro e w3 ⟨v, rfl, hown, hb3⟩
  obtain ⟨g, cap3, rfl, hst⟩ := stAt_of_own hown (strs_len 0 o cs)
  have hb03 := b_then hb02 hb3
  clear hown l0 l1
  have HL := Lib.hid (strs_len 0 o cs)
  have HU : Hid (univ o cs t = hits t (strs 0 o cs)) := Lib.hid rfl
  generalize strs 0 o cs = l at *
  go_wp2_with fail
  go_loopw [7, 23] (fun v i wr => ∃ (k : Nat), k ≤ cs.length + 1 ∧ i = .int .i64 k ∧ wr.ownsRow w3.heap.size 3 1 v (hits t (l.take k)).length ((hits t (l.take k)).map (Value.int .i64)) ∧ Below w3.heap.size w3 wr) (fun _ i _ => cs.length + 1 - (intOf i).toNat)
  case atStart => exact ⟨0, Nat.zero_le _, rfl, World.ownsRow_nil _ _ _ _, Below.refl _ _⟩
  case round =>
    obtain ⟨k, hk, rfl, hown, hbr⟩ := hrel
    by_cases hlt : k < cs.length + 1
    · have hst' := hst.below hbr
      have hkl : k < l.length := by have := HL.out; omega
      have hf := hst'.f k hkl
      have hto := hst'.t k hkl
      have hof := hst'.o k hkl
      obtain ⟨ho1, ho2⟩ := HO.out k hlt
      have HH := Lib.hid (hits_take t l k hkl)
      generalize hsv : l.getD k (0, 0, 0) = sv at *
      obtain ⟨s1, s2, s3⟩ := sv
      simp only at hf hto hof ho1 ho2
      clear hsv hst'
      have hll := hits_len t (l.take k)
      have hkk : (hits t (l.take k)).length ≤ k := by simp at hll; omega
      clear hll
      by_cases c1 : s1 ≤ t - s3
      · by_cases c2 : t - s3 ≤ s2
        · have HN : Hid (hits t (l.take (k + 1)) = hits t (l.take k) ++ [t - s3]) := Lib.hid (by rw [HH.out]; simp [hit, c1, c2])
          clear HH
          go_upto_region 10 with (fail)
          obtain ⟨V, hV, hownV, hbV⟩ : ∃ V, wr.alloc (.cells #[.int .i64 s1, .int .i64 s2, .int .i64 s3] 121) = V ∧ V.ownsRow w3.heap.size 3 1 u7 (hits t (l.take k)).length ((hits t (l.take k)).map (Value.int .i64)) ∧ Below w3.heap.size w3 V := ⟨_, rfl, hown.alloc _, hbr.alloc hbr.size _⟩
          rw [hV]
          clear hV
          have hsV := hbV.size
          have hl1 : (hits t (l.take k)).length + 1 ≤ maxLen := by unfold maxLen; omega
          iterate 10 go_step
          refine wpList_append_own _ rfl _ _ 36 rfl w3.heap.size 3 i0 (.int .i64 0) 1 8 Tryd.underlying36 hi hz0 hz1 hz2 rfl (by decide) _ (hits t (l.take k)).length _ rfl (hownV.alloc _) ⟨V.heap.size, 0, none⟩ 1 1 [.int .i64 (t - s3)] rfl rfl
            (World.news_of_block (cs := #[.int .i64 (t - s3)]) (t := 3) (fr := (0, 0)) (heap_alloc_new V _)) (by simp [Value.oneCell']) hl1 (by omega) (by simp; omega) ?_
          intro v' w4 hown' hgrow _
          have hgrow2 : (V.alloc (.cells #[.int .i64 (t - s3)] 3)).grownBy w4 u7.ownBlock := hgrow
          have hb4 : Below w3.heap.size w3 w4 := (hbV.alloc hbV.size _).grown hgrow2 (by simp; omega) (own_block hownV)
          have HOW : Hid (w4.ownsRow w3.heap.size 3 1 v' (hits t (l.take (k + 1))).length ((hits t (l.take (k + 1))).map (Value.int .i64))) := Lib.hid (by rw [HN.out]; simpa using hown')
          clear hgrow hgrow2 hown' hownV hown
          go_wp2_with fail
          go_roundw
          case rel => exact ⟨k + 1, by omega, by go_num, HOW.out, hb4⟩
          case measure => simp [intOf]; omega
        · have HN : Hid (hits t (l.take (k + 1)) = hits t (l.take k)) := Lib.hid (by rw [HH.out]; simp [hit, c2])
          clear HH
          go_wp2_with fail
          go_roundw
          case rel => exact ⟨k + 1, by omega, by go_num, by rw [HN.out]; exact hown.alloc _, hbr.alloc hbr.size _⟩
          case measure => simp [intOf]; omega
      · have HN : Hid (hits t (l.take (k + 1)) = hits t (l.take k)) := Lib.hid (by rw [HH.out]; simp [hit, c1])
        clear HH
        go_wp2_with fail
        go_roundw
        case rel => exact ⟨k + 1, by omega, by go_num, by rw [HN.out]; exact hown.alloc _, hbr.alloc hbr.size _⟩
        case measure => simp [intOf]; omega
    · obtain rfl : k = cs.length + 1 := by omega
      have HA : Hid (univ o cs t = hits t (l.take (cs.length + 1))) := Lib.hid (by rw [HU.out, List.take_of_length_le (by have := HL.out; omega)])
      have hbf := b_then hb03 hbr
      have hb3s : w.heap.size ≤ w3.heap.size := hb03.size
      generalize hits t (l.take (cs.length + 1)) = res at *
      cases res with
      | nil =>
        rcases hown.2 with ⟨rfl, _⟩ | ⟨g2, cap2, cur2, rfl, _⟩
        all_goals
          have hown3 := own_mono hown hb3s
          clear hown
          go_wp2_with (go_at_call 55; refine (unless_any _ _ _).mono ?_; rintro e w' ⟨rfl, rfl⟩)
          go_ret2
          exact ⟨_, by rw [HA.out]; rfl, by rw [HA.out]; exact hown3, hbf⟩
      | cons x r =>
        obtain ⟨g2, cap2, rfl⟩ := ownsRow_succ hown
        have hown3 := own_mono hown hb3s
        clear hown
        go_wp2_with (go_at_call 55; refine (unless_any _ _ _).mono ?_; rintro e w' ⟨rfl, rfl⟩)
        go_ret2
        exact ⟨_, by rw [HA.out]; rfl, by rw [HA.out]; exact hown3, hbf⟩
end Go.Proofs.YtoaimgfekbnijaaDoor
