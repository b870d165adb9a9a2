/- Contracts of package calendar: collect over the days of a period; DaysOf. -/
import Derived.Test.YtoaimgfekbnijaaDoorCount
import Derived.RangeFuncBox
import Derived.Deep.AppendLies
namespace Go.Proofs.YtoaimgfekbnijaaDoor
open Go Go.RowKit Go.Shelf
attribute [local go_sem] Oper.semAt_some
theorem infoInt : (Tryd.prog.info? 3).map (fun i => (i.zero, i.size, i.bytes)) = some (some (.int .i64 0), 1, 8) := by kernel_rfl
def kept (p : Int → Bool) (xs : List Int) : List Int := xs.filter p
theorem kept_hit (p : Int → Bool) (pre : List Int) {x : Int} (h : p x = true) : kept p (pre ++ [x]) = kept p pre ++ [x] := by simp [kept, h]
theorem kept_miss (p : Int → Bool) (pre : List Int) {x : Int} (h : p x = false) : kept p (pre ++ [x]) = kept p pre := by simp [kept, h]
theorem boxed_own {β : Type} (B : Nat) (t : TypeId) (v : Value) : Own (fun (_ : β) W => Boxed W B t v) := by
  rintro s X Y row hv hg hrow
  refine hv.kept hg (fun e' => ?_)
  obtain ⟨o, ho, hc⟩ := hrow B e'.symm
  rw [show X.heap[B]? = _ from hv] at ho; cases ho; cases hc
set_option maxRecDepth 100000 in
set_option maxHeartbeats 2000000 in
theorem collect_in (n : Nat) (hn : 3 ≤ n) (kf : FuncId) (caps : Array Value) (p : Int → Bool) (Bn : Nat) (a b m : Int) (w : World) (h1 : 0 ≤ a) (h2 : a ≤ b) (h3 : b ≤ 99999) (h4 : b - a ≤ 400) (hm1 : 1 ≤ m) (hm2 : m ≤ 127)
    (hk : ∀ x W, Below w.heap.size w W → Calls Tryd.prog kf (#[.int .i64 x] ++ caps) W fun r w' => r = .returned (.bool (p x)) ∧ Below W.heap.size W w')
    (hent : ∀ args w, (callFunc kf args).run Tryd.prog w = .ok (.enter kf args) w)
    (hbn : Bn < w.heap.size) (p0 : w.cell? ⟨Bn, 0, none⟩ = some (.int .i64 a)) (p1 : w.cell? ⟨Bn, 1, none⟩ = some (.int .i64 b)) (p2 : w.cell? ⟨Bn, 2, none⟩ = some (.int .i64 m)) :
    CallsIn Fence.wide n Tryd.prog 73 #[.func (.func 97) #[] #[.pointer (some ⟨Bn, 0, none⟩)], .func (.func kf) #[] caps] w
      fun r w' => ∃ v, r = .returned v ∧ w'.ownsRow w.heap.size 3 1 v (kept p (daysL a b m)).length ((kept p (daysL a b m)).map (Value.int .i64)) ∧ (v = .slice none 0 0 ↔ kept p (daysL a b m) = []) ∧ Below w.heap.size w w' := by
  have hh1 : 1 ≤ n := by omega
  obtain ⟨i0, hi, hz0, hz1, hz2⟩ := info_parts infoInt
  refine callsIn_of_wp_marks Tryd.func73 rfl trivial ?_
  simp only [Tryd.ntmps73, List.size_toArray, List.length_cons, List.length_nil, Nat.reduceAdd, Nat.reduceSub, Array.replicate_succ, Array.replicate_zero, List.push_toArray, List.append_toArray, List.nil_append, List.cons_append]
  gi_wp2
  have hB0 : Below w.heap.size w ((w.alloc (.cells #[.func (.func kf) #[] caps] 54)).alloc (.cells #[.slice none 0 0] 36)) := below_alloc2 w _ _
  obtain ⟨V, hV, hBV, vF, vO, hvs⟩ : ∃ V, (w.alloc (.cells #[.func (.func kf) #[] caps] 54)).alloc (.cells #[.slice none 0 0] 36) = V ∧ Below w.heap.size w V ∧ Boxed V w.heap.size 54 (.func (.func kf) #[] caps) ∧ Boxed V (w.heap.size + 1) 36 (.slice none 0 0) ∧ V.heap.size = w.heap.size + 2 :=
    ⟨_, rfl, hB0, (Boxed.new w _ _).alloc _, (by have := Boxed.new (w.alloc (.cells #[.func (.func kf) #[] caps] 54)) 36 (.slice none 0 0); rwa [World.size_alloc] at this), by simp⟩
  rw [hV]
  clear hV hB0
  have hlen := daysL_len a b m h4
  have hK0 : Bn < V.heap.size := by omega
  refine wpIn_rangeFunc_ownF rfl hh1 (gf := 97) (lb := #[.pointer (some ⟨Bn, 0, none⟩)]) rfl trivial (enters_of Tryd.func97 (by kernel_rfl) rfl)
    (days_stops (n - 1) (by omega) Bn a b m V h1 h2 h3 (by omega) hm2 hK0 (b_old hBV p0) (b_old hBV p1) (b_old hBV p2)) KeepB.trans (keepB_b hK0) (Below.refl _ _) (fun _ => rfl)
    (fun pre W => ((∃ v, Boxed W (w.heap.size + 1) 36 v ∧ W.ownsRow w.heap.size 3 1 v (kept p pre).length ((kept p pre).map (Value.int .i64)) ∧ (v = .slice none 0 0 ↔ kept p pre = [])) ∧ Boxed W w.heap.size 54 (.func (.func kf) #[] caps)) ∧ Below w.heap.size w W)
    (fun _ _ _ => False)
    (OwnFrom.and (OwnFrom.and (Own.from (holdsRow_own w.heap.size (w.heap.size + 1) 36 3 1 (fun pre => (kept p pre).length) (fun pre => (kept p pre).map (Value.int .i64)) (fun pre v => v = .slice none 0 0 ↔ kept p pre = [])) _) (Own.from (boxed_own _ _ _) _)) (ownFrom_below (Nat.le_refl _) (by omega)))
    (fun _ _ _ _ _ hs _ _ => hs)
    ⟨⟨⟨_, vO, World.ownsRow_nil _ _ _ _, by simp [kept]⟩, vF⟩, hBV⟩
    (fun x => { tmps := #[.func (.func 97) #[] #[.pointer (some ⟨Bn, 0, none⟩)], .func (.func kf) #[] caps, undef, .pointer (some ⟨w.heap.size, 0, none⟩), .slice none 0 0, .pointer (some ⟨w.heap.size + 1, 0, none⟩), .int .i64 x, .func (.func 97) #[] #[.pointer (some ⟨Bn, 0, none⟩)], .int .i64 x, undef, undef, undef, undef, undef, undef, undef, undef], defers := [] }) ?assign ?body ?done ?stop
  case assign =>
    intro l x W K hK
    gi_wp2
    simpa using hK
  case body =>
    rintro l pre x W ⟨⟨⟨v, hv, hrow, hnil⟩, hf⟩, hB⟩ hlt
    have hc := hv.cell
    have hfc := hf.cell
    have hpl : (kept p pre).length ≤ pre.length := List.length_filter_le _ _
    gi_wp2
    refine ⟨trivial, (fun h => by cases h), ?_⟩
    refine (CallsIn.inRound l (callsIn_wide.2 (hk x W hB))).mono ?_
    rintro e w2 ⟨rfl, hb2⟩
    have hv2 : Boxed w2 (w.heap.size + 1) 36 v := hv.kept (grown_of_below hb2) (by simp)
    have hf2 := hf.kept (grown_of_below hb2) (by simp)
    have hrow2 : w2.ownsRow w.heap.size 3 1 v (kept p pre).length ((kept p pre).map (Value.int .i64)) := hrow.kept (grown_of_below hb2) (by cases h : v.ownBlock with
      | none => exact .inl rfl
      | some k => exact .inr (by simp))
    have hB2 := b_then hB hb2
    have hko : KeepsOthers W w2 := KeepsOthers.of_grownBy (grown_of_below hb2) (fun j o ej hj => by cases ej)
    have hc2 := hv2.cell
    have hsz2 := hB2.size
    have hl1 : (kept p pre).length + 1 ≤ maxLen := by unfold maxLen; omega
    have hKB : KeepB Bn W w2 := KeepB.of_below (hb2.mono (by have := hB.size; omega))
    cases hp : p x
    · have HP := Lib.hid hp
      clear hp
      gi_wp2
      exact ⟨hko, hKB, ⟨⟨v, hv2, by rw [kept_miss _ _ HP.out]; exact hrow2, by rw [kept_miss _ _ HP.out]; exact hnil⟩, hf2⟩, hB2⟩
    · have HP := Lib.hid hp
      clear hp
      gi_wp2_with (gi_at_builtin; refine Hid.out ?_)
      refine Lib.hid ?_
      refine wpListIn_append_own _ rfl _ _ 36 rfl w.heap.size 3 i0 (.int .i64 0) 1 8 Tryd.underlying36 hi hz0 hz1 hz2 rfl (by decide) _ _ _ rfl (hrow2.alloc _) ⟨w2.heap.size, 0, none⟩ 1 1 [.int .i64 x] rfl rfl (World.news_of_block (cs := #[.int .i64 x]) (t := 3) (fr := (0, 0)) (heap_alloc_new w2 _)) (by simp [Value.oneCell']) hl1 (by omega) (by simp; omega) ?_
      intro v' w1 hown' hgrow _
      obtain ⟨g', cap', rfl⟩ := ownsRow_succ hown'
      obtain ⟨hv1, hv3, hr3, hk3, hb3⟩ := hv2.appended (by decide) hrow2 hB2.size (by omega) hown' hgrow
      have hf3 := ((hf2.alloc _).kept hgrow (hf2.not_row (by decide) hrow2)).kept (grownBy_setCell' w1 (w.heap.size + 1) (.slice (some ⟨g', 0, none⟩) ((kept p pre).length + 1) cap')) (by simp)
      have hc1 := hv1.cell
      have hf1 := hv1.frozen
      gi_wp2
      exact ⟨hko.trans hk3, hKB.trans ⟨hb3.block Bn hbn, hb3.size⟩, ⟨⟨_, hv3, by rw [kept_hit _ _ HP.out]; simpa using hr3, by rw [kept_hit _ _ HP.out]; simp⟩, hf3⟩, hB2.trans hb3⟩
  case done =>
    rintro D ys W hD rfl ⟨⟨⟨v, hv, hrow, hnil⟩, hf⟩, hB⟩ hK
    have hc := hv.cell
    gi_wp2
    refine ⟨by simp, .inl ⟨_, _, rfl, run_takeDeferred hK, ?_⟩⟩
    exact ⟨_, results_tmp rfl _ _ _, v, rfl, ownsRow_putObj hrow _ hK rfl, hnil, hB.trans (belowK_b (w := w) (Nat.le_refl _) W D _ _ (by omega) hK rfl rfl)⟩
  case stop =>
    rintro D c pre W _ _ h _
    exact h.elim
end Go.Proofs.YtoaimgfekbnijaaDoor
