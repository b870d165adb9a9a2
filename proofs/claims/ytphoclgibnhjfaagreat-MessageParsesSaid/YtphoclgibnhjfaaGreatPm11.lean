/- Contracts: the reference's months, years and days of dates. · Rows of three integers are compared. · Contracts: the reference's texts of dates. · Contracts: numbers with a width are printed, by package message and by the reference. · Contracts of package message: the words that the fields of a line show. · Contracts of package calendar: seasons. · Contracts of package calendar: Span. · Contracts of package calendar: SeasonOf. · Plain arithmetic of the seasons. · Contracts of package calendar: SeasonOf of a day of a season, Next, Previous. · Contracts of package calendar: Equivalent of a day of a season, in a season of its kind. · Contracts for CalendarTiles: the last season has no next one; the season before the next one; the reference's checks. · Contracts: the weekdays of a mask, moved by days (the reference's InMask and Shift; turn). · The texts of masks. · Contracts: PrintMask, of package calendar and of the reference. · Contracts: ParseMask, of package calendar and of the reference. · Contracts of package message: a word is read into a line. -/
import Derived.Test.YtphoclgibnhjfaaGreatPm10
import Derived.Test.YtphoclgibnhjfaaGreatPm1
import Derived.Laws.StructEq
import Derived.Test.YtphoclgibnhjfaaGreatPm8
import Derived.Laws.IdiomStrings
import Derived.Laws.MakeOwn
import Derived.Deep.RegionHeld3
import Derived.Test.YtphoclgibnhjfaaGreatPm9
namespace Go.Proofs.YtphoclgibnhjfaaGreat
open Go Go.RowKit
theorem leap_4 {y : Int} (h : y % 4 ≠ 0) : Cal.leap y = false := by unfold Cal.leap Cal.lp; exact decide_eq_false (by omega)
theorem leap_100 {y : Int} (h4 : y % 4 = 0) (h : y % 100 ≠ 0) : Cal.leap y = true := by unfold Cal.leap Cal.lp; exact decide_eq_true (by omega)
theorem leap_400 {y : Int} (h : y % 400 = 0) : Cal.leap y = true := by unfold Cal.leap Cal.lp; exact decide_eq_true (by omega)
theorem leap_no {y : Int} (h1 : y % 100 = 0) (h : y % 400 ≠ 0) : Cal.leap y = false := by unfold Cal.leap Cal.lp; exact decide_eq_false (by omega)
theorem cum_bd2 (y : Int) (k : Nat) (h1 : 1 ≤ k) (h : k ≤ 12) : 0 ≤ Cal.cum y (k - 1) ∧ Cal.cum y (k - 1) ≤ 341 ∧ Cal.cum y k = Cal.cum y (k - 1) + Cal.ml y k := by
  have := Cal.cum_bd y (k - 1) (by omega)
  exact ⟨by omega, by omega, cum_step y k h1⟩
end Go.Proofs.YtphoclgibnhjfaaGreat
namespace Go.Proofs.YtphoclgibnhjfaaGreat
open Go Go.RowKit
theorem eqIn_int (d : Nat) (a b : Int) (w : World) : (Op.equalIn (d + 1) 3 (.int .i64 a) (.int .i64 b)).run Tryz.prog w = .ok (a == b) w := run_equalIn_int w d 3 .i64 .i64 a b Tryz.underlying3
theorem b_drewN {B : Nat} {a w : World} (h : Below B a w) (n : Nat) : Below B a (w.drewN n) := h.trans ⟨rfl, rfl, rfl, Nat.le_refl _, fun _ _ => rfl⟩
end Go.Proofs.YtphoclgibnhjfaaGreat
namespace Go.Proofs.YtphoclgibnhjfaaGreat
open Go Go.RowKit
def wideL : Nat → Nat → List UInt8
  | _, 0 => []
  | n, k + 1 => wideL (n / 10) k ++ [dig (n % 10)]
theorem wide_2 (n : Nat) (h : n < 100) : wideL n 2 = pad2 n := by
  simp only [wideL, pad2, List.nil_append, List.cons_append]
  rw [show n / 10 % 10 = n / 10 by omega]
theorem wide_4 (n : Nat) (h : n < 10000) : wideL n 4 = pad4 n := by
  simp only [wideL, pad4, pad2, List.nil_append, List.cons_append]
  rw [show n / 10 / 10 / 10 % 10 = n / 100 / 10 by omega, show n / 10 / 10 % 10 = n / 100 % 10 by omega, show n / 10 % 10 = n % 100 / 10 by omega, show n % 10 = n % 100 % 10 by omega]
theorem qdigit_any (n : Nat) (w : World) (h : n < 10) :
    Calls Tryz.prog 204 #[.int .i64 n] w fun r w' => r = .returned (.string ⟨#[dig n]⟩) ∧ w' = w := by
  have hn : n = 0 ∨ n = 1 ∨ n = 2 ∨ n = 3 ∨ n = 4 ∨ n = 5 ∨ n = 6 ∨ n = 7 ∨ n = 8 ∨ n = 9 := by omega
  rcases hn with rfl | rfl | rfl | rfl | rfl | rfl | rfl | rfl | rfl | rfl
  all_goals
    go_enter Tryz.func204, Tryz.ntmps204
    go_wp2_with fail
    go_ret
    exact ⟨by rfl, rfl⟩
end Go.Proofs.YtphoclgibnhjfaaGreat
namespace Go.Proofs.YtphoclgibnhjfaaGreat
open Go Go.RowKit
theorem wideL_len : ∀ k n, (wideL n k).length = k := fun k => by
  induction k with
  | zero => intro n; rfl
  | succ k ih => intro n; simp [wideL, ih]
theorem wideL_get (k : Nat) : ∀ (n j : Nat) (h : j < (wideL n k).length), (wideL n k)[j] = dig (n / 10 ^ (k - 1 - j) % 10) := by
  induction k with
  | zero => intro n j h; simp [wideL] at h
  | succ k ih =>
    intro n j h
    rw [wideL_len] at h
    have hl := wideL_len k (n / 10)
    simp only [wideL]
    rcases Nat.lt_or_ge j k with hj | hj
    · rw [List.getElem_append_left (by omega), ih (n / 10) j (by omega)]
      rw [Nat.div_div_eq_div_mul, show k + 1 - 1 - j = (k - 1 - j) + 1 by omega, Nat.pow_succ, Nat.mul_comm]
    · obtain rfl : j = k := by omega
      rw [List.getElem_append_right (by omega)]
      simp [hl]
theorem wideL_more (k : Nat) : ∀ n, n < 10 ^ k → wideL n (k + 1) = dig 0 :: wideL n k := by
  induction k with
  | zero => intro n h; obtain rfl : n = 0 := (by simpa using h); rfl
  | succ k ih =>
    intro n h
    have := ih (n / 10) (by rw [Nat.pow_succ] at h; omega)
    show wideL (n / 10) (k + 1) ++ [dig (n % 10)] = dig 0 :: (wideL (n / 10) k ++ [dig (n % 10)])
    rw [this]; rfl
/-- A number with a width. -/
def widT (n k : Nat) : ByteArray := ⟨(wideL n k).toArray⟩
/-- A block of n bytes that the call has made. -/
structure RowB (w : World) (b n : Nat) (g : Nat → Nat) (W : World) : Prop where
  c : ∀ i, i < n → W.cell? ⟨b, i, none⟩ = some (.int .u8 (g i : Nat))
  f : ∀ i, i < n → W.frozen? ⟨b, i, none⟩ = false
  lo : w.heap.size ≤ b
  below : Below w.heap.size w W
theorem RowB.set {w W : World} {b n : Nat} {g : Nat → Nat} (h : RowB w b n g W) (k : Nat) (hk : k < n) (v : Nat) : RowB w b n (fun i => if i = k then v else g i) (W.setCell ⟨b, k, none⟩ (.int .u8 (v : Nat))) :=
  ⟨fun i hi => by
    by_cases e : i = k
    · subst e; rw [if_pos rfl]; exact set_same (h.c i hk)
    · rw [if_neg e]; exact set_other (h.c i hi) (by intro e2; cases e2; exact e rfl), fun i hi => by rw [World.frozen?_setCell]; exact h.f i hi, h.lo, h.below.setCell (p := ⟨b, k, none⟩) h.lo (.int .u8 v)⟩
theorem RowB.congr {w W : World} {b n : Nat} {g g' : Nat → Nat} (h : RowB w b n g W) (e : ∀ i, i < n → g i = g' i) : RowB w b n g' W :=
  ⟨fun i hi => by rw [← e i hi]; exact h.c i hi, h.f, h.lo, h.below⟩
theorem madeB_at (n i : Nat) (hi : i < n) : (madeCells #[Value.int .u8 0] n)[i]? = some (.int .u8 0) := by
  simp [madeCells, hi, Nat.mod_one]
theorem RowB.made (w : World) (n : Nat) (T : TypeId) : RowB w w.heap.size n (fun _ => 0) (w.alloc (.cells (madeCells #[Value.int .u8 0] n) T)) :=
  have hh : (w.alloc (.cells (madeCells #[Value.int .u8 0] n) T)).heap[w.heap.size]? = some (.cells (madeCells #[Value.int .u8 0] n) T (0, 0)) := by show (w.heap.push _)[_]? = _; simp
  have hc : ∀ i, i < n → (w.alloc (.cells (madeCells #[Value.int .u8 0] n) T)).cell? ⟨w.heap.size, i, none⟩ = some (.int .u8 0) := fun i hi => by
    simp only [World.cell?, hh]
    simpa using madeB_at n i hi
  ⟨hc, fun i hi => by
    unfold World.frozen?
    simp only [hh]
    simp, Nat.le_refl _, below_alloc _ _⟩
theorem run_makeBytes (n : Nat) (hn : n ≤ 100000) (w : World) : (Instr.makeSlice 209 (.int .i64 n) (.int .i64 n)).run Tryz.prog w = .ok (.slice (some ⟨w.heap.size, 0, none⟩) n n) (w.alloc (.cells (madeCells #[Value.int .u8 0] n) 5)) := by
  have hi : Tryz.prog.info? 5 = some Tryz.prog.types[5]! := by kernel_rfl
  have := run_make (P := Tryz.prog) w 209 5 Tryz.prog.types[5]! (.int .u8 0) Tryz.underlying209 hi (by kernel_rfl) .i64 .i64 n n (by omega) (Int.le_refl _) (by rw [show (Tryz.prog.types[5]!).bytes = 1 from by kernel_rfl]; omega) (by omega)
  rw [show (Tryz.prog.types[5]!).size = 1 from by kernel_rfl, Nat.mul_one, Int.toNat_natCast] at this
  exact this
/-- The digit at a place, once k digits from the right stand. -/
def digF (n k t : Nat) : Nat → Nat := fun j => if k - t ≤ j then 48 + n / 10 ^ (k - 1 - j) % 10 else 0
theorem dig_add (a b : Nat) (h : a = b) : a + 0 = b := h
set_option maxRecDepth 100000 in
set_option maxHeartbeats 1000000 in
theorem digits_any (n k : Nat) (w : World) (hk : k ≤ 9) (hn : n ≤ 10000000) :
    Calls Tryz.prog 98 #[.int .i64 n, .int .i64 k] w fun e w' => e = .returned (.string (widT n k)) ∧ Below w.heap.size w w' := by
  have hmk := run_makeBytes k (by omega)
  go_enter Tryz.func98, Tryz.ntmps98
  go_wp2_with fail
  have R0 := RowB.made w k 5
  clear hmk
  go_loopw [0, 6, 10] (fun m _ i wr => ∃ t : Nat, t ≤ k ∧ i = .int .i64 t ∧ m = .int .i64 ((n / 10 ^ t : Nat) : Int) ∧ RowB w w.heap.size k (digF n k t) wr) (fun _ _ i _ => k - (intOf i).toNat)
  case atStart => exact ⟨0, Nat.zero_le _, rfl, by simp, R0.congr fun i hi => by unfold digF; rw [if_neg (by omega)]⟩
  case round =>
    obtain ⟨t, ht, rfl, rfl, hr⟩ := hrel
    by_cases hlt : t < k
    · have hc := hr.c (k - 1 - t) (by omega)
      have hf := hr.f (k - 1 - t) (by omega)
      have hq : n / 10 ^ t ≤ n := Nat.div_le_self _ _
      have hnext : n / 10 ^ (t + 1) = n / 10 ^ t / 10 := by rw [Nat.pow_succ, Nat.div_div_eq_div_mul]
      have hset := (hr.set (k - 1 - t) (by omega) (48 + n / 10 ^ t % 10)).congr (g' := digF n k (t + 1)) fun i hi => by
        unfold digF
        by_cases e : i = k - 1 - t
        · rw [if_pos e, if_pos (by omega), show k - 1 - i = t by omega]
        · rw [if_neg e]
          by_cases e2 : k - t ≤ i
          · rw [if_pos e2, if_pos (by omega)]
          · rw [if_neg e2, if_neg (by omega)]
      have HS := Lib.hid hset
      have HN := Lib.hid hnext
      clear hset hnext
      generalize n / 10 ^ t = m at *
      have hix : (k : Int) - 1 - (t : Int) = ((k - 1 - t : Nat) : Int) := by omega
      have hw8 : IntKind.u8.wrap (48 + (m : Int) % 10) = 48 + (m : Int) % 10 := by
        have h1 : m % 10 < 10 := Nat.mod_lt _ (by decide)
        have h2 : (48 + (m : Int) % 10) = ((48 + m % 10 : Nat) : Int) := by omega
        have h3 : ∀ d, d < 10 → IntKind.u8.wrap (((48 + d : Nat)) : Int) = ((48 + d : Nat) : Int) := by decide +kernel
        rw [h2]; exact h3 _ h1
      have hb1 : (0 : Int) ≤ (k : Int) - 1 - (t : Int) := by omega
      have hb2 : (k : Int) - 1 - (t : Int) < (k : Int) := by omega
      go_wp2_with fail
      go_roundw
      case rel => exact ⟨t + 1, by omega, by go_num, by rw [HN.out]; go_num, by simpa using HS.out⟩
      case measure => simp [intOf]; omega
    · obtain rfl : t = k := by omega
      have hb := hr.below
      have hcv : (convert 209 9 (.slice (some ⟨w.heap.size, 0, none⟩) t t)).run Tryz.prog wr = .ok (.string (widT n t)) wr := by
        have := run_convert_bytes_back wr 209 9 5 ⟨w.heap.size, 0, none⟩ t (wideL n t) Tryz.underlying209 Tryz.underlying5 Tryz.underlying9 (fun j hj => by
          have hj' : j < t := by rwa [wideL_len] at hj
          rw [wideL_get t n j hj, dig_toNat _ (Nat.mod_lt _ (by decide))]
          have e : (⟨w.heap.size, 0, none⟩ : Addr).add j = ⟨w.heap.size, j, none⟩ := by
            unfold Addr.add
            by_cases h : j = 0 <;> simp [h]
          rw [e, hr.c j hj']
          unfold digF
          rw [if_pos (by omega)])
        rwa [wideL_len] at this
      go_wp2_with fail
      go_ret
      exact ⟨rfl, hb⟩
/-- The width of a number. -/
def ndig : Nat → Nat → Nat
  | 0, _ => 1
  | f + 1, n => if n < 10 then 1 else ndig f (n / 10) + 1
theorem ndig_pow (f : Nat) : ∀ n, n < 10 ^ (f + 1) → n < 10 ^ ndig f n ∧ ndig f n ≤ f + 1 ∧ 1 ≤ ndig f n ∧ (∀ k, n < 10 ^ k → 1 ≤ k → ndig f n ≤ k) := by
  induction f with
  | zero => intro n h; exact ⟨h, Nat.le_refl _, Nat.le_refl _, fun k _ hk => hk⟩
  | succ f ih =>
    intro n h
    unfold ndig
    split
    · rename_i h10
      exact ⟨by simpa using h10, by omega, Nat.le_refl _, fun k _ hk => hk⟩
    · rename_i h10
      obtain ⟨h1, h2, h3, h4⟩ := ih (n / 10) (by rw [Nat.pow_succ] at h; omega)
      refine ⟨by rw [Nat.pow_succ]; omega, by omega, by omega, fun k hk hk1 => ?_⟩
      cases k with
      | zero => omega
      | succ k =>
        have hkp : 1 ≤ k := by
          rcases Nat.eq_zero_or_pos k with h0 | h0
          · subst h0; simp at hk; omega
          · exact h0
        have := h4 k (by rw [Nat.pow_succ] at hk; omega) hkp
        omega
theorem widT_size (n k : Nat) : (widT n k).size = k := by
  show (wideL n k).toArray.size = k
  rw [List.size_toArray, wideL_len]
end Go.Proofs.YtphoclgibnhjfaaGreat
namespace Go.Proofs.YtphoclgibnhjfaaGreat
open Go Go.RowKit
/-- A call of this function enters it. -/
def Enters (A : FuncId) : Prop := ∀ (args : Array Value) (w : World), (callFunc A args).run Tryz.prog w = .ok (.enter A args) w
theorem enters {f : FuncId} {fn : Func} (hf : Tryz.prog.funcs[f]? = some fn) (hname : (fn.name == "runtime.NumGoroutine") = false) (hb : fn.body.isSome = true) : Enters f := fun args w => by
  have h1 : fn.name ≠ "runtime.NumGoroutine" := by simpa using hname
  cases h2 : fn.body with
  | none => rw [h2] at hb; cases hb
  | some c => simp [callFunc, hf, h1, h2]
/-- A function that gives the address of a part of a line. -/
structure AtF (A : FuncId) (o : Nat) : Prop where
  enter : Enters A
  call : ∀ (b : Nat) (w : World), Calls Tryz.prog A #[.pointer (some ⟨b, 0, none⟩)] w fun e w' => e = .returned (.pointer (some ⟨b, o, none⟩)) ∧ w' = w
theorem line_cell {w W : World} {l : LineV} {T : TypeId} {o : Nat} {v : Value} (hW : w.alloc (.cells l.cells T) = W) (h : l.cells[o]? = some v) : W.cell? ⟨w.heap.size, o, none⟩ = some v := by
  rw [← hW]
  exact cell_fresh w l.cells.toList T o v (by simpa using h)
set_option maxRecDepth 100000 in
set_option maxHeartbeats 1000000 in
theorem textShow (A : FuncId) (o b : Nat) (l : LineV) (t : ByteArray) (w : World) (hA : AtF A o) (hc : l.cells[o]? = some (.string t)) (hb : w.cell? ⟨b, 0, none⟩ = some (fnV A)) :
    Calls Tryz.prog 188 #[.agg l.cells, .pointer (some ⟨b, 0, none⟩)] w fun e w' => e = .returned (.string t) ∧ Below w.heap.size w w' := by
  have kc := line_cell (T := 88) (w := w) rfl hc
  have kb := b_old (below_alloc w (.cells l.cells 88)) hb
  have HB0 := Lib.hid (below_alloc w (.cells l.cells 88))
  have hen := hA.enter
  have hat := hA.call
  unfold Enters at hen
  clear hA
  obtain ⟨act, q⟩ := l
  obtain ⟨name, carrier, kind, terminal, partner, link, x, y, d, m, s, z, n⟩ := q
  simp only [LineV.cells, fnV] at *
  clear hb hc
  go_enter Tryz.func188, Tryz.ntmps188
  go_wp2_with fail
  refine (hat _ _).mono ?_
  rintro e1 w1 ⟨rfl, rfl⟩
  go_wp2_with fail
  go_ret
  exact ⟨rfl, HB0.out⟩
set_option maxRecDepth 100000 in
set_option maxHeartbeats 1000000 in
theorem numShow (A : FuncId) (o b c k n : Nat) (l : LineV) (w : World) (hA : AtF A o) (hc : l.cells[o]? = some (.int .i64 n)) (hb : w.cell? ⟨b, 0, none⟩ = some (fnV A)) (hk : w.cell? ⟨c, 0, none⟩ = some (.int .i64 k)) (hk9 : k ≤ 9) (hn : n ≤ 10000000) :
    Calls Tryz.prog 190 #[.agg l.cells, .pointer (some ⟨b, 0, none⟩), .pointer (some ⟨c, 0, none⟩)] w fun e w' => e = .returned (.string (widT n k)) ∧ Below w.heap.size w w' := by
  obtain ⟨W, HW, hb0⟩ : ∃ W, Hid (w.alloc (.cells l.cells 88) = W) ∧ Below w.heap.size w W := ⟨_, Lib.hid rfl, below_alloc _ _⟩
  have kc : ∀ x : KeptW W, x.v.cell? ⟨w.heap.size, o, none⟩ = _ := fun x => x.cell (line_cell HW.out hc)
  have kb : ∀ x : KeptW W, x.v.cell? ⟨b, 0, none⟩ = _ := fun x => x.cell (b_old hb0 hb)
  have kk : ∀ x : KeptW W, x.v.cell? ⟨c, 0, none⟩ = _ := fun x => x.cell (b_old hb0 hk)
  have hne : Nonempty (KeptW W) := ⟨⟨W, Below.refl _ _⟩⟩
  have hen := hA.enter
  have hat := hA.call
  unfold Enters at hen
  clear hA
  have hd := fun w => digits_any n k w hk9 hn
  obtain ⟨act, q⟩ := l
  obtain ⟨name, carrier, kind, terminal, partner, link, x, y, d, m, s, z, u⟩ := q
  simp only [LineV.cells, fnV] at *
  clear hb hc hk
  go_enter Tryz.func190, Tryz.ntmps190
  go_wp2_with fail
  rw [HW.out]
  clear HW
  refine region_kept (by kernel_rfl) (by kernel_rfl) ?_
  go_big_quiet_step (fail)
  go_big_quiet_step (exact KeptW.calls_same (hat _ _))
  iterate 3 (go_big_quiet_step (fail))
  go_big_quiet_step (exact KeptW.calls (hd _))
  go_big_quiet_step (fail)
  refine wpQuiet_nil ?_
  rintro _ ⟨v, rfl⟩
  have hbv := b_then hb0 v.below
  clear kc kb kk
  go_wp2_with fail
  go_ret
  exact ⟨rfl, hbv⟩
set_option maxRecDepth 100000 in
set_option maxHeartbeats 1000000 in
theorem codeShow (A S : FuncId) (o b c : Nat) (n : Int) (t : ByteArray) (er : Int) (l : LineV) (w : World) (hA : AtF A o) (hc : l.cells[o]? = some (.int .i64 n)) (hb : w.cell? ⟨b, 0, none⟩ = some (fnV A)) (hk : w.cell? ⟨c, 0, none⟩ = some (fnV S))
    (hSe : Enters S) (hS : ∀ w, Calls Tryz.prog S #[.int .i64 n] w fun e w' => e = .returned (.tuple #[.string t, .int .i64 er]) ∧ Below w.heap.size w w') :
    Calls Tryz.prog 192 #[.agg l.cells, .pointer (some ⟨c, 0, none⟩), .pointer (some ⟨b, 0, none⟩)] w fun e w' => e = .returned (.string t) ∧ Below w.heap.size w w' := by
  obtain ⟨W, HW, hb0⟩ : ∃ W, Hid (w.alloc (.cells l.cells 88) = W) ∧ Below w.heap.size w W := ⟨_, Lib.hid rfl, below_alloc _ _⟩
  have kc : ∀ x : KeptW W, x.v.cell? ⟨w.heap.size, o, none⟩ = _ := fun x => x.cell (line_cell HW.out hc)
  have kb : ∀ x : KeptW W, x.v.cell? ⟨b, 0, none⟩ = _ := fun x => x.cell (b_old hb0 hb)
  have kk : ∀ x : KeptW W, x.v.cell? ⟨c, 0, none⟩ = _ := fun x => x.cell (b_old hb0 hk)
  have hne : Nonempty (KeptW W) := ⟨⟨W, Below.refl _ _⟩⟩
  have hen := hA.enter
  have hat := hA.call
  unfold Enters at hen hSe
  clear hA
  obtain ⟨act, q⟩ := l
  obtain ⟨name, carrier, kind, terminal, partner, link, x, y, d, m, s, z, u⟩ := q
  simp only [LineV.cells, fnV] at *
  clear hb hc hk
  go_enter Tryz.func192, Tryz.ntmps192
  go_wp2_with fail
  rw [HW.out]
  clear HW
  refine region_kept (by kernel_rfl) (by kernel_rfl) ?_
  iterate 2 (go_big_quiet_step (fail))
  go_big_quiet_step (exact KeptW.calls_same (hat _ _))
  iterate 2 (go_big_quiet_step (fail))
  go_big_quiet_step (exact KeptW.calls (hS _))
  iterate 5 (go_big_quiet_step (fail))
  refine wpQuiet_nil ?_
  rintro _ ⟨v, rfl⟩
  have hbv := b_then hb0 v.below
  clear kc kb kk
  go_wp2_with fail
  go_ret
  exact ⟨rfl, hbv⟩
/-- A name in a line. -/
def dashT (s : ByteArray) : ByteArray := if (s.toList == []) = true then ⟨#[45]⟩ else s
set_option maxRecDepth 100000 in
set_option maxHeartbeats 1000000 in
theorem optShow (A : FuncId) (o b : Nat) (l : LineV) (t : ByteArray) (w : World) (hA : AtF A o) (hc : l.cells[o]? = some (.string t)) (hb : w.cell? ⟨b, 0, none⟩ = some (fnV A)) :
    Calls Tryz.prog 195 #[.agg l.cells, .pointer (some ⟨b, 0, none⟩)] w fun e w' => e = .returned (.string (dashT t)) ∧ Below w.heap.size w w' := by
  have kc := line_cell (T := 88) (w := w) rfl hc
  have kb := b_old (below_alloc w (.cells l.cells 88)) hb
  have HB0 := Lib.hid (below_alloc w (.cells l.cells 88))
  have hen := hA.enter
  have hat := hA.call
  unfold Enters at hen
  clear hA
  have HD : Hid (dashT t = if (t.toList == []) = true then ⟨#[45]⟩ else t) := Lib.hid rfl
  generalize dashT t = dt at HD ⊢
  obtain ⟨act, q⟩ := l
  obtain ⟨name, carrier, kind, terminal, partner, link, x, y, d, m, s, z, n⟩ := q
  simp only [LineV.cells, fnV] at *
  clear hb hc
  cases he : (t.toList == [])
  · have HE := Lib.hid (show dt = t by rw [HD.out, he]; rfl)
    go_enter Tryz.func195, Tryz.ntmps195
    go_wp2_with fail
    refine (hat _ _).mono ?_
    rintro e1 w1 ⟨rfl, rfl⟩
    go_wp2_with fail
    go_ret
    exact ⟨by rw [HE.out]; rfl, HB0.out⟩
  · have HE := Lib.hid (show dt = ⟨#[45]⟩ by rw [HD.out, he]; rfl)
    go_enter Tryz.func195, Tryz.ntmps195
    go_wp2_with fail
    refine (hat _ _).mono ?_
    rintro e1 w1 ⟨rfl, rfl⟩
    go_wp2_with fail
    go_ret
    exact ⟨by rw [HE.out]; rfl, HB0.out⟩
end Go.Proofs.YtphoclgibnhjfaaGreat
namespace Go.Proofs.YtphoclgibnhjfaaGreat
open Go.RowKit
def isS (s : ByteArray) : Bool := s.toList == [83]
def isW (s : ByteArray) : Bool := s.toList == [87]
def kindErr (s : ByteArray) : Int := if isS s = true ∨ isW s = true then 0 else 13
def seasonErr (y : Int) (s : ByteArray) : Int := fst [rng y 2000 2272, kindErr s]
def fDay (y : Int) (s : ByteArray) : Int := Cal.ls y (if isS s = true then 3 else 10)
theorem isS_W : isS ⟨#[87]⟩ = false := by decide +kernel
theorem isS_S : isS ⟨#[83]⟩ = true := by decide +kernel
theorem isW_W : isW ⟨#[87]⟩ = true := by decide +kernel
theorem isW_S : isW ⟨#[83]⟩ = false := by decide +kernel
def follY (y : Int) (s : ByteArray) : Int := if isS s = true then y else y + 1
def follK (s : ByteArray) : ByteArray := if isS s = true then ⟨#[87]⟩ else ⟨#[83]⟩
def lDay (y : Int) (s : ByteArray) : Int := fDay (follY y s) (follK s) - 1
theorem ls_bd (y : Int) (m : Nat) (h1 : 2000 ≤ y) (h2 : y ≤ 2300) (h3 : m ≤ 12) : -10 ≤ Cal.ls y m ∧ Cal.ls y m ≤ 150000 := by
  have := Cal.dn_bd y m 31 h1 h2 h3 (by omega) (by omega)
  unfold Cal.ls; omega
theorem fDay_bd (y : Int) (s : ByteArray) (h1 : 2000 ≤ y) (h2 : y ≤ 2300) : -10 ≤ fDay y s ∧ fDay y s ≤ 150000 := by
  unfold fDay; exact ls_bd _ _ h1 h2 (by split <;> omega)
theorem follY_bd (y : Int) (s : ByteArray) : y ≤ follY y s ∧ follY y s ≤ y + 1 := by unfold follY; split <;> omega
end Go.Proofs.YtphoclgibnhjfaaGreat
namespace Go.Proofs.YtphoclgibnhjfaaGreat
open Go.RowKit
def periodVal (a b d : Int) : Value := .agg #[.int .i64 a, .int .i64 b, .int .i64 d]
end Go.Proofs.YtphoclgibnhjfaaGreat
namespace Go.Proofs.YtphoclgibnhjfaaGreat
open Go.RowKit
theorem first_day : fDay 2000 ⟨#[83]⟩ = 85 := by unfold fDay; rw [if_pos isS_S]; decide
theorem last_day : lDay 2272 ⟨#[87]⟩ = 99799 := by
  unfold lDay follY follK
  rw [if_neg (by simp [isS_W]), if_neg (by simp [isS_W])]
  unfold fDay; rw [if_pos isS_S]; decide
def seaY (d y : Int) : Int := if d < Cal.ls y 3 then y - 1 else y
def seaK (d y : Int) : ByteArray := if d < Cal.ls y 3 then ⟨#[87]⟩ else if d < Cal.ls y 10 then ⟨#[83]⟩ else ⟨#[87]⟩
end Go.Proofs.YtphoclgibnhjfaaGreat
namespace Go.Proofs.YtphoclgibnhjfaaGreat
theorem bytes_eq {s : ByteArray} {l : List UInt8} (h : s.toList = l) : s = ⟨l.toArray⟩ := by
  rw [Lib.toList_data] at h
  obtain ⟨⟨d⟩⟩ := s
  simp at h
  rw [h]
def bS : ByteArray := ⟨#[83]⟩
def bW : ByteArray := ⟨#[87]⟩
theorem isS_bS : isS bS = true := isS_S
theorem isS_bW : isS bW = false := isS_W
theorem kind_bS : kindErr bS = 0 := by unfold kindErr; rw [isS_bS]; rfl
theorem isW_bW : isW bW = true := isW_W
theorem kind_bW : kindErr bW = 0 := by unfold kindErr; rw [if_pos (Or.inr isW_bW)]
theorem kind_two {s : ByteArray} (h : kindErr s = 0) : s = bS ∨ s = bW := by
  unfold kindErr at h
  split at h
  · rename_i hk
    rcases hk with hk | hk
    · left; have e : s.toList = [83] := by simpa [isS] using hk
      exact bytes_eq e
    · right; have e : s.toList = [87] := by simpa [isW] using hk
      exact bytes_eq e
  · omega
theorem fS (y : Int) : fDay y bS = Cal.ls y 3 := by unfold fDay; rw [isS_bS]; rfl
theorem fW (y : Int) : fDay y bW = Cal.ls y 10 := by unfold fDay; rw [isS_bW]; rfl
theorem follY_S (y : Int) : follY y bS = y := by unfold follY; rw [isS_bS]; rfl
theorem follY_W (y : Int) : follY y bW = y + 1 := by unfold follY; rw [isS_bW]; rfl
theorem follK_S : follK bS = bW := by unfold follK; rw [isS_bS]; rfl
theorem follK_W : follK bW = bS := by unfold follK; rw [isS_bW]; rfl
theorem lS (y : Int) : lDay y bS = Cal.ls y 10 - 1 := by unfold lDay; rw [follY_S, follK_S, fW]
theorem lW (y : Int) : lDay y bW = Cal.ls (y + 1) 3 - 1 := by unfold lDay; rw [follY_W, follK_W, fS]
theorem ls3 (y : Int) : Cal.ls y 3 = Cal.db y + 89 + Cal.lv y - (Cal.db y + 89 + Cal.lv y + 6) % 7 := by
  have e : Cal.dn y 3 31 = Cal.db y + 89 + Cal.lv y := by unfold Cal.dn; rw [show (3 - 1 : Nat) = 2 from rfl, Cal.cum_2]; omega
  unfold Cal.ls Cal.wd; rw [e]; omega
theorem ls10 (y : Int) : Cal.ls y 10 = Cal.db y + 303 + Cal.lv y - (Cal.db y + 303 + Cal.lv y + 6) % 7 := by
  have e : Cal.dn y 10 31 = Cal.db y + 303 + Cal.lv y := by unfold Cal.dn; rw [show (10 - 1 : Nat) = 9 from rfl, Cal.cum_9]; omega
  unfold Cal.ls Cal.wd; rw [e]; omega
/-- What is known of a season: its days F to T. -/
structure SeaF (F T : Int) : Prop where
  lo : 85 ≤ F
  hi : T ≤ 99799
  sun : (F + 5) % 7 = 6
  wk : (T + 1 - F) % 7 = 0
  l1 : 147 ≤ T + 1 - F
  l2 : T + 1 - F ≤ 217
theorem seaF {y : Int} {s : ByteArray} (h1 : 2000 ≤ y) (h2 : y ≤ 2272) (hk : s = bS ∨ s = bW) : SeaF (fDay y s) (lDay y s) := by
  have a3 := ls3 y
  have a10 := ls10 y
  have b3 := ls3 (y + 1)
  have hs := Cal.db_succ y
  have v1 := Cal.lv_bd y
  have v2 := Cal.lv_bd (y + 1)
  have d1 := Cal.db_mono 2000 y h1
  have d2 := Cal.db_mono y 2272 h2
  rw [Cal.db_2000] at d1
  have e2272 : Cal.db 2272 = 99346 := by decide
  rw [e2272] at d2
  have lo : 85 ≤ Cal.ls y 3 := by
    by_cases e : y = 2000
    · subst e; decide
    · have := Cal.db_mono 2001 y (by omega)
      have e1 : Cal.db 2001 = 366 := by decide
      omega
  rcases hk with rfl | rfl
  · rw [fS, lS]
    exact ⟨lo, by omega, by omega, by omega, by omega, by omega⟩
  · rw [fW, lW]
    refine ⟨by omega, ?_, by omega, by omega, by omega, by omega⟩
    by_cases e : y = 2272
    · subst e; decide
    · have := Cal.db_mono (y + 1) 2272 (by omega)
      omega
/-- The season of a day of a season. -/
theorem sea_in {y : Int} {s : ByteArray} {d : Int} (h1 : 2000 ≤ y) (h2 : y ≤ 2272) (hk : s = bS ∨ s = bW) (hd1 : fDay y s ≤ d) (hd2 : d ≤ lDay y s) :
    ∃ z, 2000 ≤ z ∧ z ≤ 2273 ∧ Cal.db z ≤ d ∧ d < Cal.db (z + 1) ∧ seaY d z = y ∧ seaK d z = s := by
  have a3 := ls3 y
  have a10 := ls10 y
  have b3 := ls3 (y + 1)
  have b10 := ls10 (y + 1)
  have hs := Cal.db_succ y
  have hs2 := Cal.db_succ (y + 1)
  have v1 := Cal.lv_bd y
  have v2 := Cal.lv_bd (y + 1)
  rcases hk with rfl | rfl
  · rw [fS] at hd1
    rw [lS] at hd2
    refine ⟨y, h1, by omega, by omega, by omega, ?_, ?_⟩
    · unfold seaY; rw [if_neg (by omega)]
    · unfold seaK; rw [if_neg (by omega), if_pos (by omega)]; rfl
  · rw [fW] at hd1
    rw [lW] at hd2
    by_cases e : d < Cal.db (y + 1)
    · refine ⟨y, h1, by omega, by omega, e, ?_, ?_⟩
      · unfold seaY; rw [if_neg (by omega)]
      · unfold seaK; rw [if_neg (by omega), if_neg (by omega)]; rfl
    · refine ⟨y + 1, by omega, by omega, by omega, by omega, ?_, ?_⟩
      · unfold seaY; rw [if_pos (by omega)]; omega
      · unfold seaK; rw [if_pos (by omega)]; rfl
end Go.Proofs.YtphoclgibnhjfaaGreat
namespace Go.Proofs.YtphoclgibnhjfaaGreat
open Go.RowKit
theorem sea_zero {y : Int} {s : ByteArray} (h1 : 2000 ≤ y) (h2 : y ≤ 2272) (hk : kindErr s = 0) : seasonErr y s = 0 := by simp [seasonErr, fst, rng, h1, h2, hk]
theorem sw_ne : ¬ bS.toList = [87] := by decide +kernel
theorem ws_ne : ¬ bW.toList = [83] := by decide +kernel
theorem ww_eq : bW.toList = [87] := by decide +kernel
end Go.Proofs.YtphoclgibnhjfaaGreat
namespace Go.Proofs.YtphoclgibnhjfaaGreat
open Go.RowKit
theorem toList_self (s : ByteArray) : (s.toList == s.toList) = true := by simp
def equiRes (F T p : Int) : Value := if F + p ≤ T then .tuple #[.int .i64 (F + p), .int .i64 0] else .tuple #[.int .i64 0, .int .i64 7]
end Go.Proofs.YtphoclgibnhjfaaGreat
namespace Go.Proofs.YtphoclgibnhjfaaGreat
open Go.RowKit
theorem ne_7 : fst [0, 7] = 7 := rfl
theorem foll_kind {s : ByteArray} (hk : s = bS ∨ s = bW) : follK s = bS ∨ follK s = bW := by
  rcases hk with rfl | rfl
  · exact .inr follK_S
  · exact .inl follK_W
set_option maxRecDepth 100000 in
theorem qCheckPeriod_ok (a b m : Int) (w : World) (h1 : 0 ≤ a) (h2 : a ≤ b) (h3 : b ≤ 99999) (h4 : b - a ≤ 400) (hm1 : 1 ≤ m) (hm2 : m ≤ 127) :
    Calls Tryz.prog 128 #[.agg #[.int .i64 a, .int .i64 b, .int .i64 m]] w fun r w' => r = .returned (.int .i64 0) ∧ Below w.heap.size w w' := by
  obtain ⟨W, HW, hb0, hc0, hc1, hc2⟩ : ∃ W, Hid (w.alloc (.cells #[.int .i64 a, .int .i64 b, .int .i64 m] 82) = W) ∧ Below w.heap.size w W ∧ W.cell? ⟨w.heap.size, 0, none⟩ = some (.int .i64 a) ∧ W.cell? ⟨w.heap.size, 1, none⟩ = some (.int .i64 b) ∧ W.cell? ⟨w.heap.size, 2, none⟩ = some (.int .i64 m) := ⟨_, Lib.hid rfl, below_alloc w _, by simp, by simp, by simp⟩
  have RA : Hid (rng a 0 99999 = 0) := Lib.hid (rng_ok h1 (by omega))
  have RB : Hid (rng b 0 99999 = 0) := Lib.hid (rng_ok (by omega) h3)
  have RM : Hid (rng m 1 127 = 0) := Lib.hid (rng_ok hm1 hm2)
  go_enter Tryz.func128, Tryz.ntmps128
  go_wp2_with fail
  rw [HW.out]
  refine (qCheckDay_any _ _).mono ?_
  rintro e w2 ⟨rfl, hw⟩
  rw [hw, RA.out]
  clear hw
  go_wp2_with fail
  refine (qCheckDay_any _ _).mono ?_
  rintro e w2 ⟨rfl, hw⟩
  rw [hw, RB.out]
  clear hw
  go_wp2_with fail
  refine (qRange_any _ _ _ _).mono ?_
  rintro e w2 ⟨rfl, hw⟩
  rw [hw, RM.out]
  clear hw
  go_wp2_with fail
  go_ret
  exact ⟨rfl, hb0⟩
end Go.Proofs.YtphoclgibnhjfaaGreat
namespace Go.Proofs.YtphoclgibnhjfaaGreat
open Go Go.RowKit
def bitN (n k : Nat) : Bool := n / 2 ^ k % 2 == 1
def refN (n s : Nat) : Nat → Nat
  | 0 => 0
  | w + 1 => refN n s w + (if bitN n ((w + 7 - s) % 7) = true then 2 ^ w else 0)
theorem refN_bd (n s w : Nat) : refN n s w < 2 ^ w := by
  induction w with
  | zero => simp [refN]
  | succ w ih =>
    rw [refN, Nat.pow_succ]
    split <;> omega
theorem InMask_nat (n k : Nat) (w : World) (h1 : n ≤ 100000) (hk : k ≤ 63) :
    Calls Tryz.prog 203 #[.int .i64 n, .int .i64 k] w fun r w' => r = .returned (.bool (bitN n k)) ∧ w' = w := by
  go_enter Tryz.func203, Tryz.ntmps203
  go_wp2_with fail
  go_loop [0, 5] (fun a b => ∃ j : Nat, j ≤ k ∧ b = .int .i64 j ∧ a = .int .i64 ((n / 2 ^ j : Nat) : Int)) (fun _ b => k - (intOf b).toNat)
  case atStart => exact ⟨0, Nat.zero_le _, rfl, by simp⟩
  case round =>
    obtain ⟨j, hj, rfl, rfl⟩ := hrel
    have hle : n / 2 ^ j ≤ n := Nat.div_le_self _ _
    have HS : Hid (n / 2 ^ (j + 1) = n / 2 ^ j / 2) := Lib.hid (by rw [Nat.pow_succ, Nat.div_div_eq_div_mul])
    have HB : Hid (j = k → bitN n k = (n / 2 ^ j % 2 == 1)) := Lib.hid (fun e => by rw [e]; rfl)
    generalize n / 2 ^ j = v at *
    by_cases hlt : j < k
    · go_wp2_with fail
      go_round
      case rel => exact ⟨j + 1, by omega, by go_num, by rw [HS.out]; go_num⟩
      case measure => simp [intOf]; omega
    · obtain rfl : j = k := by omega
      have HB2 := Lib.hid (HB.out rfl)
      by_cases hm : v % 2 = 1
      · have hv : (v : Int) % 2 = 1 := by omega
        go_wp2_with fail
        go_ret
        exact ⟨by rw [HB2.out, hm]; rfl, rfl⟩
      · have hv : (v : Int) % 2 = 0 := by omega
        go_wp2_with fail
        go_ret
        exact ⟨by rw [HB2.out, show v % 2 = 0 from by omega]; rfl, rfl⟩
end Go.Proofs.YtphoclgibnhjfaaGreat
namespace Go.Proofs.YtphoclgibnhjfaaGreat
open Go Go.RowKit
def mb (n i : Nat) : Nat := if bitN n i = true then 49 + i else 48
theorem mb_bd (n i : Nat) (h : i < 7) : mb n i < 256 := by unfold mb; split <;> omega
def maskL (n : Nat) : List UInt8 := [UInt8.ofNat (mb n 0), UInt8.ofNat (mb n 1), UInt8.ofNat (mb n 2), UInt8.ofNat (mb n 3), UInt8.ofNat (mb n 4), UInt8.ofNat (mb n 5), UInt8.ofNat (mb n 6)]
def maskT (n : Nat) : ByteArray := ⟨(maskL n).toArray⟩
theorem maskL_get (n j : Nat) (h : j < (maskL n).length) : (((maskL n)[j]'h).toNat : Int) = (mb n j : Nat) := by
  have h7 : j < 7 := h
  have e : (maskL n)[j]'h = UInt8.ofNat (mb n j) := by
    match j, h7 with
    | 0, _ | 1, _ | 2, _ | 3, _ | 4, _ | 5, _ | 6, _ => rfl
  rw [e, UInt8.toNat_ofNat']
  have := mb_bd n j h7
  omega
def mk (s : ByteArray) : Nat → Nat
  | 0 => 0
  | k + 1 => mk s k + (if byteAt s k = 49 + k then 2 ^ k else 0)
theorem mk_bd (s : ByteArray) (k : Nat) : mk s k < 2 ^ k := by
  induction k with
  | zero => simp [mk]
  | succ k ih => rw [mk, Nat.pow_succ]; split <;> omega
def maskForm (s : ByteArray) : Prop := s.size = 7 ∧ ∀ i, i < 7 → byteAt s i = 48 ∨ byteAt s i = 49 + i
instance (s : ByteArray) : Decidable (maskForm s) := by unfold maskForm; infer_instance
def pmV (s : ByteArray) : Nat := if maskForm s then mk s 7 else 0
theorem pmV_lt (s : ByteArray) : pmV s < 128 := by
  unfold pmV
  split
  · exact mk_bd s 7
  · decide
theorem pmV_T : ∀ n, n < 128 → pmV (maskT n) = n := by decide +kernel
theorem T_pmV {s : ByteArray} (h : maskForm s) : maskT (mk s 7) = s := by
  obtain ⟨hs, hb⟩ := h
  obtain ⟨⟨l⟩⟩ := s
  have hl : l.length = 7 := hs
  match l, hl with
  | [c0, c1, c2, c3, c4, c5, c6], _ =>
    have k0 : c0.toNat = 48 ∨ c0.toNat = 49 := hb 0 (by decide)
    have k1 : c1.toNat = 48 ∨ c1.toNat = 50 := hb 1 (by decide)
    have k2 : c2.toNat = 48 ∨ c2.toNat = 51 := hb 2 (by decide)
    have k3 : c3.toNat = 48 ∨ c3.toNat = 52 := hb 3 (by decide)
    have k4 : c4.toNat = 48 ∨ c4.toNat = 53 := hb 4 (by decide)
    have k5 : c5.toNat = 48 ∨ c5.toNat = 54 := hb 5 (by decide)
    have k6 : c6.toNat = 48 ∨ c6.toNat = 55 := hb 6 (by decide)
    have e : ∀ (c : UInt8) (a b : Nat), a < 256 → b < 256 → (c.toNat = a ∨ c.toNat = b) → c = UInt8.ofNat a ∨ c = UInt8.ofNat b := fun c a b ha hb h => by
      rcases h with h | h
      · left; rw [← UInt8.toNat_inj, h, UInt8.toNat_ofNat']; omega
      · right; rw [← UInt8.toNat_inj, h, UInt8.toNat_ofNat']; omega
    clear hb hs
    rcases e _ _ _ (by decide) (by decide) k0 with rfl | rfl <;> rcases e _ _ _ (by decide) (by decide) k1 with rfl | rfl <;> rcases e _ _ _ (by decide) (by decide) k2 with rfl | rfl <;> rcases e _ _ _ (by decide) (by decide) k3 with rfl | rfl <;> rcases e _ _ _ (by decide) (by decide) k4 with rfl | rfl <;> rcases e _ _ _ (by decide) (by decide) k5 with rfl | rfl <;> rcases e _ _ _ (by decide) (by decide) k6 with rfl | rfl <;> rfl
theorem mask_same (s : ByteArray) (n : Nat) (h1 : 1 ≤ n) (h : n < 128) : maskT n = s ↔ pmV s = n := by
  constructor
  · rintro rfl; exact pmV_T n h
  · intro e
    unfold pmV at e
    split at e
    · rename_i hf; rw [← e]; exact T_pmV hf
    · omega
theorem mask_eq (s : ByteArray) (n : Nat) (h1 : 1 ≤ n) (h : n < 128) : ((maskT n).toList == s.toList) = decide (pmV s = n) := by
  rw [Bool.eq_iff_iff, beq_iff_eq, decide_eq_true_eq, ← mask_same s n h1 h, Lib.toList_data, Lib.toList_data]
  constructor
  · intro e; obtain ⟨⟨l⟩⟩ := s; simp only at e; show (⟨(maskL n).toArray⟩ : ByteArray) = _; simp [maskT] at e; rw [← e]
  · rintro rfl; rfl
theorem pmV_none {s : ByteArray} (h : ∀ m, 1 ≤ m → m < 128 → pmV s ≠ m) : pmV s = 0 := by
  have := pmV_lt s
  rcases Nat.eq_zero_or_pos (pmV s) with h0 | h0
  · exact h0
  · exact absurd rfl (h _ h0 this)
theorem or_bit : ∀ k : Nat, k < 7 → ∀ m : Nat, m < 2 ^ k → bits BinOp.or IntKind.i64 (m : Int) ((2 ^ k : Nat) : Int) = ((m + 2 ^ k : Nat) : Int) := by decide +kernel
theorem and_bit (n k : Nat) (h : n ≤ 127) : (bits BinOp.and IntKind.i64 ((n : Int) / 2 ^ k) 1 == 1) = bitN n k := by
  have e : (n : Int) / 2 ^ k = ((n / 2 ^ k : Nat) : Int) := by simp
  have hle : n / 2 ^ k ≤ n := Nat.div_le_self _ _
  rw [e]
  unfold bitN
  generalize n / 2 ^ k = q at *
  rw [and1 (q : Int) (by omega) (by omega), Bool.eq_iff_iff, beq_iff_eq, beq_iff_eq]
  omega
end Go.Proofs.YtphoclgibnhjfaaGreat
namespace Go.Proofs.YtphoclgibnhjfaaGreat
open Go Go.RowKit
theorem addr_add (b j : Nat) : (⟨b, 0, none⟩ : Addr).add j = ⟨b, j, none⟩ := by
  unfold Addr.add
  by_cases h : j = 0 <;> simp [h]
theorem PrintMask_bad (m : Int) (w : World) (h : ¬ (1 ≤ m ∧ m ≤ 127)) :
    Calls Tryz.prog 153 #[.int .i64 m] w fun r w' => r = .returned (.tuple #[.string ⟨#[]⟩, .int .i64 3]) ∧ w' = w := by
  have HR : Hid (rng m 1 127 = 3) := Lib.hid (rng_bad h)
  clear h
  go_enter Tryz.func153, Tryz.ntmps153
  go_wp2_with fail
  refine (checkMask_any _ _).mono ?_
  rintro e w1 ⟨rfl, hw⟩
  rw [hw, HR.out]
  clear hw
  go_wp2_with fail
  exact bodyPost_ret (v := .tuple #[.string ⟨#[]⟩, .int .i64 3]) (by simp [results, Tryz.results153, go_sem]) rfl ⟨rfl, rfl⟩
set_option maxRecDepth 100000 in
set_option maxHeartbeats 1000000 in
theorem PrintMask_ok (n : Nat) (w : World) (h1 : 1 ≤ n) (h2 : n ≤ 127) :
    Calls Tryz.prog 153 #[.int .i64 n] w fun r w' => r = .returned (.tuple #[.string (maskT n), .int .i64 0]) ∧ Below w.heap.size w w' := by
  have HR : Hid (rng n 1 127 = 0) := Lib.hid (rng_ok (by omega) (by omega))
  go_enter Tryz.func153, Tryz.ntmps153
  go_wp2_with fail
  refine (checkMask_any _ _).mono ?_
  rintro e w1 ⟨rfl, hw⟩
  rw [hw, HR.out]
  clear hw
  go_wp2_with fail
  obtain ⟨W, hW, hbW, R0⟩ : ∃ W, w.alloc (.cells #[.int .u8 0, .int .u8 0, .int .u8 0, .int .u8 0, .int .u8 0, .int .u8 0, .int .u8 0] 240) = W ∧ Below w.heap.size w W ∧ Res 7 w.heap.size W W :=
    ⟨_, rfl, below_alloc _ _, ⟨fun i hi => by
      match i, hi with
      | 0, _ | 1, _ | 2, _ | 3, _ | 4, _ | 5, _ | 6, _ => exact ⟨_, by simp; rfl⟩, fun i hi => by
      match i, hi with
      | 0, _ | 1, _ | 2, _ | 3, _ | 4, _ | 5, _ | 6, _ => simp, Below.refl _ _⟩⟩
  rw [hW]
  clear hW
  go_loopw [6, 12] (fun _ i wr => ∃ k : Nat, k ≤ 7 ∧ i = .int .i64 k ∧ Res 7 w.heap.size W wr ∧ Hid (∀ j, j < k → wr.cell? ⟨w.heap.size, j, none⟩ = some (.int .u8 (mb n j : Nat)))) (fun _ i _ => 7 - (intOf i).toNat)
  case atStart => exact ⟨0, by omega, rfl, R0, Lib.hid (fun j hj => absurd hj (Nat.not_lt_zero _))⟩
  case round =>
    obtain ⟨k, hk, rfl, hr, hc⟩ := hrel
    by_cases hlt : k < 7
    · obtain ⟨v, hv⟩ := hr.cell k hlt
      have hf := hr.frozen k hlt
      have hr2 := hr.set k (.int .u8 48)
      have hv2 := set_same (u := .int .u8 48) hv
      have hf2 := hr2.frozen k hlt
      have HST : Hid (∀ (V : World), (∀ j, j < k → V.cell? ⟨w.heap.size, j, none⟩ = some (.int .u8 (mb n j : Nat))) → V.cell? ⟨w.heap.size, k, none⟩ = some (.int .u8 (mb n k : Nat)) → ∀ j, j < k + 1 → V.cell? ⟨w.heap.size, j, none⟩ = some (.int .u8 (mb n j : Nat))) := Lib.hid (fun V ha hb j hj => by
        rcases Nat.lt_or_ge j k with h | h
        · exact ha j h
        · obtain rfl : j = k := by omega
          exact hb)
      have HK1 : Hid (∀ j, j < k → (wr.setCell ⟨w.heap.size, k, none⟩ (.int .u8 48)).cell? ⟨w.heap.size, j, none⟩ = some (.int .u8 (mb n j : Nat))) := Lib.hid (fun j hj => set_other (hc.out j hj) (by simp <;> omega))
      have hbit := and_bit n k h2
      cases hbb : bitN n k
      · rw [hbb] at hbit
        have HM : Hid (mb n k = 48) := Lib.hid (by unfold mb; rw [hbb]; rfl)
        have HF := Lib.hid (HST.out _ HK1.out (by rw [HM.out]; exact hv2))
        clear HST HK1 hbb hc
        go_wp2_with fail
        go_roundw
        case rel => exact ⟨k + 1, by omega, by go_num, hr2, HF⟩
        case measure => simp [intOf]; omega
      · rw [hbb] at hbit
        have HM : Hid (mb n k = 49 + k) := Lib.hid (by unfold mb; rw [hbb]; rfl)
        have hr3 := hr2.set k (.int .u8 (49 + (k : Int)))
        have HF := Lib.hid (HST.out ((wr.setCell ⟨w.heap.size, k, none⟩ (.int .u8 48)).setCell ⟨w.heap.size, k, none⟩ (.int .u8 (49 + (k : Int)))) (fun j hj => set_other (HK1.out j hj) (by simp <;> omega)) (by rw [HM.out]; exact set_same hv2))
        clear HST HK1 hbb hc
        go_wp2_with fail
        go_roundw
        case rel => exact ⟨k + 1, by omega, by go_num, hr3, HF⟩
        case measure => simp [intOf]; omega
    · obtain rfl : k = 7 := by omega
      have hb := hbW.trans hr.below
      have hcv : (convert 209 9 (.slice (some ⟨w.heap.size, 0, none⟩) 7 7)).run Tryz.prog wr = .ok (.string (maskT n)) wr :=
        run_convert_bytes_back wr 209 9 5 ⟨w.heap.size, 0, none⟩ 7 (maskL n) Tryz.underlying209 Tryz.underlying5 Tryz.underlying9 (fun j hj => by
          rw [maskL_get n j hj, addr_add]
          exact hc.out j hj)
      clear hc
      go_wp2_with fail
      exact bodyPost_ret (v := .tuple #[.string (maskT n), .int .i64 0]) (by simp [results, Tryz.results153, go_sem]) rfl ⟨rfl, hb⟩
def qmL (n : Nat) : Nat → List UInt8
  | 0 => []
  | k + 1 => qmL n k ++ [UInt8.ofNat (mb n k)]
theorem qmL_len (n k : Nat) : (qmL n k).length = k := by
  induction k with
  | zero => rfl
  | succ k ih => simp [qmL, ih]
theorem qmL_7 (n : Nat) : qmL n 7 = maskL n := rfl
theorem dig_mb (k : Nat) : (dig (k + 1)) = UInt8.ofNat (49 + k) := by
  unfold dig
  rw [show 48 + (k + 1) = 49 + k by omega]
set_option maxRecDepth 100000 in
set_option maxHeartbeats 1000000 in
theorem qPrintMask_any (n : Nat) (w : World) (h2 : n ≤ 127) :
    Calls Tryz.prog 173 #[.int .i64 n] w fun r w' => r = .returned (.string (maskT n)) ∧ w' = w := by
  go_enter Tryz.func173, Tryz.ntmps173
  go_wp2_with fail
  go_loop [3, 4] (fun s i => ∃ k : Nat, k ≤ 7 ∧ i = .int .i64 k ∧ s = .string ⟨(qmL n k).toArray⟩) (fun _ i => 7 - (intOf i).toNat)
  case atStart => exact ⟨0, by omega, rfl, rfl⟩
  case round =>
    obtain ⟨k, hk, rfl, rfl⟩ := hrel
    by_cases hlt : k < 7
    · have HL := Lib.hid (qmL_len n k)
      cases hbb : bitN n k
      · have HB := Lib.hid hbb
        have HT : Hid ((⟨(qmL n k).toArray⟩ : ByteArray) ++ ⟨#[48]⟩ = ⟨(qmL n (k + 1)).toArray⟩) := Lib.hid (by rw [cat_lists _ [48], qmL]; unfold mb; rw [hbb]; rfl)
        clear hbb
        generalize qmL n k = l at *
        have hl := HL.out
        go_wp2_with fail
        refine (InMask_nat n k _ (by omega) (by omega)).mono ?_
        rintro e w2 ⟨rfl, hw⟩
        rw [hw, HB.out]
        clear hw
        go_wp2_with fail
        go_round
        case rel => exact ⟨k + 1, by omega, by go_num, by rw [← HT.out]⟩
        case measure => simp [intOf]; omega
      · have HB := Lib.hid hbb
        have HT : Hid ((⟨(qmL n k).toArray⟩ : ByteArray) ++ ⟨#[dig (k + 1)]⟩ = ⟨(qmL n (k + 1)).toArray⟩) := Lib.hid (by rw [cat_lists _ [dig (k + 1)], dig_mb]; rw [qmL]; unfold mb; rw [hbb]; rfl)
        have HD : Hid (∀ w, Calls Tryz.prog 204 #[.int .i64 ((k : Int) + 1)] w fun r w' => r = .returned (.string ⟨#[dig (k + 1)]⟩) ∧ w' = w) := Lib.hid (fun w => by
          have := qdigit_any (k + 1) w (by omega)
          rwa [Int.natCast_add] at this)
        clear hbb
        generalize qmL n k = l at *
        have hl := HL.out
        go_wp2_with fail
        refine (InMask_nat n k _ (by omega) (by omega)).mono ?_
        rintro e w2 ⟨rfl, hw⟩
        rw [hw, HB.out]
        clear hw
        go_wp2_with fail
        refine (HD.out _).mono ?_
        rintro e w2 ⟨rfl, hw⟩
        rw [hw]
        clear hw
        go_wp2_with fail
        go_round
        case rel => exact ⟨k + 1, by omega, by go_num, by rw [← HT.out]⟩
        case measure => simp [intOf]; omega
    · obtain rfl : k = 7 := by omega
      go_wp2_with fail
      go_ret
      exact ⟨rfl, rfl⟩
end Go.Proofs.YtphoclgibnhjfaaGreat
namespace Go.Proofs.YtphoclgibnhjfaaGreat
open Go Go.RowKit
def pmErr (s : ByteArray) : Int := if pmV s = 0 then 25 else 0
theorem pmV_bad {s : ByteArray} (h : ¬ maskForm s) : pmV s = 0 := by unfold pmV; rw [if_neg h]
theorem pmV_good {s : ByteArray} (h : maskForm s) : pmV s = mk s 7 := by unfold pmV; rw [if_pos h]
set_option maxRecDepth 100000 in
set_option maxHeartbeats 1000000 in
theorem ParseMask_any (s : ByteArray) (w : World) :
    Calls Tryz.prog 154 #[.string s] w fun r w' => r = .returned (.tuple #[.int .i64 (pmV s : Nat), .int .i64 (pmErr s)]) ∧ Below w.heap.size w w' := by
  by_cases h7 : s.size = 7
  · have hb : ((s.size : Int) != 7) = false := by simp [h7]
    have HS := Lib.hid h7
    clear h7
    go_enter Tryz.func154, Tryz.ntmps154
    go_wp2_with fail
    obtain ⟨W, hW, hb0, hit0⟩ : ∃ W, w.iter s 0 = W ∧ Below w.heap.size w W ∧ W.heap[w.heap.size]? = some (.stringIter s 0) := ⟨_, rfl, below_alloc _ _, World.iter_heap w s 0⟩
    rw [hW]
    clear hW
    go_loopw [4] (fun m wr => ∃ pos : Nat, pos ≤ 7 ∧ m = .int .i64 (mk s pos : Nat) ∧ Hid (∀ i, i < pos → byteAt s i = 48 ∨ byteAt s i = 49 + i) ∧ Below w.heap.size w wr ∧ wr.heap[w.heap.size]? = some (.stringIter s pos)) (fun _ wr => 7 - wr.iterPos w.heap.size)
    case atStart => exact ⟨0, Nat.zero_le _, rfl, Lib.hid (fun i hi => absurd hi (Nat.not_lt_zero _)), hb0, hit0⟩
    case round =>
      obtain ⟨pos, hps, rfl, HP, hbr, hit⟩ := hrel
      by_cases hp : pos < 7
      · have hpz : pos < s.size := by rw [HS.out]; exact hp
        obtain ⟨r, p2, hnx0, hlo, hhi, hr2⟩ := next_byte (P := Tryz.prog) wr w.heap.size pos s hit hpz
        obtain ⟨W2, hnx, hb2', hit2⟩ : ∃ W2, (∀ ty, (Instr.next (.pointer (some ⟨w.heap.size, 0, none⟩)) true ty).run Tryz.prog wr = .ok (.tuple #[.bool true, .int .i64 pos, .int .i32 r]) W2) ∧ Below w.heap.size w W2 ∧ W2.heap[w.heap.size]? = some (.stringIter s p2) :=
          ⟨_, hnx0, hbr.trans (nb_below _ _ _ _), Lib.iterAt_heap _ _ _ _ _ hit⟩
        clear hnx0
        have HMU : Hid (wr.iterPos w.heap.size = pos) := Lib.hid (by simp [World.iterPos, hit])
        have HMU2 : Hid (W2.iterPos w.heap.size = p2) := Lib.hid (by simp [World.iterPos, hit2])
        clear hit
        by_cases hok : byteAt s pos = 48 ∨ byteAt s pos = 49 + pos
        · obtain ⟨hr, hp2⟩ := hlo (by omega)
          subst hp2
          have HP2 : Hid (∀ i, i < pos + 1 → byteAt s i = 48 ∨ byteAt s i = 49 + i) := Lib.hid (fun i hi => by
            rcases Nat.lt_or_ge i pos with h | h
            · exact HP.out i h
            · obtain rfl : i = pos := by omega
              exact hok)
          rw [← hr] at hok
          have HN : Hid (mk s (pos + 1) = mk s pos + (if r = 49 + pos then 2 ^ pos else 0)) := Lib.hid (by rw [hr]; rfl)
          have HO := Lib.hid (or_bit pos hp (mk s pos) (mk_bd s pos))
          have hmb := mk_bd s pos
          clear hlo hhi hr hpz
          generalize hm : mk s pos = m at *
          clear hm
          rcases hok with rfl | rfl
          · have HN2 : Hid (mk s (pos + 1) = m) := Lib.hid (by rw [HN.out, if_neg (by omega)]; rfl)
            clear HN HO
            go_wp2_with fail
            go_roundw
            case rel => exact ⟨pos + 1, by omega, by rw [HN2.out], HP2, hb2', hit2⟩
            case measure => rw [HMU.out, HMU2.out]; omega
          · have HN2 : Hid (mk s (pos + 1) = m + 2 ^ pos) := Lib.hid (by rw [HN.out, if_pos rfl])
            have ho := HO.out
            clear HN HO
            obtain rfl | rfl | rfl | rfl | rfl | rfl | rfl : pos = 0 ∨ pos = 1 ∨ pos = 2 ∨ pos = 3 ∨ pos = 4 ∨ pos = 5 ∨ pos = 6 := by omega
            all_goals
              go_wp2_with fail
              go_roundw
              case rel => exact ⟨_, by omega, by rw [HN2.out, ← ho]; rfl, HP2, hb2', hit2⟩
              case measure => rw [HMU.out, HMU2.out]; omega
        · have HB : Hid (pmV s = 0) := Lib.hid (pmV_bad fun h => hok (h.2 pos hp))
          have hne : r ≠ 48 ∧ r ≠ 49 + pos := by
            by_cases hc : byteAt s pos < 128
            · rw [(hlo hc).1]; omega
            · have := hhi (by omega); omega
          have q1 : ((r : Int) == 48) = false := by rw [beq_eq_false_iff_ne]; omega
          have q2 : ((r : Int) == 49 + (pos : Int)) = false := by rw [beq_eq_false_iff_ne]; omega
          clear hlo hhi hok hne
          go_wp2_with fail
          go_ret2
          exact ⟨by unfold pmErr; rw [HB.out]; rfl, hb2'⟩
      · obtain rfl : pos = 7 := by omega
        have HF : Hid (pmV s = mk s 7) := Lib.hid (pmV_good ⟨HS.out, HP.out⟩)
        have hnx : ∀ ty, (Instr.next (.pointer (some ⟨w.heap.size, 0, none⟩)) true ty).run Tryz.prog wr = _ := fun ty => Lib.run_next_end_at wr w.heap.size s 7 ty hit (by rw [HS.out]; omega)
        have HE : Hid (pmErr s = if mk s 7 = 0 then 25 else 0) := Lib.hid (by unfold pmErr; rw [HF.out])
        generalize mk s 7 = m at *
        by_cases hm : m = 0
        · subst hm
          go_wp2_with (go_at_call 99; refine (unless_any _ _ _).mono ?_; rintro e w' ⟨rfl, hw⟩; rw [hw]; clear hw)
          go_ret2
          exact ⟨by rw [HE.out, HF.out]; rfl, hbr⟩
        · have hmb : ((m : Int) != 0) = true := by rw [bne_iff_ne]; omega
          have HM : Hid (m ≠ 0) := Lib.hid hm
          clear hm
          go_wp2_with (go_at_call 99; refine (unless_any _ _ _).mono ?_; rintro e w' ⟨rfl, hw⟩; rw [hw]; clear hw)
          go_ret2
          exact ⟨by rw [HE.out, HF.out, if_neg HM.out]; rfl, hbr⟩
  · have HB : Hid (pmV s = 0) := Lib.hid (pmV_bad fun h => h7 h.1)
    have hb : ((s.size : Int) != 7) = true := by rw [bne_iff_ne]; omega
    clear h7
    go_enter Tryz.func154, Tryz.ntmps154
    go_wp2_with fail
    go_ret2
    exact ⟨by unfold pmErr; rw [HB.out]; rfl, Below.refl _ _⟩
set_option maxRecDepth 100000 in
theorem qParseMask_any (s : ByteArray) (w : World) :
    Calls Tryz.prog 114 #[.string s] w fun r w' => r = .returned (.tuple #[.int .i64 (pmV s : Nat), .int .i64 (pmErr s)]) ∧ w' = w := by
  go_enter Tryz.func114, Tryz.ntmps114
  go_wp2_with fail
  go_loop [4] (fun i => ∃ k : Nat, 1 ≤ k ∧ k ≤ 128 ∧ i = .int .i64 k ∧ Hid (∀ m, 1 ≤ m → m < k → pmV s ≠ m)) (fun i => 128 - (intOf i).toNat)
  case atStart => exact ⟨1, by omega, by omega, rfl, Lib.hid (fun m h1 h2 => by omega)⟩
  case round =>
    obtain ⟨k, hk1, hk2, rfl, HP⟩ := hrel
    by_cases hlt : k < 128
    · have HE := Lib.hid (mask_eq s k hk1 hlt)
      by_cases he : pmV s = k
      · have hq : ((maskT k).toList == s.toList) = true := by rw [HE.out]; exact decide_eq_true he
        have HQ := Lib.hid he
        clear he HE
        go_wp2_with fail
        refine (qPrintMask_any k _ (by omega)).mono ?_
        rintro e w2 ⟨rfl, hw⟩
        rw [hw]
        clear hw
        go_wp2_with fail
        go_ret2
        exact ⟨by unfold pmErr; rw [HQ.out, if_neg (by omega)]; rfl, rfl⟩
      · have hq : ((maskT k).toList == s.toList) = false := by rw [HE.out]; exact decide_eq_false he
        have HP2 : Hid (∀ m, 1 ≤ m → m < k + 1 → pmV s ≠ m) := Lib.hid (fun m h1 h2 => by
          rcases Nat.lt_or_ge m k with h | h
          · exact HP.out m h1 h
          · obtain rfl : m = k := by omega
            exact he)
        clear he HE
        go_wp2_with fail
        refine (qPrintMask_any k _ (by omega)).mono ?_
        rintro e w2 ⟨rfl, hw⟩
        rw [hw]
        clear hw
        go_wp2_with fail
        go_round
        case rel => exact ⟨k + 1, by omega, by omega, by go_num, HP2⟩
        case measure => simp [intOf]; omega
    · obtain rfl : k = 128 := by omega
      have HB := Lib.hid (pmV_none HP.out)
      go_wp2_with fail
      go_ret2
      exact ⟨by unfold pmErr; rw [HB.out]; rfl, rfl⟩
end Go.Proofs.YtphoclgibnhjfaaGreat
namespace Go.Proofs.YtphoclgibnhjfaaGreat
open Go Go.RowKit
/-- A call that has stored a value in a block, and returned true or false. -/
structure ReadR (e : Ending) (w w' : World) (lb o : Nat) (v : Value) (ok : Bool) : Prop where
  ret : e = .returned (.bool ok)
  ex : ∃ w1, Below w.heap.size w w1 ∧ Below w1.heap.size (w1.setCell ⟨lb, o, none⟩ v) w'
theorem size_set (w : World) (a : Addr) (v : Value) : (w.setCell a v).heap.size = w.heap.size := set_size w a v
set_option maxRecDepth 100000 in
set_option maxHeartbeats 1000000 in
theorem textRead (A W : FuncId) (o b c lb : Nat) (t : ByteArray) (ok : Bool) (w : World) (hA : AtF A o) (hWe : Enters W) (hW : ∀ w, Calls Tryz.prog W #[.string t] w fun e w' => e = .returned (.bool ok) ∧ Below w.heap.size w w')
    (hb : w.cell? ⟨b, 0, none⟩ = some (fnV A)) (hc : w.cell? ⟨c, 0, none⟩ = some (fnV W)) (hcl : c ≠ lb) (u : Value) (hu : w.cell? ⟨lb, o, none⟩ = some u) (hf : w.frozen? ⟨lb, o, none⟩ = false) :
    Calls Tryz.prog 189 #[.pointer (some ⟨lb, 0, none⟩), .string t, .pointer (some ⟨b, 0, none⟩), .pointer (some ⟨c, 0, none⟩)] w fun e w' => ReadR e w w' lb o (.string t) ok := by
  have hen := hA.enter
  have hat := hA.call
  unfold Enters at hen hWe
  have hc2 : (w.setCell ⟨lb, o, none⟩ (.string t)).cell? ⟨c, 0, none⟩ = _ := set_other hc (by intro e; cases e; exact hcl rfl)
  clear hA hcl
  simp only [fnV] at *
  go_enter Tryz.func189, Tryz.ntmps189
  go_wp2_with fail
  refine (hat _ _).mono ?_
  rintro e1 w1 ⟨rfl, rfl⟩
  go_wp2_with fail
  refine (hW _).mono ?_
  rintro e2 w2 ⟨rfl, hb2⟩
  rw [size_set] at hb2
  go_wp2_with fail
  go_ret
  exact ⟨rfl, _, Below.refl _ _, hb2⟩
set_option maxRecDepth 100000 in
set_option maxHeartbeats 1000000 in
theorem numRead (A : FuncId) (o b c lb K : Nat) (t : ByteArray) (w : World) (hA : AtF A o) (h1 : 1 ≤ K) (h5 : K ≤ 5)
    (hb : w.cell? ⟨b, 0, none⟩ = some (fnV A)) (hc : w.cell? ⟨c, 0, none⟩ = some (.int .i64 K)) (u : Value) (hu : w.cell? ⟨lb, o, none⟩ = some u) (hf : w.frozen? ⟨lb, o, none⟩ = false) :
    Calls Tryz.prog 191 #[.pointer (some ⟨lb, 0, none⟩), .string t, .pointer (some ⟨c, 0, none⟩), .pointer (some ⟨b, 0, none⟩)] w fun e w' => ReadR e w w' lb o (.int .i64 (if allK t K then nv t K else 0)) (decide (allK t K)) := by
  have hen := hA.enter
  have hat := hA.call
  unfold Enters at hen
  have hn := fun w => numberK_any t K h1 h5 w
  have HO : Hid (numOutK t K = .tuple #[.int .i64 (if allK t K then nv t K else 0), .bool (decide (allK t K))]) := Lib.hid (by unfold numOutK; by_cases h : allK t K <;> simp [h])
  rw [HO.out] at hn
  clear HO hA
  generalize (if allK t K then nv t K else 0) = n at *
  generalize decide (allK t K) = ok at *
  simp only [fnV] at *
  go_enter Tryz.func191, Tryz.ntmps191
  go_wp2_with fail
  refine (hn _).mono ?_
  rintro e1 w1 ⟨rfl, hb1⟩
  have b1 := b_old hb1 hb
  have u1 := b_old hb1 hu
  have f1 := b_frozen hb1 hu hf
  clear hb hc hu hf hn
  go_wp2_with fail
  refine (hat _ _).mono ?_
  rintro e2 w2 ⟨rfl, rfl⟩
  go_wp2_with fail
  go_ret
  exact ⟨rfl, _, hb1, by rw [← size_set w2 ⟨lb, o, none⟩ (.int .i64 n)]; exact Below.refl _ _⟩
set_option maxRecDepth 100000 in
set_option maxHeartbeats 1000000 in
theorem codeRead (A P : FuncId) (o b c lb : Nat) (t : ByteArray) (n er : Int) (w : World) (hA : AtF A o) (hPe : Enters P) (hP : ∀ w, Calls Tryz.prog P #[.string t] w fun e w' => e = .returned (.tuple #[.int .i64 n, .int .i64 er]) ∧ Below w.heap.size w w')
    (hb : w.cell? ⟨b, 0, none⟩ = some (fnV A)) (hc : w.cell? ⟨c, 0, none⟩ = some (fnV P)) (u : Value) (hu : w.cell? ⟨lb, o, none⟩ = some u) (hf : w.frozen? ⟨lb, o, none⟩ = false) :
    Calls Tryz.prog 193 #[.pointer (some ⟨lb, 0, none⟩), .string t, .pointer (some ⟨c, 0, none⟩), .pointer (some ⟨b, 0, none⟩)] w fun e w' => ReadR e w w' lb o (.int .i64 n) (er == 0) := by
  have hen := hA.enter
  have hat := hA.call
  unfold Enters at hen hPe
  clear hA
  simp only [fnV] at *
  go_enter Tryz.func193, Tryz.ntmps193
  go_wp2_with fail
  refine (hP _).mono ?_
  rintro e1 w1 ⟨rfl, hb1⟩
  have b1 := b_old hb1 hb
  have u1 := b_old hb1 hu
  have f1 := b_frozen hb1 hu hf
  clear hb hc hu hf hP
  go_wp2_with fail
  refine (hat _ _).mono ?_
  rintro e2 w2 ⟨rfl, rfl⟩
  go_wp2_with fail
  go_ret
  exact ⟨rfl, _, hb1, by rw [← size_set w2 ⟨lb, o, none⟩ (.int .i64 n)]; exact Below.refl _ _⟩
set_option maxRecDepth 100000 in
set_option maxHeartbeats 1000000 in
theorem optRead (A : FuncId) (o b lb : Nat) (t : ByteArray) (ok : Bool) (w : World) (hA : AtF A o) (hW : ∀ w, Calls Tryz.prog 143 #[.string t] w fun e w' => e = .returned (.bool ok) ∧ Below w.heap.size w w')
    (hb : w.cell? ⟨b, 0, none⟩ = some (fnV A)) (u : Value) (hu : w.cell? ⟨lb, o, none⟩ = some u) (hf : w.frozen? ⟨lb, o, none⟩ = false) (hd : (t.toList == [45]) = false) :
    Calls Tryz.prog 196 #[.pointer (some ⟨lb, 0, none⟩), .string t, .pointer (some ⟨b, 0, none⟩)] w fun e w' => ReadR e w w' lb o (.string t) ok := by
  have hen := hA.enter
  have hat := hA.call
  unfold Enters at hen
  clear hA
  simp only [fnV] at *
  go_enter Tryz.func196, Tryz.ntmps196
  go_wp2_with fail
  refine (hat _ _).mono ?_
  rintro e1 w1 ⟨rfl, rfl⟩
  go_wp2_with fail
  refine (hW _).mono ?_
  rintro e2 w2 ⟨rfl, hb2⟩
  rw [size_set] at hb2
  go_wp2_with fail
  go_ret
  exact ⟨rfl, _, Below.refl _ _, hb2⟩
theorem optDash (b lb : Nat) (t : ByteArray) (w : World) (hd : (t.toList == [45]) = true) :
    Calls Tryz.prog 196 #[.pointer (some ⟨lb, 0, none⟩), .string t, .pointer (some ⟨b, 0, none⟩)] w fun e w' => e = .returned (.bool true) ∧ Below w.heap.size w w' := by
  go_enter Tryz.func196, Tryz.ntmps196
  go_wp2_with fail
  go_ret
  exact ⟨rfl, Below.refl _ _⟩
end Go.Proofs.YtphoclgibnhjfaaGreat
