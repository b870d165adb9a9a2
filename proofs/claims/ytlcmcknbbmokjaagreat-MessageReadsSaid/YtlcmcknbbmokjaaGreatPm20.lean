/- Contracts: PrintLine, of package message and of the reference; the walk of MessageLines. -/
import Derived.Test.YtlcmcknbbmokjaaGreatPm11
import Derived.Test.YtlcmcknbbmokjaaGreatPm15
import Derived.Test.YtlcmcknbbmokjaaGreatPm19
namespace Go.Proofs.YtlcmcknbbmokjaaGreat
open Go Go.RowKit
def plOut (l : LineV) : Value := if lineErr l = 0 then .tuple #[.string (lineT l), .int .i64 0] else .tuple #[.string ⟨#[]⟩, .int .i64 (lineErr l)]
set_option maxRecDepth 100000 in
set_option maxHeartbeats 1000000 in
theorem PrintLine_any (l : LineV) (hs : l.act.size ≤ maxLen) (w : World) :
    Calls Tryz.prog 53 #[.agg l.cells] w fun e w' => e = .returned (plOut l) ∧ Below w.heap.size w w' := by
  have hck := CheckLine_any l hs
  have hpl := fun h => printLine_any l h
  obtain ⟨W, HW, hb0, R⟩ := line_new w l 28
  by_cases he : lineErr l = 0
  · have HO : Hid (plOut l = .tuple #[.string (lineT l), .int .i64 0]) := Lib.hid (by unfold plOut; rw [if_pos he])
    have hpl' := hpl (line_ok he)
    rw [he] at hck
    generalize plOut l = po at HO ⊢
    generalize lineT l = lt at HO hpl'
    clear hpl he hs
    obtain ⟨act, q⟩ := l
    obtain ⟨name, carrier, kind, terminal, partner, link, a, b, d, m, s, z, n⟩ := q
    obtain ⟨r0, r1, r2, r3, r4, r5, r6, r7, r8, r9, r10, r11, r12, r13⟩ := R
    simp only [LineV.cells] at *
    have HX := Lib.hid (HW.out.trans (show W = (KeptW.mk (w := W) W (Below.refl _ _)).v from rfl))
    have k0 : ∀ x : KeptW W, x.v.cell? ⟨w.heap.size, 0, none⟩ = _ := fun x => x.cell r0
    have k1 : ∀ x : KeptW W, x.v.cell? ⟨w.heap.size, 1, none⟩ = _ := fun x => x.cell r1
    have k2 : ∀ x : KeptW W, x.v.cell? ⟨w.heap.size, 2, none⟩ = _ := fun x => x.cell r2
    have k3 : ∀ x : KeptW W, x.v.cell? ⟨w.heap.size, 3, none⟩ = _ := fun x => x.cell r3
    have k4 : ∀ x : KeptW W, x.v.cell? ⟨w.heap.size, 4, none⟩ = _ := fun x => x.cell r4
    have k5 : ∀ x : KeptW W, x.v.cell? ⟨w.heap.size, 5, none⟩ = _ := fun x => x.cell r5
    have k6 : ∀ x : KeptW W, x.v.cell? ⟨w.heap.size, 6, none⟩ = _ := fun x => x.cell r6
    have k7 : ∀ x : KeptW W, x.v.cell? ⟨w.heap.size, 7, none⟩ = _ := fun x => x.cell r7
    have k8 : ∀ x : KeptW W, x.v.cell? ⟨w.heap.size, 8, none⟩ = _ := fun x => x.cell r8
    have k9 : ∀ x : KeptW W, x.v.cell? ⟨w.heap.size, 9, none⟩ = _ := fun x => x.cell r9
    have k10 : ∀ x : KeptW W, x.v.cell? ⟨w.heap.size, 10, none⟩ = _ := fun x => x.cell r10
    have k11 : ∀ x : KeptW W, x.v.cell? ⟨w.heap.size, 11, none⟩ = _ := fun x => x.cell r11
    have k12 : ∀ x : KeptW W, x.v.cell? ⟨w.heap.size, 12, none⟩ = _ := fun x => x.cell r12
    have k13 : ∀ x : KeptW W, x.v.cell? ⟨w.heap.size, 13, none⟩ = _ := fun x => x.cell r13
    generalize KeptW.mk (w := W) W (Below.refl _ _) = x0 at HX
    clear r0 r1 r2 r3 r4 r5 r6 r7 r8 r9 r10 r11 r12 r13 HW
    go_enter Tryz.func53, Tryz.ntmps53
    go_wp2_with fail
    rw [HX.out]
    clear HX
    go_wp2_with fail
    refine (KeptW.calls (hck _)).mono ?_
    rintro e1 _ ⟨rfl, x1, rfl⟩
    go_wp2_with fail
    refine (KeptW.calls (hpl' _)).mono ?_
    rintro e2 _ ⟨rfl, x2, rfl⟩
    go_wp2_with fail
    go_ret2
    exact ⟨by rw [HO.out]; rfl, b_then hb0 x2.below⟩
  · have HO : Hid (plOut l = .tuple #[.string ⟨#[]⟩, .int .i64 (lineErr l)]) := Lib.hid (by unfold plOut; rw [if_neg he])
    generalize plOut l = po at HO ⊢
    generalize lineErr l = le at *
    clear hpl hs
    have hb : (le != 0) = true := by simpa using he
    clear he
    obtain ⟨act, q⟩ := l
    obtain ⟨name, carrier, kind, terminal, partner, link, a, b, d, m, s, z, n⟩ := q
    obtain ⟨r0, r1, r2, r3, r4, r5, r6, r7, r8, r9, r10, r11, r12, r13⟩ := R
    simp only [LineV.cells] at *
    have HX := Lib.hid (HW.out.trans (show W = (KeptW.mk (w := W) W (Below.refl _ _)).v from rfl))
    have k0 : ∀ x : KeptW W, x.v.cell? ⟨w.heap.size, 0, none⟩ = _ := fun x => x.cell r0
    have k1 : ∀ x : KeptW W, x.v.cell? ⟨w.heap.size, 1, none⟩ = _ := fun x => x.cell r1
    have k2 : ∀ x : KeptW W, x.v.cell? ⟨w.heap.size, 2, none⟩ = _ := fun x => x.cell r2
    have k3 : ∀ x : KeptW W, x.v.cell? ⟨w.heap.size, 3, none⟩ = _ := fun x => x.cell r3
    have k4 : ∀ x : KeptW W, x.v.cell? ⟨w.heap.size, 4, none⟩ = _ := fun x => x.cell r4
    have k5 : ∀ x : KeptW W, x.v.cell? ⟨w.heap.size, 5, none⟩ = _ := fun x => x.cell r5
    have k6 : ∀ x : KeptW W, x.v.cell? ⟨w.heap.size, 6, none⟩ = _ := fun x => x.cell r6
    have k7 : ∀ x : KeptW W, x.v.cell? ⟨w.heap.size, 7, none⟩ = _ := fun x => x.cell r7
    have k8 : ∀ x : KeptW W, x.v.cell? ⟨w.heap.size, 8, none⟩ = _ := fun x => x.cell r8
    have k9 : ∀ x : KeptW W, x.v.cell? ⟨w.heap.size, 9, none⟩ = _ := fun x => x.cell r9
    have k10 : ∀ x : KeptW W, x.v.cell? ⟨w.heap.size, 10, none⟩ = _ := fun x => x.cell r10
    have k11 : ∀ x : KeptW W, x.v.cell? ⟨w.heap.size, 11, none⟩ = _ := fun x => x.cell r11
    have k12 : ∀ x : KeptW W, x.v.cell? ⟨w.heap.size, 12, none⟩ = _ := fun x => x.cell r12
    have k13 : ∀ x : KeptW W, x.v.cell? ⟨w.heap.size, 13, none⟩ = _ := fun x => x.cell r13
    generalize KeptW.mk (w := W) W (Below.refl _ _) = x0 at HX
    clear r0 r1 r2 r3 r4 r5 r6 r7 r8 r9 r10 r11 r12 r13 HW
    go_enter Tryz.func53, Tryz.ntmps53
    go_wp2_with fail
    rw [HX.out]
    clear HX
    go_wp2_with fail
    refine (KeptW.calls (hck _)).mono ?_
    rintro e1 _ ⟨rfl, x1, rfl⟩
    go_wp2_with fail
    go_ret2
    exact ⟨by rw [HO.out]; rfl, b_then hb0 x1.below⟩
theorem cat_any (a : List UInt8) (x : ByteArray) : (⟨a.toArray⟩ : ByteArray) ++ x = ⟨(a ++ x.data.toList).toArray⟩ := by
  have := cat_lists a x.data.toList
  simpa using this
theorem emp_app (q : ByteArray) : (⟨#[]⟩ : ByteArray) ++ q = q := by
  rw [show (⟨#[]⟩ : ByteArray) = ⟨([] : List UInt8).toArray⟩ from rfl, cat_any]; rfl
theorem join_snoc (l : List (List UInt8)) (x sep : List UInt8) (h : l ≠ []) : Lib.join (l ++ [x]) sep = Lib.join l sep ++ sep ++ x := by
  cases l with
  | nil => exact absurd rfl h
  | cons a r =>
    rw [List.cons_append, Lib.join_cons, Lib.join_cons]
    simp [Lib.joinTail]
/-- The first words, joined. -/
def jn (xs : List ByteArray) (k : Nat) : ByteArray := ⟨(Lib.join ((xs.take k).map (·.data.toList)) [32]).toArray⟩
theorem jn_size (xs : List ByteArray) (k n : Nat) (h : ∀ x ∈ xs, x.size ≤ n) : (jn xs k).size ≤ (n + 1) * xs.length := by
  have := join_le (xs.take k) [32] n (fun x hx => h x (List.mem_of_mem_take hx))
  show (Lib.join ((xs.take k).map (·.data.toList)) [32]).toArray.size ≤ _
  rw [List.size_toArray]
  refine Nat.le_trans this (Nat.mul_le_mul_left _ ?_)
  simp; omega
theorem jn_one (xs : List ByteArray) (x : ByteArray) (h : xs[0]? = some x) : jn xs 1 = x := by
  cases xs with
  | nil => simp at h
  | cons a r =>
    simp at h; subst h
    show (⟨(Lib.join [a.data.toList] [32]).toArray⟩ : ByteArray) = a
    rw [Lib.join_one]
theorem jn_succ (xs : List ByteArray) (k : Nat) (x : ByteArray) (hk : 0 < k) (h : xs[k]? = some x) : jn xs (k + 1) = jn xs k ++ ⟨#[32]⟩ ++ x := by
  have hlt := (List.getElem?_eq_some_iff.1 h).1
  unfold jn
  rw [List.take_add_one, h, Option.toList_some, List.map_append, List.map_cons, List.map_nil, join_snoc _ _ _ (by
    intro e
    have h2 : ((xs.take k).map (·.data.toList)).length = 0 := by rw [e]; rfl
    rw [List.length_map, List.length_take] at h2
    omega)]
  rw [cat_lists _ [32], cat_any]
set_option maxRecDepth 100000 in
set_option maxHeartbeats 1000000 in
theorem joined_any (xs : List ByteArray) (b c : Nat) (w : World) (hc : ∀ (j : Nat) x, xs[j]? = some x → w.cell? ⟨b, j, none⟩ = some (.string x)) (hn : xs.length ≤ 100) (hz : ∀ x ∈ xs, x.size ≤ 1000) :
    Calls Tryz.prog 79 #[.slice (some ⟨b, 0, none⟩) xs.length c] w fun e w' => e = .returned (.string (jn xs xs.length)) ∧ w' = w := by
  have HC := Lib.hid hc
  have HZ := Lib.hid hz
  have HSZ := Lib.hid (fun k => jn_size xs k 1000 hz)
  clear hc hz
  go_enter Tryz.func79, Tryz.ntmps79
  go_wp2_with fail
  go_loopw [3, 4] (fun s i wr => ∃ (k : Nat), k ≤ xs.length ∧ i = .int .i64 k ∧ s = .string (jn xs k) ∧ wr = w) (fun _ i _ => xs.length - (intOf i).toNat)
  case atStart => exact ⟨0, Nat.zero_le _, rfl, rfl, rfl⟩
  case round =>
    obtain ⟨k, hk, rfl, rfl, rfl⟩ := hrel
    by_cases hlt : k < xs.length
    · obtain ⟨q, hq⟩ : ∃ q, xs[k]? = some q := ⟨_, List.getElem?_eq_getElem hlt⟩
      have x0 := HC.out k q hq
      have hqs := HZ.out q (List.mem_of_getElem? hq)
      have hjs := HSZ.out k
      rcases Nat.eq_zero_or_pos k with h0 | h0
      · subst h0
        have H1 := Lib.hid (jn_one xs q hq)
        have H0 : jn xs 0 = ⟨#[]⟩ := rfl
        rw [H0] at hjs ⊢
        clear hq
        go_wp2_with fail
        go_round
        case rel => exact ⟨1, by omega, by go_num, by rw [H1.out, emp_app], trivial⟩
        case measure => simp [intOf]; omega
      · have HS := Lib.hid (jn_succ xs k q h0 hq)
        have hk0 : (0 : Int) < k := by omega
        have hj2 : (jn xs k).size ≤ 100100 := by
          have : (1000 + 1) * xs.length ≤ 1001 * 100 := Nat.mul_le_mul_left _ hn
          omega
        have hj3 : (jn xs k ++ (⟨#[32]⟩ : ByteArray)).size ≤ 100101 := by rw [ByteArray.size_append]; exact Nat.add_le_add_right hj2 1
        clear hq hjs
        generalize jn xs k = t at *
        go_wp2_with fail
        go_round
        case rel => exact ⟨k + 1, by omega, by go_num, by rw [HS.out], trivial⟩
        case measure => simp [intOf]; omega
    · obtain rfl : k = xs.length := by omega
      go_wp2_with fail
      go_ret
      exact ⟨rfl, rfl⟩
theorem dashed_any (s : ByteArray) (w : World) : Calls Tryz.prog 203 #[.string s] w fun e w' => e = .returned (.string (dashT s)) ∧ w' = w := by
  cases h : (s.toList == [])
  · have HD : Hid (dashT s = s) := Lib.hid (by unfold dashT; rw [h]; rfl)
    go_enter Tryz.func203, Tryz.ntmps203
    go_wp2_with fail
    go_ret
    exact ⟨by rw [HD.out]; rfl, rfl⟩
  · have HD : Hid (dashT s = ⟨#[45]⟩) := Lib.hid (by unfold dashT; rw [h]; rfl)
    go_enter Tryz.func203, Tryz.ntmps203
    go_wp2_with fail
    go_ret
    exact ⟨by rw [HD.out]; rfl, rfl⟩
theorem qmask_call (n : Int) (h : 1 ≤ n ∧ n ≤ 127) (w : World) : Calls Tryz.prog 147 #[.int .i64 n] w fun e w' => e = .returned (.string (maskT n.toNat)) ∧ w' = w := by
  have := qPrintMask_any n.toNat w (by omega)
  rwa [show ((n.toNat : Nat) : Int) = n by omega] at this
theorem wide_call (n : Int) (k : Nat) (h : 0 ≤ n) (hk : 1 ≤ k) (hk9 : k ≤ 9) (hn : n.toNat < 10 ^ k) (w : World) : Calls Tryz.prog 80 #[.int .i64 n, .int .i64 k] w fun e w' => e = .returned (.string (widT n.toNat k)) ∧ Below w.heap.size w w' := by
  have := qwide2_any n.toNat k w hk hk9 hn
  rwa [show ((n.toNat : Nat) : Int) = n by omega] at this
/-- A call that has returned the words of a line. -/
structure WordsR (e : Ending) (w' : World) (ts : List ByteArray) : Prop where
  ex : ∃ g c, e = .returned (.slice (some ⟨g, 0, none⟩) ts.length c) ∧ ∀ (j : Nat) x, ts[j]? = some x → w'.cell? ⟨g, j, none⟩ = some (.string x)
set_option maxRecDepth 100000 in
set_option maxHeartbeats 4000000 in
theorem Fields_any (l : LineV) (hok : LineOk l) (w : World) :
    Calls Tryz.prog 154 #[.agg l.cells] w fun e w' => WordsR e w' (words l) ∧ Below w.heap.size w w' := by
  have d5 : ∀ w : World, Calls Tryz.prog 80 #[.int .i64 l.q.from_, .int .i64 5] w fun e w' => e = .returned (.string (widT l.q.from_.toNat 5)) ∧ Below w.heap.size w w' := fun w => wide_call l.q.from_ 5 hok.from_.1 (by decide) (by decide) (by have := hok.from_; omega) w
  have d6 : ∀ w : World, Calls Tryz.prog 80 #[.int .i64 l.q.to, .int .i64 5] w fun e w' => e = .returned (.string (widT l.q.to.toNat 5)) ∧ Below w.heap.size w w' := fun w => wide_call l.q.to 5 hok.to.1 (by decide) (by decide) (by have := hok.to; omega) w
  have d7 := fun w => qmask_call l.q.days hok.days w
  have d8 := fun w => qPrintMinute_ok l.q.minute w hok.minute.1 hok.minute.2
  have d9 : ∀ w : World, Calls Tryz.prog 80 #[.int .i64 l.q.seats, .int .i64 3] w fun e w' => e = .returned (.string (widT l.q.seats.toNat 3)) ∧ Below w.heap.size w w' := fun w => wide_call l.q.seats 3 hok.seats.1 (by decide) (by decide) (by have := hok.seats; omega) w
  have d10 : ∀ w : World, Calls Tryz.prog 80 #[.int .i64 l.q.size, .int .i64 1] w fun e w' => e = .returned (.string (widT l.q.size.toNat 1)) ∧ Below w.heap.size w w' := fun w => wide_call l.q.size 1 (by have := hok.size; omega) (by decide) (by decide) (by have := hok.size; omega) w
  have d11 : ∀ w : World, Calls Tryz.prog 80 #[.int .i64 l.q.noise, .int .i64 2] w fun e w' => e = .returned (.string (widT l.q.noise.toNat 2)) ∧ Below w.heap.size w w' := fun w => wide_call l.q.noise 2 hok.noise.1 (by decide) (by decide) (by have := hok.noise; omega) w
  have d12 := fun w => dashed_any l.q.terminal w
  have d13 := fun w => dashed_any l.q.link w
  have HW : Hid (words l = [l.act, l.q.carrier, l.q.name, l.q.kind, l.q.partner, widT l.q.from_.toNat 5, widT l.q.to.toNat 5, maskT l.q.days.toNat, mTxt l.q.minute, widT l.q.seats.toNat 3, widT l.q.size.toNat 1, widT l.q.noise.toNat 2, dashT l.q.terminal, dashT l.q.link]) := Lib.hid rfl
  generalize words l = ws at HW ⊢
  generalize widT l.q.from_.toNat 5 = v5 at *
  generalize widT l.q.to.toNat 5 = v6 at *
  generalize maskT l.q.days.toNat = v7 at *
  generalize mTxt l.q.minute = v8 at *
  generalize widT l.q.seats.toNat 3 = v9 at *
  generalize widT l.q.size.toNat 1 = v10 at *
  generalize widT l.q.noise.toNat 2 = v11 at *
  generalize dashT l.q.terminal = v12 at *
  generalize dashT l.q.link = v13 at *
  clear hok
  obtain ⟨act, q⟩ := l
  obtain ⟨name, carrier, kind, terminal, partner, link, a, b, d, m, s, z, n⟩ := q
  simp only [LineV.cells] at *
  go_enter Tryz.func154, Tryz.ntmps154
  go_wp2_with fail
  obtain ⟨W, HV, hb0, r, r0, r1, r2, r3, r4, r5, r6, r7, r8, r9, r10, r11, r12⟩ : ∃ W, Hid (((w.alloc (.cells #[.string act, .string name, .string carrier, .string kind, .string terminal, .string partner, .string link, .int .i64 a, .int .i64 b, .int .i64 d, .int .i64 m, .int .i64 s, .int .i64 z, .int .i64 n] 32)).alloc (.cells #[.string name, .string carrier, .string kind, .string terminal, .string partner, .string link, .int .i64 a, .int .i64 b, .int .i64 d, .int .i64 m, .int .i64 s, .int .i64 z, .int .i64 n] 26)) = W) ∧ Below w.heap.size w W ∧ W.cell? ⟨w.heap.size, 0, none⟩ = some (.string act) ∧
      W.cell? ⟨w.heap.size + 1, 0, none⟩ = some (.string name) ∧ W.cell? ⟨w.heap.size + 1, 1, none⟩ = some (.string carrier) ∧ W.cell? ⟨w.heap.size + 1, 2, none⟩ = some (.string kind) ∧ W.cell? ⟨w.heap.size + 1, 3, none⟩ = some (.string terminal) ∧ W.cell? ⟨w.heap.size + 1, 4, none⟩ = some (.string partner) ∧ W.cell? ⟨w.heap.size + 1, 5, none⟩ = some (.string link) ∧
      W.cell? ⟨w.heap.size + 1, 6, none⟩ = some (.int .i64 a) ∧ W.cell? ⟨w.heap.size + 1, 7, none⟩ = some (.int .i64 b) ∧ W.cell? ⟨w.heap.size + 1, 8, none⟩ = some (.int .i64 d) ∧ W.cell? ⟨w.heap.size + 1, 9, none⟩ = some (.int .i64 m) ∧ W.cell? ⟨w.heap.size + 1, 10, none⟩ = some (.int .i64 s) ∧ W.cell? ⟨w.heap.size + 1, 11, none⟩ = some (.int .i64 z) ∧ W.cell? ⟨w.heap.size + 1, 12, none⟩ = some (.int .i64 n) := by
    refine ⟨_, Lib.hid rfl, below_alloc2 _ _ _, b_old (below_alloc _ _) (cell_fresh w [.string act, .string name, .string carrier, .string kind, .string terminal, .string partner, .string link, .int .i64 a, .int .i64 b, .int .i64 d, .int .i64 m, .int .i64 s, .int .i64 z, .int .i64 n] _ 0 _ rfl), ?_⟩
    have e : (w.alloc (.cells #[.string act, .string name, .string carrier, .string kind, .string terminal, .string partner, .string link, .int .i64 a, .int .i64 b, .int .i64 d, .int .i64 m, .int .i64 s, .int .i64 z, .int .i64 n] 32)).heap.size = w.heap.size + 1 := by simp
    rw [← e]
    have hc := fun i v h => cell_fresh (w.alloc (.cells #[.string act, .string name, .string carrier, .string kind, .string terminal, .string partner, .string link, .int .i64 a, .int .i64 b, .int .i64 d, .int .i64 m, .int .i64 s, .int .i64 z, .int .i64 n] 32)) [.string name, .string carrier, .string kind, .string terminal, .string partner, .string link, .int .i64 a, .int .i64 b, .int .i64 d, .int .i64 m, .int .i64 s, .int .i64 z, .int .i64 n] 26 i v h
    exact ⟨hc _ _ rfl, hc _ _ rfl, hc _ _ rfl, hc _ _ rfl, hc _ _ rfl, hc _ _ rfl, hc _ _ rfl, hc _ _ rfl, hc _ _ rfl, hc _ _ rfl, hc _ _ rfl, hc _ _ rfl, hc _ _ rfl⟩
  rw [HV.out]
  clear HV
  have ka : ∀ x : KeptW W, x.v.cell? ⟨w.heap.size, 0, none⟩ = _ := fun x => x.cell r
  have k0 : ∀ x : KeptW W, x.v.cell? ⟨w.heap.size + 1, 0, none⟩ = _ := fun x => x.cell r0
  have k1 : ∀ x : KeptW W, x.v.cell? ⟨w.heap.size + 1, 1, none⟩ = _ := fun x => x.cell r1
  have k2 : ∀ x : KeptW W, x.v.cell? ⟨w.heap.size + 1, 2, none⟩ = _ := fun x => x.cell r2
  have k3 : ∀ x : KeptW W, x.v.cell? ⟨w.heap.size + 1, 3, none⟩ = _ := fun x => x.cell r3
  have k4 : ∀ x : KeptW W, x.v.cell? ⟨w.heap.size + 1, 4, none⟩ = _ := fun x => x.cell r4
  have k5 : ∀ x : KeptW W, x.v.cell? ⟨w.heap.size + 1, 5, none⟩ = _ := fun x => x.cell r5
  have k6 : ∀ x : KeptW W, x.v.cell? ⟨w.heap.size + 1, 6, none⟩ = _ := fun x => x.cell r6
  have k7 : ∀ x : KeptW W, x.v.cell? ⟨w.heap.size + 1, 7, none⟩ = _ := fun x => x.cell r7
  have k8 : ∀ x : KeptW W, x.v.cell? ⟨w.heap.size + 1, 8, none⟩ = _ := fun x => x.cell r8
  have k9 : ∀ x : KeptW W, x.v.cell? ⟨w.heap.size + 1, 9, none⟩ = _ := fun x => x.cell r9
  have k10 : ∀ x : KeptW W, x.v.cell? ⟨w.heap.size + 1, 10, none⟩ = _ := fun x => x.cell r10
  have k11 : ∀ x : KeptW W, x.v.cell? ⟨w.heap.size + 1, 11, none⟩ = _ := fun x => x.cell r11
  have k12 : ∀ x : KeptW W, x.v.cell? ⟨w.heap.size + 1, 12, none⟩ = _ := fun x => x.cell r12
  have hne : Nonempty (KeptW W) := ⟨⟨W, Below.refl _ _⟩⟩
  clear r r0 r1 r2 r3 r4 r5 r6 r7 r8 r9 r10 r11 r12
  refine tail_kept 40 (by kernel_rfl) (by kernel_rfl) ?_
  simp only [List.take_succ_cons, List.take_zero, List.drop_succ_cons, List.drop_zero]
  iterate 10 (go_big_quiet_step (fail))
  iterate 3 (go_big_quiet_step (fail))
  go_big_quiet_step (exact KeptW.calls (d5 _))
  iterate 3 (go_big_quiet_step (fail))
  go_big_quiet_step (exact KeptW.calls (d6 _))
  iterate 3 (go_big_quiet_step (fail))
  go_big_quiet_step (exact KeptW.calls_same (d7 _))
  iterate 2 (go_big_quiet_step (fail))
  go_big_quiet_step (exact KeptW.calls (d8 _))
  iterate 2 (go_big_quiet_step (fail))
  go_big_quiet_step (exact KeptW.calls (d9 _))
  iterate 2 (go_big_quiet_step (fail))
  go_big_quiet_step (exact KeptW.calls (d10 _))
  iterate 2 (go_big_quiet_step (fail))
  go_big_quiet_step (exact KeptW.calls (d11 _))
  iterate 2 (go_big_quiet_step (fail))
  go_big_quiet_step (exact KeptW.calls_same (d12 _))
  iterate 2 (go_big_quiet_step (fail))
  go_big_quiet_step (exact KeptW.calls_same (d13 _))
  refine wpQuiet_nil ?_
  rintro _ ⟨x, rfl⟩
  have hbx := b_then hb0 x.below
  clear d5 d6 d7 d8 d9 d10 d11 d12 d13 ka k0 k1 k2 k3 k4 k5 k6 k7 k8 k9 k10 k11 k12 hb0
  go_wp2_with fail
  go_ret
  refine ⟨⟨x.v.heap.size, 14, by rw [HW.out]; rfl, fun j y hj => ?_⟩, b_then hbx (below_alloc _ _)⟩
  rw [HW.out] at hj
  exact cell_fresh x.v [.string act, .string carrier, .string name, .string kind, .string partner, .string v5, .string v6, .string v7, .string v8, .string v9, .string v10, .string v11, .string v12, .string v13] _ j (.string y) (by
    have := congrArg (Option.map Value.string) hj
    rw [← List.getElem?_map] at this
    exact this)
end Go.Proofs.YtlcmcknbbmokjaaGreat
