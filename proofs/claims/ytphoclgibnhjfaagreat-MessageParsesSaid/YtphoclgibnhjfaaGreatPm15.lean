/- Contracts: PrintLine, of package message and of the reference; the walk of MessageLines. -/
import Derived.Test.YtphoclgibnhjfaaGreatPm12
import Derived.Test.YtphoclgibnhjfaaGreatPm14
import Derived.Test.YtphoclgibnhjfaaGreatPm8
namespace Go.Proofs.YtphoclgibnhjfaaGreat
open Go Go.RowKit
def plOut (l : LineV) : Value := if lineErr l = 0 then .tuple #[.string (lineT l), .int .i64 0] else .tuple #[.string ⟨#[]⟩, .int .i64 (lineErr l)]
set_option maxRecDepth 100000 in
set_option maxHeartbeats 1000000 in
theorem PrintLine_any (l : LineV) (hs : l.act.size ≤ maxLen) (w : World) :
    Calls Tryz.prog 42 #[.agg l.cells] w fun e w' => e = .returned (plOut l) ∧ Below w.heap.size w w' := by
  have hck := CheckLine_any l hs
  have hpl := fun h => printLine_any l h
  obtain ⟨W, HW, hb0, R⟩ := line_new w l 88
  by_cases he : lineErr l = 0
  · have HO : Hid (plOut l = .tuple #[.string (lineT l), .int .i64 0]) := Lib.hid (by unfold plOut; rw [if_pos he])
    have hpl' := hpl (line_ok he)
    rw [he] at hck
    generalize plOut l = po at HO ⊢
    generalize lineT l = lt at HO hpl'
    clear hpl he hs
    obtain ⟨act, q⟩ := l
    obtain ⟨name, carrier, kind, terminal, partner, link, a, b, d, m, s, z, n⟩ := q
    obtain ⟨r0, r1, r2, r3, r4, r5, r6, r7, r8, r9, r10, r11, r12, r13⟩ := R
    simp only [LineV.cells] at *
    have HX := Lib.hid (HW.out.trans (show W = (KeptW.mk (w := W) W (Below.refl _ _)).v from rfl))
    have k0 : ∀ x : KeptW W, x.v.cell? ⟨w.heap.size, 0, none⟩ = _ := fun x => x.cell r0
    have k1 : ∀ x : KeptW W, x.v.cell? ⟨w.heap.size, 1, none⟩ = _ := fun x => x.cell r1
    have k2 : ∀ x : KeptW W, x.v.cell? ⟨w.heap.size, 2, none⟩ = _ := fun x => x.cell r2
    have k3 : ∀ x : KeptW W, x.v.cell? ⟨w.heap.size, 3, none⟩ = _ := fun x => x.cell r3
    have k4 : ∀ x : KeptW W, x.v.cell? ⟨w.heap.size, 4, none⟩ = _ := fun x => x.cell r4
    have k5 : ∀ x : KeptW W, x.v.cell? ⟨w.heap.size, 5, none⟩ = _ := fun x => x.cell r5
    have k6 : ∀ x : KeptW W, x.v.cell? ⟨w.heap.size, 6, none⟩ = _ := fun x => x.cell r6
    have k7 : ∀ x : KeptW W, x.v.cell? ⟨w.heap.size, 7, none⟩ = _ := fun x => x.cell r7
    have k8 : ∀ x : KeptW W, x.v.cell? ⟨w.heap.size, 8, none⟩ = _ := fun x => x.cell r8
    have k9 : ∀ x : KeptW W, x.v.cell? ⟨w.heap.size, 9, none⟩ = _ := fun x => x.cell r9
    have k10 : ∀ x : KeptW W, x.v.cell? ⟨w.heap.size, 10, none⟩ = _ := fun x => x.cell r10
    have k11 : ∀ x : KeptW W, x.v.cell? ⟨w.heap.size, 11, none⟩ = _ := fun x => x.cell r11
    have k12 : ∀ x : KeptW W, x.v.cell? ⟨w.heap.size, 12, none⟩ = _ := fun x => x.cell r12
    have k13 : ∀ x : KeptW W, x.v.cell? ⟨w.heap.size, 13, none⟩ = _ := fun x => x.cell r13
    generalize KeptW.mk (w := W) W (Below.refl _ _) = x0 at HX
    clear r0 r1 r2 r3 r4 r5 r6 r7 r8 r9 r10 r11 r12 r13 HW
    go_enter Tryz.func42, Tryz.ntmps42
    go_wp2_with fail
    rw [HX.out]
    clear HX
    go_wp2_with fail
    refine (KeptW.calls (hck _)).mono ?_
    rintro e1 _ ⟨rfl, x1, rfl⟩
    go_wp2_with fail
    refine (KeptW.calls (hpl' _)).mono ?_
    rintro e2 _ ⟨rfl, x2, rfl⟩
    go_wp2_with fail
    go_ret2
    exact ⟨by rw [HO.out]; rfl, b_then hb0 x2.below⟩
  · have HO : Hid (plOut l = .tuple #[.string ⟨#[]⟩, .int .i64 (lineErr l)]) := Lib.hid (by unfold plOut; rw [if_neg he])
    generalize plOut l = po at HO ⊢
    generalize lineErr l = le at *
    clear hpl hs
    have hb : (le != 0) = true := by simpa using he
    clear he
    obtain ⟨act, q⟩ := l
    obtain ⟨name, carrier, kind, terminal, partner, link, a, b, d, m, s, z, n⟩ := q
    obtain ⟨r0, r1, r2, r3, r4, r5, r6, r7, r8, r9, r10, r11, r12, r13⟩ := R
    simp only [LineV.cells] at *
    have HX := Lib.hid (HW.out.trans (show W = (KeptW.mk (w := W) W (Below.refl _ _)).v from rfl))
    have k0 : ∀ x : KeptW W, x.v.cell? ⟨w.heap.size, 0, none⟩ = _ := fun x => x.cell r0
    have k1 : ∀ x : KeptW W, x.v.cell? ⟨w.heap.size, 1, none⟩ = _ := fun x => x.cell r1
    have k2 : ∀ x : KeptW W, x.v.cell? ⟨w.heap.size, 2, none⟩ = _ := fun x => x.cell r2
    have k3 : ∀ x : KeptW W, x.v.cell? ⟨w.heap.size, 3, none⟩ = _ := fun x => x.cell r3
    have k4 : ∀ x : KeptW W, x.v.cell? ⟨w.heap.size, 4, none⟩ = _ := fun x => x.cell r4
    have k5 : ∀ x : KeptW W, x.v.cell? ⟨w.heap.size, 5, none⟩ = _ := fun x => x.cell r5
    have k6 : ∀ x : KeptW W, x.v.cell? ⟨w.heap.size, 6, none⟩ = _ := fun x => x.cell r6
    have k7 : ∀ x : KeptW W, x.v.cell? ⟨w.heap.size, 7, none⟩ = _ := fun x => x.cell r7
    have k8 : ∀ x : KeptW W, x.v.cell? ⟨w.heap.size, 8, none⟩ = _ := fun x => x.cell r8
    have k9 : ∀ x : KeptW W, x.v.cell? ⟨w.heap.size, 9, none⟩ = _ := fun x => x.cell r9
    have k10 : ∀ x : KeptW W, x.v.cell? ⟨w.heap.size, 10, none⟩ = _ := fun x => x.cell r10
    have k11 : ∀ x : KeptW W, x.v.cell? ⟨w.heap.size, 11, none⟩ = _ := fun x => x.cell r11
    have k12 : ∀ x : KeptW W, x.v.cell? ⟨w.heap.size, 12, none⟩ = _ := fun x => x.cell r12
    have k13 : ∀ x : KeptW W, x.v.cell? ⟨w.heap.size, 13, none⟩ = _ := fun x => x.cell r13
    generalize KeptW.mk (w := W) W (Below.refl _ _) = x0 at HX
    clear r0 r1 r2 r3 r4 r5 r6 r7 r8 r9 r10 r11 r12 r13 HW
    go_enter Tryz.func42, Tryz.ntmps42
    go_wp2_with fail
    rw [HX.out]
    clear HX
    go_wp2_with fail
    refine (KeptW.calls (hck _)).mono ?_
    rintro e1 _ ⟨rfl, x1, rfl⟩
    go_wp2_with fail
    go_ret2
    exact ⟨by rw [HO.out]; rfl, b_then hb0 x1.below⟩
theorem cat_any (a : List UInt8) (x : ByteArray) : (⟨a.toArray⟩ : ByteArray) ++ x = ⟨(a ++ x.data.toList).toArray⟩ := by
  have := cat_lists a x.data.toList
  simpa using this
theorem emp_app (q : ByteArray) : (⟨#[]⟩ : ByteArray) ++ q = q := by
  rw [show (⟨#[]⟩ : ByteArray) = ⟨([] : List UInt8).toArray⟩ from rfl, cat_any]; rfl
theorem join_snoc (l : List (List UInt8)) (x sep : List UInt8) (h : l ≠ []) : Lib.join (l ++ [x]) sep = Lib.join l sep ++ sep ++ x := by
  cases l with
  | nil => exact absurd rfl h
  | cons a r =>
    rw [List.cons_append, Lib.join_cons, Lib.join_cons]
    simp [Lib.joinTail]
/-- The first words, joined. -/
def jn (xs : List ByteArray) (k : Nat) : ByteArray := ⟨(Lib.join ((xs.take k).map (·.data.toList)) [32]).toArray⟩
theorem jn_size (xs : List ByteArray) (k n : Nat) (h : ∀ x ∈ xs, x.size ≤ n) : (jn xs k).size ≤ (n + 1) * xs.length := by
  have := join_le (xs.take k) [32] n (fun x hx => h x (List.mem_of_mem_take hx))
  show (Lib.join ((xs.take k).map (·.data.toList)) [32]).toArray.size ≤ _
  rw [List.size_toArray]
  refine Nat.le_trans this (Nat.mul_le_mul_left _ ?_)
  simp; omega
theorem jn_one (xs : List ByteArray) (x : ByteArray) (h : xs[0]? = some x) : jn xs 1 = x := by
  cases xs with
  | nil => simp at h
  | cons a r =>
    simp at h; subst h
    show (⟨(Lib.join [a.data.toList] [32]).toArray⟩ : ByteArray) = a
    rw [Lib.join_one]
theorem jn_succ (xs : List ByteArray) (k : Nat) (x : ByteArray) (hk : 0 < k) (h : xs[k]? = some x) : jn xs (k + 1) = jn xs k ++ ⟨#[32]⟩ ++ x := by
  have hlt := (List.getElem?_eq_some_iff.1 h).1
  unfold jn
  rw [List.take_add_one, h, Option.toList_some, List.map_append, List.map_cons, List.map_nil, join_snoc _ _ _ (by
    intro e
    have h2 : ((xs.take k).map (·.data.toList)).length = 0 := by rw [e]; rfl
    rw [List.length_map, List.length_take] at h2
    omega)]
  rw [cat_lists _ [32], cat_any]
theorem qmask_call (n : Int) (h : 1 ≤ n ∧ n ≤ 127) (w : World) : Calls Tryz.prog 173 #[.int .i64 n] w fun e w' => e = .returned (.string (maskT n.toNat)) ∧ w' = w := by
  have := qPrintMask_any n.toNat w (by omega)
  rwa [show ((n.toNat : Nat) : Int) = n by omega] at this
/-- A call that has returned the words of a line. -/
structure WordsR (e : Ending) (w' : World) (ts : List ByteArray) : Prop where
  ex : ∃ g c, e = .returned (.slice (some ⟨g, 0, none⟩) ts.length c) ∧ ∀ (j : Nat) x, ts[j]? = some x → w'.cell? ⟨g, j, none⟩ = some (.string x)
end Go.Proofs.YtphoclgibnhjfaaGreat
