/- Contracts of the reference: SameInts. -/
import Derived.Test.YtoaimgfekbnijaaDoorHeap
import Derived.RangeFuncBox
namespace Go.Proofs.YtoaimgfekbnijaaDoor
open Go.RowKit
/-- Cells of a list of integers. -/
def IntAt (w : World) (b off : Nat) (l : List Int) : Prop := ∀ i, i < l.length → w.cell? ⟨b, off + i, none⟩ = some (.int .i64 (l.getD i 0))
theorem IntAt.below {w w' : World} {b off : Nat} {l : List Int} (h : IntAt w b off l) (hb : Below w.heap.size w w') : IntAt w' b off l := fun i hi => b_old hb (h i hi)
theorem take_eq (x y : List Int) (hl : x.length = y.length) (k : Nat) (hk : k < x.length) : x.take (k + 1) = y.take (k + 1) ↔ x.take k = y.take k ∧ x.getD k 0 = y.getD k 0 := by
  rw [List.take_succ_eq_append_getElem hk, List.take_succ_eq_append_getElem (by omega)]
  simp only [List.getD_eq_getElem?_getD, List.getElem?_eq_getElem hk, List.getElem?_eq_getElem (show k < y.length by omega), Option.getD_some]
  constructor
  · intro h
    have := List.append_inj h (by simp; omega)
    exact ⟨this.1, by simpa using this.2⟩
  · rintro ⟨h1, h2⟩; rw [h1, h2]
set_option maxRecDepth 100000 in
set_option maxHeartbeats 1000000 in
theorem SameInts_some (x y : List Int) (b1 o1 c1 b2 o2 c2 : Nat) (w : World) (hx : IntAt w b1 o1 x) (hy : IntAt w b2 o2 y) (_ : x.length ≤ 1000000) (_ : y.length ≤ 1000000) :
    Calls Tryd.prog 31 #[.slice (some ⟨b1, o1, none⟩) x.length c1, .slice (some ⟨b2, o2, none⟩) y.length c2] w fun r w' => r = .returned (.bool (decide (x = y))) ∧ ∃ n, w' = w.drewN n := by
  by_cases hl : x.length = y.length
  · have HX := Lib.hid hx; clear hx
    have HY := Lib.hid hy; clear hy
    have HL := Lib.hid hl
    have HT := Lib.hid (take_eq x y hl)
    have hlb : ((x.length : Int) != (y.length : Int)) = false := by simp [hl]
    have hle : x.length ≤ y.length := by omega
    clear hl
    go_enter Tryd.func31, Tryd.ntmps31
    go_wp2
    go_loopw [5] (fun i wr => ∃ k : Nat, k ≤ x.length ∧ i = .int .i64 k ∧ Hid (x.take k = y.take k) ∧ ∃ n, wr = w.drewN n) (fun i _ => x.length - (intOf i).toNat)
    case atStart => exact ⟨0, Nat.zero_le _, rfl, Lib.hid (by simp), 0, rfl⟩
    case round =>
      obtain ⟨k, hk, rfl, HK, q, rfl⟩ := hrel
      by_cases hlt : k < x.length
      · have hxc := HX.out k hlt
        have hyc := HY.out k (by omega)
        have hlt2 : k < y.length := by omega
        have HI := Lib.hid (HT.out k hlt)
        generalize hxv : x.getD k 0 = xv at *
        generalize hyv : y.getD k 0 = yv at *
        by_cases he : xv = yv
        · subst he
          have HK2 : Hid (x.take (k + 1) = y.take (k + 1)) := Lib.hid (HI.out.2 ⟨HK.out, rfl⟩)
          clear hxv hyv
          go_wp2_with fail
          go_quiet (fail)
          go_wp2_with fail
          go_roundw
          case rel => exact ⟨k + 1, by omega, by go_num, HK2, q + nq, by first | rfl | rw [World.drewN_drewN]⟩
          case measure => simp [intOf]; omega
        · have HN : Hid (decide (x = y) = false) := Lib.hid (decide_eq_false (fun e => he (by rw [← hxv, ← hyv, e])))
          have hb : (xv != yv) = true := by simpa using he
          clear hxv hyv he
          go_wp2_with fail
          go_quiet (fail)
          go_wp2_with fail
          go_ret
          exact ⟨by rw [HN.out]; rfl, q + nq, by first | rfl | rw [World.drewN_drewN]⟩
      · have HN : Hid (decide (x = y) = true) := Lib.hid (decide_eq_true (by have h := HK.out; rwa [List.take_of_length_le (by omega), List.take_of_length_le (by have := HL.out; omega)] at h))
        go_wp2
        go_ret
        exact ⟨by rw [HN.out]; rfl, q, rfl⟩
  · have HN : Hid (decide (x = y) = false) := Lib.hid (decide_eq_false (fun e => hl (by rw [e])))
    have hlb : ((x.length : Int) != (y.length : Int)) = true := by rw [bne_iff_ne]; omega
    clear hl
    go_enter Tryd.func31, Tryd.ntmps31
    go_wp2
    go_ret
    exact ⟨by rw [HN.out]; rfl, 0, rfl⟩
end Go.Proofs.YtoaimgfekbnijaaDoor
