/- Contracts: the reference's HasInt of a list that has the number. Contracts: the reference's HasInt of any list. -/
import Derived.Test.YtoaimgfekbnijaaDoorSame
import Derived.Test.YtoaimgfekbnijaaDoorIntsC
namespace Go.Proofs.YtoaimgfekbnijaaDoor
open Go Go.RowKit
theorem HasInt_yes (l : List Int) (x : Int) (b c n : Nat) (w : World) (h : IntAt w b 0 l) (hn : l.length = n) (hx : x ∈ l) (_ : n ≤ 1000000) :
    Calls Tryd.prog 44 #[.slice (some ⟨b, 0, none⟩) n c, .int .i64 x] w fun r w' => r = .returned (.bool true) ∧ w' = w := by
  have HX := Lib.hid h; clear h
  have HM := Lib.hid hx; clear hx
  have HN := Lib.hid hn
  clear hn
  go_enter Tryd.func44, Tryd.ntmps44
  go_wp2_with fail
  go_loop [5] (fun i => ∃ k : Nat, k ≤ n ∧ i = .int .i64 k ∧ Hid (x ∈ l.drop k)) (fun i => n - (intOf i).toNat)
  case atStart => exact ⟨0, Nat.zero_le _, rfl, Lib.hid (by simpa using HM.out)⟩
  case round =>
    obtain ⟨k, hk, rfl, HK⟩ := hrel
    by_cases hlt : k < n
    · have hxc := HX.out k (by have := HN.out; omega)
      simp only [Nat.zero_add] at hxc
      have HD : Hid (l.drop k = l.getD k 0 :: l.drop (k + 1)) := Lib.hid (by
        have hk' : k < l.length := by have := HN.out; omega
        rw [List.drop_eq_getElem_cons hk', List.getD_eq_getElem?_getD, List.getElem?_eq_getElem hk']; rfl)
      generalize l.getD k 0 = y at *
      by_cases he : y = x
      · have hb : (y == x) = true := by simp [he]
        clear he
        go_wp2_with fail
        go_ret
        exact ⟨rfl, rfl⟩
      · have hb : (y == x) = false := by simpa using he
        have HK2 : Hid (x ∈ l.drop (k + 1)) := Lib.hid (by
          have := HK.out
          rw [HD.out, List.mem_cons] at this
          exact this.resolve_left (fun e => he e.symm))
        clear he HD
        go_wp2_with fail
        go_round
        case rel => exact ⟨k + 1, by omega, by go_num, HK2⟩
        case measure => simp [intOf]; omega
    · exact absurd HK.out (by rw [List.drop_of_length_le (by have := HN.out; omega)]; simp)
end Go.Proofs.YtoaimgfekbnijaaDoor
namespace Go.Proofs.YtoaimgfekbnijaaDoor
open Go Go.RowKit
theorem intAt_row {w : World} {base : Nat} {e : TypeId} {v : Value} {l : List Int} (h : w.ownsRow base e 1 v l.length (l.map (Value.int .i64))) (hn : 0 < l.length) : ∃ g cap, v = .slice (some ⟨g, 0, none⟩) l.length cap ∧ IntAt w g 0 l := by
  obtain ⟨k, hk⟩ : ∃ k, l.length = k + 1 := ⟨l.length - 1, by omega⟩
  rw [hk] at h
  obtain ⟨g, cap, rfl⟩ := ownsRow_succ h
  rw [hk]
  exact ⟨g, cap, rfl, fun i hi => by rw [Nat.zero_add, h.cellAt _ (by omega)]; simp [hi]⟩
theorem HasInt_no (l : List Int) (x : Int) (b c n : Nat) (w : World) (h : IntAt w b 0 l) (hn : l.length = n) (hx : x ∉ l) (_ : n ≤ 1000000) :
    Calls Tryd.prog 44 #[.slice (some ⟨b, 0, none⟩) n c, .int .i64 x] w fun r w' => r = .returned (.bool false) ∧ w' = w := by
  have HX := Lib.hid h; clear h
  have HM : Hid (∀ k, k < n → l.getD k 0 ≠ x) := Lib.hid fun k hk e => hx (by rw [← e, List.getD_eq_getElem?_getD, List.getElem?_eq_getElem (by omega)]; exact List.getElem_mem (by omega))
  clear hx
  have HN := Lib.hid hn
  clear hn
  go_enter Tryd.func44, Tryd.ntmps44
  go_wp2_with fail
  go_loop [5] (fun i => ∃ k : Nat, k ≤ n ∧ i = .int .i64 k) (fun i => n - (intOf i).toNat)
  case atStart => exact ⟨0, Nat.zero_le _, rfl⟩
  case round =>
    obtain ⟨k, hk, rfl⟩ := hrel
    by_cases hlt : k < n
    · have hxc := HX.out k (by have := HN.out; omega)
      simp only [Nat.zero_add] at hxc
      have he := HM.out k hlt
      generalize l.getD k 0 = y at *
      have hb : (y == x) = false := by simpa using he
      clear he
      go_wp2_with fail
      go_round
      case rel => exact ⟨k + 1, by omega, by go_num⟩
      case measure => simp [intOf]; omega
    · go_wp2_with fail
      go_ret
      exact ⟨rfl, rfl⟩
theorem HasInt_zero (x : Int) (A : Option Addr) (c : Nat) (w : World) :
    Calls Tryd.prog 44 #[.slice A 0 c, .int .i64 x] w fun r w' => r = .returned (.bool false) ∧ w' = w := by
  go_enter Tryd.func44, Tryd.ntmps44
  go_wp2_with fail
  go_loop [5] (fun i => i = .int .i64 0) (fun _ => 0)
  case atStart => rfl
  case round =>
    obtain rfl := hrel
    go_wp2_with fail
    go_ret
    exact ⟨rfl, rfl⟩
/-- A slice of numbers, by its length. -/
theorem IntsAt.form {w : World} {base : Nat} {v : Value} {l : List Int} (h : IntsAt w base v l) : ∃ A cap, v = .slice A l.length cap := by
  rcases h.own.2 with ⟨h1, h2⟩ | ⟨g, cap, cur, h1, _⟩
  · exact ⟨none, 0, by rw [h1, show l = [] from h.nil.1 h1]; rfl⟩
  · exact ⟨_, _, h1⟩
theorem HasInt_any (l : List Int) (x : Int) (base : Nat) (v : Value) (w : World) (h : IntsAt w base v l) (hl : l.length ≤ 1000000) :
    Calls Tryd.prog 44 #[v, .int .i64 x] w fun r w' => r = .returned (.bool (decide (x ∈ l))) ∧ w' = w := by
  by_cases h0 : l = []
  · obtain rfl := h.nil.2 h0
    subst h0
    simpa using HasInt_zero x none 0 w
  · obtain ⟨g, cap, rfl, hi⟩ := intAt_row h.own (List.length_pos_iff.2 h0)
    by_cases hx : x ∈ l
    · rw [decide_eq_true hx]
      exact HasInt_yes l x g cap l.length w hi rfl hx hl
    · rw [decide_eq_false hx]
      exact HasInt_no l x g cap l.length w hi rfl hx hl
end Go.Proofs.YtoaimgfekbnijaaDoor
