/- Contracts: the reference's HasInt of a list that has the number. -/
import Derived.Test.YtbpoljebkhccjaaDoorSame
namespace Go.Proofs.YtbpoljebkhccjaaDoor
open Go Go.RowKit
theorem HasInt_yes (l : List Int) (x : Int) (b c n : Nat) (w : World) (h : IntAt w b 0 l) (hn : l.length = n) (hx : x ∈ l) (_ : n ≤ 1000000) :
    Calls Tryd.prog 44 #[.slice (some ⟨b, 0, none⟩) n c, .int .i64 x] w fun r w' => r = .returned (.bool true) ∧ w' = w := by
  have HX := Lib.hid h; clear h
  have HM := Lib.hid hx; clear hx
  have HN := Lib.hid hn
  clear hn
  go_enter Tryd.func44, Tryd.ntmps44
  go_wp2_with fail
  go_loop [5] (fun i => ∃ k : Nat, k ≤ n ∧ i = .int .i64 k ∧ Hid (x ∈ l.drop k)) (fun i => n - (intOf i).toNat)
  case atStart => exact ⟨0, Nat.zero_le _, rfl, Lib.hid (by simpa using HM.out)⟩
  case round =>
    obtain ⟨k, hk, rfl, HK⟩ := hrel
    by_cases hlt : k < n
    · have hxc := HX.out k (by have := HN.out; omega)
      simp only [Nat.zero_add] at hxc
      have HD : Hid (l.drop k = l.getD k 0 :: l.drop (k + 1)) := Lib.hid (by
        have hk' : k < l.length := by have := HN.out; omega
        rw [List.drop_eq_getElem_cons hk', List.getD_eq_getElem?_getD, List.getElem?_eq_getElem hk']; rfl)
      generalize l.getD k 0 = y at *
      by_cases he : y = x
      · have hb : (y == x) = true := by simp [he]
        clear he
        go_wp2_with fail
        go_ret
        exact ⟨rfl, rfl⟩
      · have hb : (y == x) = false := by simpa using he
        have HK2 : Hid (x ∈ l.drop (k + 1)) := Lib.hid (by
          have := HK.out
          rw [HD.out, List.mem_cons] at this
          exact this.resolve_left (fun e => he e.symm))
        clear he HD
        go_wp2_with fail
        go_round
        case rel => exact ⟨k + 1, by omega, by go_num, HK2⟩
        case measure => simp [intOf]; omega
    · exact absurd HK.out (by rw [List.drop_of_length_le (by have := HN.out; omega)]; simp)
end Go.Proofs.YtbpoljebkhccjaaDoor
