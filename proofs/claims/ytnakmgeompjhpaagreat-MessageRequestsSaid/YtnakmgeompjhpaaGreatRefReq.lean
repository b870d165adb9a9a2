/- Contracts of the reference: At, optional, CheckRequest. -/
import Derived.Test.YtnakmgeompjhpaaGreatRefPer
import Derived.Test.YtnakmgeompjhpaaGreatQName
import Derived.Test.YtnakmgeompjhpaaGreatQFirst
import Derived.Test.YtnakmgeompjhpaaGreatPairs
namespace Go.Proofs.YtnakmgeompjhpaaGreat
open Go Go.RowKit
theorem hFirst_new (es : List Int) (b n c T : Nat) (w : World) (hb : b = w.heap.size) (hn : n = es.length) (hl : es.length ≤ 100) :
    Calls Tryz.prog 41 #[.slice (some ⟨b, 0, none⟩) n c] (w.alloc (.cells (es.map (Value.int .i64)).toArray T)) fun r w' => r = .returned (.int .i64 (fst es)) ∧ w' = w.alloc (.cells (es.map (Value.int .i64)).toArray T) := by
  subst hn hb
  exact qFirst_any es _ c _ (fun i hi => cell_fresh _ _ _ _ _ (by simp [hi])) hl
theorem refOpt_any (s : ByteArray) (w : World) : Calls Tryz.prog 39 #[.string s] w fun r w' => r = .returned (.bool (s.toList == [] || decide (isName s))) ∧ Below w.heap.size w w' := by
  cases h : (s.toList == [])
  · go_enter Tryz.func39, Tryz.ntmps39
    go_wp2_with fail
    refine (qIsName_any _ _).mono ?_
    rintro e w1 ⟨rfl, hb⟩
    go_wp2_with fail
    go_ret
    exact ⟨rfl, hb⟩
  · go_enter Tryz.func39, Tryz.ntmps39
    go_wp2_with fail
    go_ret
    exact ⟨rfl, Below.refl _ _⟩
set_option maxRecDepth 100000 in
set_option maxHeartbeats 2000000 in
theorem refAt_any (s : ByteArray) (l : List ReqV) (n b off cap : Nat) (w : World) (hl : RqsAt w b off l) (hn : n ≤ l.length) (h9 : l.length ≤ 900) :
    Calls Tryz.prog 29 #[.slice (some ⟨b, off, none⟩) n cap, .string s] w fun e w' => e = .returned (.int .i64 (findIx s (l.take n) 0)) ∧ ∃ m, w' = w.drewN m := by
  have HL := Lib.hid hl
  have hlen : (l.take n).length = n := by simp; omega
  clear hl
  go_enter Tryz.func29, Tryz.ntmps29
  go_wp2_with fail
  go_loopw [5] (fun i wr => ∃ (k : Nat), k ≤ n ∧ i = .int .i64 k ∧ Hid (findIx s (l.take n) 0 = findIx s ((l.take n).drop k) k) ∧ ∃ m, wr = w.drewN m) (fun i _ => n - (intOf i).toNat)
  case atStart => exact ⟨0, Nat.zero_le _, rfl, Lib.hid (by simp), 0, rfl⟩
  case round =>
    obtain ⟨k, hk, rfl, HF, m, rfl⟩ := hrel
    by_cases hlt : k < n
    · have hd := findIx_drop s (l.take n) k (by omega) _ rfl
      have hq : (l.take n).getD k default = l.getD k default := by simp [List.getD_eq_getElem?_getD, List.getElem?_take_of_lt hlt]
      rw [hq] at hd
      obtain ⟨x0, -⟩ := HL.out.row (show k < l.length by omega) rfl
      generalize (l.getD k default).name = nm at hd x0
      have HD := Lib.hid hd
      clear hd hq
      have y0 : (w.drewN m).cell? ⟨b, off + k * 13, none⟩ = some (.string nm) := x0
      clear x0
      cases hp : (nm.toList == s.toList)
      · rw [hp] at HD
        go_wp2_with fail
        go_round
        case rel => exact ⟨k + 1, by omega, by go_num, Lib.hid (by rw [HF.out, HD.out, if_neg (by simp)]), m, rfl⟩
        case measure => simp [intOf]; omega
      · rw [hp] at HD
        have HE := Lib.hid (show findIx s (l.take n) 0 = k by rw [HF.out, HD.out, if_pos rfl])
        go_wp2_with fail
        go_ret
        exact ⟨by rw [HE.out]; rfl, m, rfl⟩
    · have HE := Lib.hid (show findIx s (l.take n) 0 = -1 by rw [HF.out, List.drop_of_length_le (by omega)]; rfl)
      go_wp2_with fail
      go_ret
      exact ⟨by rw [HE.out]; rfl, m, rfl⟩
end Go.Proofs.YtnakmgeompjhpaaGreat
