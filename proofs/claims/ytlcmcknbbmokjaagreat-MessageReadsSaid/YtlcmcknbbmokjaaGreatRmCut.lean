/- Words of a text: a text is cut at its first blank, and again, as often as it has blanks. -/
import Derived.Test.YtlcmcknbbmokjaaGreatRmNumK
import Derived.Test.YtlcmcknbbmokjaaGreatPm3
import Derived.Test.YtlcmcknbbmokjaaGreatPm1
import Derived.Lib.IndexLaws
namespace Go.Proofs.YtlcmcknbbmokjaaGreat
open Go Go.RowKit
/-- Where the first blank of a text is, or -1. -/
def blankAt (s : ByteArray) : Int := Lib.indexByte s.data.toList 32
/-- What stands before the first blank of a text, and behind it. -/
def cutB (s : ByteArray) : ByteArray × ByteArray :=
  if blankAt s < 0 then (s, ⟨#[]⟩) else (s.extract 0 (blankAt s).toNat, s.extract ((blankAt s).toNat + 1) s.size)
theorem blank_cases (s : ByteArray) : (blankAt s = -1 ∧ ∀ i, i < s.size → s.data.toList[i]? ≠ some 32) ∨ ∃ k : Nat, blankAt s = k ∧ k < s.size ∧ s.data.toList[k]? = some 32 ∧ ∀ i, i < k → s.data.toList[i]? ≠ some 32 := by
  unfold blankAt
  have hg := Lib.indexByte_ge s.data.toList 32
  rcases Int.lt_or_le (Lib.indexByte s.data.toList 32) 0 with h | h
  · have e : Lib.indexByte s.data.toList 32 = -1 := by omega
    exact .inl ⟨e, fun i _ => Lib.indexByte_none e i⟩
  · obtain ⟨k, e⟩ := Int.eq_ofNat_of_zero_le h
    obtain ⟨h1, h2⟩ := Lib.indexByte_some e
    refine .inr ⟨k, e, ?_, h1, h2⟩
    have := (List.getElem?_eq_some_iff.1 h1).1
    simpa using this
set_option maxRecDepth 100000 in
theorem liteCut_any (s : ByteArray) (w : World) (hs : s.size ≤ 1000000) :
    Calls Tryz.prog 193 #[.string s, .string ⟨#[32]⟩] w fun e w' => e = .returned (.tuple #[.string (cutB s).1, .string (cutB s).2, .bool (decide (0 ≤ blankAt s))]) ∧ Below w.heap.size w w' := by
  have hix := fun w => Tryz.stringslite_Index_one s 32 w
  have hb1 : (ByteArray.mk #[32]).size = 1 := rfl
  rcases blank_cases s with ⟨h, -⟩ | ⟨k, h, hk, -⟩
  · have HC : Hid (cutB s = (s, ⟨#[]⟩)) := Lib.hid (by unfold cutB; rw [if_pos (by omega)])
    have HD : Hid (decide (0 ≤ blankAt s) = false) := Lib.hid (by rw [h]; rfl)
    rw [show Lib.indexByte s.data.toList 32 = -1 from h] at hix
    clear h
    go_enter Tryz.func193, Tryz.ntmps193
    go_wp2_with fail
    refine (hix _).mono ?_
    rintro e w1 ⟨rfl, rfl⟩
    go_wp2_with fail
    refine bodyPost_ret (v := .tuple #[.string s, .string ⟨#[]⟩, .bool false]) (by simp [results, Tryz.results193, go_sem]) rfl ⟨by rw [HC.out, HD.out], Below.refl _ _⟩
  · have HC : Hid (cutB s = (s.extract 0 k, s.extract (k + 1) s.size)) := Lib.hid (by unfold cutB; rw [if_neg (by omega), h]; rfl)
    have HD : Hid (decide (0 ≤ blankAt s) = true) := Lib.hid (by rw [h]; simp)
    rw [show Lib.indexByte s.data.toList 32 = k from h] at hix
    clear h
    go_enter Tryz.func193, Tryz.ntmps193
    go_wp2_with fail
    refine (hix _).mono ?_
    rintro e w1 ⟨rfl, rfl⟩
    go_wp2_with fail
    go_quiet (fail)
    go_wp2_with fail
    refine bodyPost_ret (v := .tuple #[.string (s.extract 0 k), .string (s.extract (k + 1) s.size), .bool true]) (by simp [results, Tryz.results193, go_sem]) rfl ⟨by rw [HC.out, HD.out], ?_⟩
    exact ⟨rfl, rfl, rfl, Nat.le_refl _, fun _ _ => rfl⟩
set_option maxRecDepth 100000 in
theorem Cut_any (s : ByteArray) (w : World) (hs : s.size ≤ 1000000) :
    Calls Tryz.prog 143 #[.string s, .string ⟨#[32]⟩] w fun e w' => e = .returned (.tuple #[.string (cutB s).1, .string (cutB s).2, .bool (decide (0 ≤ blankAt s))]) ∧ Below w.heap.size w w' := by
  have hc := fun w => liteCut_any s w hs
  generalize cutB s = p at *
  generalize decide (0 ≤ blankAt s) = f at *
  go_enter Tryz.func143, Tryz.ntmps143
  go_wp2_with fail
  refine (hc _).mono ?_
  rintro e w1 ⟨rfl, hb⟩
  go_wp2_with fail
  refine bodyPost_ret (v := .tuple #[.string p.1, .string p.2, .bool f]) (by simp [results, Tryz.results143, go_sem]) rfl ⟨rfl, hb⟩
/-- How many words a text has. -/
def nWords (s : ByteArray) : Nat := Lib.countByte s.data.toList 32 + 1
theorem countWords_any (s : ByteArray) (w : World) (hs : s.size ≤ 1000000) :
    Calls Tryz.prog 59 #[.string s] w fun e w' => e = .returned (.int .i64 (nWords s)) ∧ Below w.heap.size w w' := by
  have hn : Lib.countByte s.data.toList 32 ≤ 1000000 := Nat.le_trans (List.count_le_length) (by simpa using hs)
  have hc := fun w => Tryz.strings_Count_one s 32 w
  have HN : Hid (((nWords s : Nat) : Int) = (Lib.countByte s.data.toList 32 : Int) + 1) := Lib.hid (by unfold nWords; omega)
  generalize Lib.countByte s.data.toList 32 = k at *
  go_enter Tryz.func59, Tryz.ntmps59
  go_wp2_with fail
  refine (hc _).mono ?_
  rintro e w1 ⟨rfl, rfl⟩
  go_wp2_with fail
  go_ret
  exact ⟨by rw [HN.out]; rfl, Below.refl _ _⟩
/-- What is left of a text after some words, and the next word. -/
def restAt (s : ByteArray) : Nat → ByteArray
  | 0 => s
  | k + 1 => (cutB (restAt s k)).2
def cwAt (s : ByteArray) (k : Nat) : ByteArray := (cutB (restAt s k)).1
theorem cutB_size (s : ByteArray) : (cutB s).2.size ≤ s.size := by
  unfold cutB
  split
  · exact Nat.zero_le _
  · simp [ByteArray.size_extract]
theorem restAt_size (s : ByteArray) (k : Nat) : (restAt s k).size ≤ s.size := by
  induction k with
  | zero => exact Nat.le_refl _
  | succ k ih => exact Nat.le_trans (cutB_size _) ih
end Go.Proofs.YtlcmcknbbmokjaaGreat
