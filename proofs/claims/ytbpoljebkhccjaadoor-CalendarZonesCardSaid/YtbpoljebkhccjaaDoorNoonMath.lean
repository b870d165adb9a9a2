/- Noons of a zone with summer time of one year: plain arithmetic. -/
import Derived.Test.YtbpoljebkhccjaaDoorLocal
import Derived.Test.YtbpoljebkhccjaaDoorSummer
namespace Go.Proofs.YtbpoljebkhccjaaDoor
open Go.RowKit
theorem ls3_bd (y : Int) : Cal.db y + 83 ≤ Cal.ls y 3 ∧ Cal.ls y 3 ≤ Cal.db y + 90 := by
  have h := Cal.lv_bd y
  have e : Cal.dn y 3 31 = Cal.db y + 31 - 1 + Cal.cum y 2 := rfl
  rw [Cal.cum_2] at e
  unfold Cal.ls Cal.wd
  omega
theorem ls10_bd (y : Int) : Cal.db y + 297 ≤ Cal.ls y 10 ∧ Cal.ls y 10 ≤ Cal.db y + 304 := by
  have h := Cal.lv_bd y
  have e : Cal.dn y 10 31 = Cal.db y + 31 - 1 + Cal.cum y 9 := rfl
  rw [Cal.cum_9] at e
  unfold Cal.ls Cal.wd
  omega
def oneCs (o A B : Int) : List (Int × Int) := [(1440 * A + 60, o + 60), (1440 * B + 60, o)]
theorem sumCs_one (o y : Int) : sumCs o y 1 = oneCs o (Cal.ls y 3) (Cal.ls y 10) := by
  simp [sumCs, oneCs, cm]
def sft (A B d : Int) : Int := if A ≤ d ∧ d < B then 60 else 0
theorem one_zone (o A B : Int) (h1 : -600 < o) (h2 : o < 600) (hA : 0 ≤ A) (hAB : A < B) (hB : B ≤ 99999) : zoneErr o (oneCs o A B) = 0 := by
  have w1 : wrap64 ((if o + 60 < o then o else o + 60) - if o < o + 60 then o else o + 60) = 60 := by
    rw [if_neg (by omega), if_pos (by omega), IntWalk.wrap64_in _ ⟨by omega, by omega⟩]; omega
  have w2 : wrap64 ((if o < o + 60 then o + 60 else o) - if o + 60 < o then o + 60 else o) = 60 := by
    rw [if_pos (by omega), if_neg (by omega), IntWalk.wrap64_in _ ⟨by omega, by omega⟩]; omega
  have w3 : wrap64 (1440 * B + 60 - (1440 * A + 60)) = 1440 * B - 1440 * A := by
    rw [IntWalk.wrap64_in _ ⟨by omega, by omega⟩]; omega
  have e1 : chgErr (true || decide (1440 ≤ wrap64 (1440 * A + 60 - 0))) o (1440 * A + 60) (o + 60) = 0 := by
    unfold chgErr
    rw [rng_ok (by omega) (by omega), rng_ok (by omega) (by omega), w1]; rfl
  have e2 : chgErr (false || decide (1440 ≤ wrap64 (1440 * B + 60 - (1440 * A + 60)))) (o + 60) (1440 * B + 60) o = 0 := by
    unfold chgErr
    rw [rng_ok (by omega) (by omega), rng_ok (by omega) (by omega), w2, w3, decide_eq_true (show 1440 ≤ 1440 * B - 1440 * A by omega)]; rfl
  unfold zoneErr zoneHead oneCs
  rw [rng_ok (by omega) (by omega)]
  rw [if_neg (by simp [fst, unl])]
  simp only [chsErr, e1, e2]
  simp
theorem one_mem (o A B : Int) (h1 : -600 < o) (h2 : o < 600) (hA : 0 ≤ A) (hAB : A < B) (hB : B ≤ 99900) : ∀ c ∈ oneCs o A B, (0 ≤ c.1 ∧ c.1 ≤ 143999999) ∧ -720 ≤ c.2 ∧ c.2 ≤ 840 := by
  intro c hc
  simp only [oneCs, List.mem_cons, List.not_mem_nil, or_false] at hc
  rcases hc with rfl | rfl <;> exact ⟨⟨by show 0 ≤ 1440 * _ + 60; omega, by show 1440 * _ + 60 ≤ 143999999; omega⟩, by simp only; omega, by simp only; omega⟩
theorem one_strs (o A B : Int) : strs 0 o (oneCs o A B) = [(0, 1440 * A + 60 - 1, o), (1440 * A + 60, 1440 * B + 60 - 1, o + 60), (1440 * B + 60, 143999999, o)] := rfl
theorem one_univ (o A B d : Int) (h1 : -600 < o) (h2 : o < 600) (hA : 0 ≤ A) (hAB : A < B) (hd0 : 0 ≤ d) (hd1 : d ≤ 99900) : univ o (oneCs o A B) (1440 * d + 720) = [1440 * d + 720 - o - sft A B d] := by
  unfold univ
  rw [one_strs]
  simp only [hits, hit, sft, List.map_cons, List.map_nil, List.flatten_cons, List.flatten_nil, List.append_nil]
  by_cases c1 : d < A
  · rw [if_pos (by omega), if_neg (by omega), if_neg (by omega), if_neg (by omega)]; simp
  · by_cases c2 : d < B
    · rw [if_neg (by omega), if_pos (by omega), if_neg (by omega), if_pos (by omega)]; simp; omega
    · rw [if_neg (by omega), if_neg (by omega), if_pos (by omega), if_neg (by omega)]; simp
theorem one_loc (o A B d : Int) (h1 : -600 < o) (h2 : o < 600) (hA : 0 ≤ A) (hAB : A < B) (hd0 : 0 ≤ d) (hd1 : d ≤ 99900) : locOf o (oneCs o A B) (1440 * d + 720 - o - sft A B d) = 1440 * d + 720 := by
  unfold locOf
  rw [one_strs]
  simp only [locs, inS, sft, List.map_cons, List.map_nil, List.sum_cons, List.sum_nil]
  by_cases c1 : d < A
  · rw [if_neg (show ¬ (A ≤ d ∧ d < B) by omega), if_pos (by omega), if_neg (by omega), if_neg (by omega)]; omega
  · by_cases c2 : d < B
    · rw [if_pos (show A ≤ d ∧ d < B by omega), if_neg (by omega), if_pos (by omega), if_neg (by omega)]; omega
    · rw [if_neg (show ¬ (A ≤ d ∧ d < B) by omega), if_neg (by omega), if_neg (by omega), if_pos (by omega)]; omega
/-- From noon to noon. -/
def wantM (A B d : Int) : Int := if d = A then 1380 else if d = B then 1500 else 1440
theorem noon_diff (o A B d : Int) (hAB : A < B) : (1440 * d + 720 - o - sft A B d) - (1440 * (d - 1) + 720 - o - sft A B (d - 1)) = wantM A B d := by
  unfold sft wantM
  split <;> split <;> (try split) <;> (try split) <;> omega
end Go.Proofs.YtbpoljebkhccjaaDoor
