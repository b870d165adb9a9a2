/- Plain arithmetic of the seasons. -/
import Derived.Test.YtoaimgfekbnijaaDoorSeasOf
import Derived.Test.YtoaimgfekbnijaaDoorTurnMath
namespace Go.Proofs.YtoaimgfekbnijaaDoor
theorem bytes_eq {s : ByteArray} {l : List UInt8} (h : s.toList = l) : s = ⟨l.toArray⟩ := by
  rw [Lib.toList_data] at h
  obtain ⟨⟨d⟩⟩ := s
  simp at h
  rw [h]
def bS : ByteArray := ⟨#[83]⟩
def bW : ByteArray := ⟨#[87]⟩
theorem isS_bS : isS bS = true := isS_S
theorem isS_bW : isS bW = false := isS_W
theorem kind_bS : kindErr bS = 0 := by unfold kindErr; rw [isS_bS]; rfl
theorem isW_bW : isW bW = true := isW_W
theorem kind_bW : kindErr bW = 0 := by unfold kindErr; rw [if_pos (Or.inr isW_bW)]
theorem kind_two {s : ByteArray} (h : kindErr s = 0) : s = bS ∨ s = bW := by
  unfold kindErr at h
  split at h
  · rename_i hk
    rcases hk with hk | hk
    · left; have e : s.toList = [83] := by simpa [isS] using hk
      exact bytes_eq e
    · right; have e : s.toList = [87] := by simpa [isW] using hk
      exact bytes_eq e
  · omega
theorem fS (y : Int) : fDay y bS = Cal.ls y 3 := by unfold fDay; rw [isS_bS]; rfl
theorem fW (y : Int) : fDay y bW = Cal.ls y 10 := by unfold fDay; rw [isS_bW]; rfl
theorem follY_S (y : Int) : follY y bS = y := by unfold follY; rw [isS_bS]; rfl
theorem follY_W (y : Int) : follY y bW = y + 1 := by unfold follY; rw [isS_bW]; rfl
theorem follK_S : follK bS = bW := by unfold follK; rw [isS_bS]; rfl
theorem follK_W : follK bW = bS := by unfold follK; rw [isS_bW]; rfl
theorem lS (y : Int) : lDay y bS = Cal.ls y 10 - 1 := by unfold lDay; rw [follY_S, follK_S, fW]
theorem lW (y : Int) : lDay y bW = Cal.ls (y + 1) 3 - 1 := by unfold lDay; rw [follY_W, follK_W, fS]
theorem ls3 (y : Int) : Cal.ls y 3 = Cal.db y + 89 + Cal.lv y - (Cal.db y + 89 + Cal.lv y + 6) % 7 := by
  have e : Cal.dn y 3 31 = Cal.db y + 89 + Cal.lv y := by unfold Cal.dn; rw [show (3 - 1 : Nat) = 2 from rfl, Cal.cum_2]; omega
  unfold Cal.ls Cal.wd; rw [e]; omega
theorem ls10 (y : Int) : Cal.ls y 10 = Cal.db y + 303 + Cal.lv y - (Cal.db y + 303 + Cal.lv y + 6) % 7 := by
  have e : Cal.dn y 10 31 = Cal.db y + 303 + Cal.lv y := by unfold Cal.dn; rw [show (10 - 1 : Nat) = 9 from rfl, Cal.cum_9]; omega
  unfold Cal.ls Cal.wd; rw [e]; omega
/-- What is known of a season: its days F to T. -/
structure SeaF (F T : Int) : Prop where
  lo : 85 ≤ F
  hi : T ≤ 99799
  sun : (F + 5) % 7 = 6
  wk : (T + 1 - F) % 7 = 0
  l1 : 147 ≤ T + 1 - F
  l2 : T + 1 - F ≤ 217
theorem seaF {y : Int} {s : ByteArray} (h1 : 2000 ≤ y) (h2 : y ≤ 2272) (hk : s = bS ∨ s = bW) : SeaF (fDay y s) (lDay y s) := by
  have a3 := ls3 y
  have a10 := ls10 y
  have b3 := ls3 (y + 1)
  have hs := Cal.db_succ y
  have v1 := Cal.lv_bd y
  have v2 := Cal.lv_bd (y + 1)
  have d1 := Cal.db_mono 2000 y h1
  have d2 := Cal.db_mono y 2272 h2
  rw [Cal.db_2000] at d1
  have e2272 : Cal.db 2272 = 99346 := by decide
  rw [e2272] at d2
  have lo : 85 ≤ Cal.ls y 3 := by
    by_cases e : y = 2000
    · subst e; decide
    · have := Cal.db_mono 2001 y (by omega)
      have e1 : Cal.db 2001 = 366 := by decide
      omega
  rcases hk with rfl | rfl
  · rw [fS, lS]
    exact ⟨lo, by omega, by omega, by omega, by omega, by omega⟩
  · rw [fW, lW]
    refine ⟨by omega, ?_, by omega, by omega, by omega, by omega⟩
    by_cases e : y = 2272
    · subst e; decide
    · have := Cal.db_mono (y + 1) 2272 (by omega)
      omega
/-- The season of a day of a season. -/
theorem sea_in {y : Int} {s : ByteArray} {d : Int} (h1 : 2000 ≤ y) (h2 : y ≤ 2272) (hk : s = bS ∨ s = bW) (hd1 : fDay y s ≤ d) (hd2 : d ≤ lDay y s) :
    ∃ z, 2000 ≤ z ∧ z ≤ 2273 ∧ Cal.db z ≤ d ∧ d < Cal.db (z + 1) ∧ seaY d z = y ∧ seaK d z = s := by
  have a3 := ls3 y
  have a10 := ls10 y
  have b3 := ls3 (y + 1)
  have b10 := ls10 (y + 1)
  have hs := Cal.db_succ y
  have hs2 := Cal.db_succ (y + 1)
  have v1 := Cal.lv_bd y
  have v2 := Cal.lv_bd (y + 1)
  rcases hk with rfl | rfl
  · rw [fS] at hd1
    rw [lS] at hd2
    refine ⟨y, h1, by omega, by omega, by omega, ?_, ?_⟩
    · unfold seaY; rw [if_neg (by omega)]
    · unfold seaK; rw [if_neg (by omega), if_pos (by omega)]; rfl
  · rw [fW] at hd1
    rw [lW] at hd2
    by_cases e : d < Cal.db (y + 1)
    · refine ⟨y, h1, by omega, by omega, e, ?_, ?_⟩
      · unfold seaY; rw [if_neg (by omega)]
      · unfold seaK; rw [if_neg (by omega), if_neg (by omega)]; rfl
    · refine ⟨y + 1, by omega, by omega, by omega, by omega, ?_, ?_⟩
      · unfold seaY; rw [if_pos (by omega)]; omega
      · unfold seaK; rw [if_pos (by omega)]; rfl
end Go.Proofs.YtoaimgfekbnijaaDoor
