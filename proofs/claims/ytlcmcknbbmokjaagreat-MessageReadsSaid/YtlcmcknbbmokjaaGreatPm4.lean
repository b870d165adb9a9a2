/- Contracts of package calendar: seasons. · Contracts of package calendar: Span. · Contracts of package calendar: SeasonOf. · Plain arithmetic of the seasons. · Contracts of package calendar: SeasonOf of a day of a season, Next, Previous. · Contracts of package calendar: Equivalent of a day of a season, in a season of its kind. · Contracts for CalendarTiles: the last season has no next one; the season before the next one; the reference's checks. · Contracts: the weekdays of a mask, moved by days (the reference's InMask and Shift; turn). · The texts of masks. · Contracts: PrintMask, of package calendar and of the reference. -/
import Derived.Test.YtlcmcknbbmokjaaGreatPm3
import Derived.Deep.RegionHeld3
import Derived.Test.YtlcmcknbbmokjaaGreatPm1
import Derived.Laws.StructEq
import Derived.Laws.IdiomStrings
namespace Go.Proofs.YtlcmcknbbmokjaaGreat
open Go.RowKit
def isS (s : ByteArray) : Bool := s.toList == [83]
def isW (s : ByteArray) : Bool := s.toList == [87]
def kindErr (s : ByteArray) : Int := if isS s = true ∨ isW s = true then 0 else 13
def seasonErr (y : Int) (s : ByteArray) : Int := fst [rng y 2000 2272, kindErr s]
def fDay (y : Int) (s : ByteArray) : Int := Cal.ls y (if isS s = true then 3 else 10)
theorem isS_W : isS ⟨#[87]⟩ = false := by decide +kernel
theorem isS_S : isS ⟨#[83]⟩ = true := by decide +kernel
theorem isW_W : isW ⟨#[87]⟩ = true := by decide +kernel
theorem isW_S : isW ⟨#[83]⟩ = false := by decide +kernel
def follY (y : Int) (s : ByteArray) : Int := if isS s = true then y else y + 1
def follK (s : ByteArray) : ByteArray := if isS s = true then ⟨#[87]⟩ else ⟨#[83]⟩
def lDay (y : Int) (s : ByteArray) : Int := fDay (follY y s) (follK s) - 1
theorem ls_bd (y : Int) (m : Nat) (h1 : 2000 ≤ y) (h2 : y ≤ 2300) (h3 : m ≤ 12) : -10 ≤ Cal.ls y m ∧ Cal.ls y m ≤ 150000 := by
  have := Cal.dn_bd y m 31 h1 h2 h3 (by omega) (by omega)
  unfold Cal.ls; omega
theorem fDay_bd (y : Int) (s : ByteArray) (h1 : 2000 ≤ y) (h2 : y ≤ 2300) : -10 ≤ fDay y s ∧ fDay y s ≤ 150000 := by
  unfold fDay; exact ls_bd _ _ h1 h2 (by split <;> omega)
theorem follY_bd (y : Int) (s : ByteArray) : y ≤ follY y s ∧ follY y s ≤ y + 1 := by unfold follY; split <;> omega
end Go.Proofs.YtlcmcknbbmokjaaGreat
namespace Go.Proofs.YtlcmcknbbmokjaaGreat
open Go.RowKit
def periodVal (a b d : Int) : Value := .agg #[.int .i64 a, .int .i64 b, .int .i64 d]
end Go.Proofs.YtlcmcknbbmokjaaGreat
namespace Go.Proofs.YtlcmcknbbmokjaaGreat
open Go.RowKit
theorem first_day : fDay 2000 ⟨#[83]⟩ = 85 := by unfold fDay; rw [if_pos isS_S]; decide
theorem last_day : lDay 2272 ⟨#[87]⟩ = 99799 := by
  unfold lDay follY follK
  rw [if_neg (by simp [isS_W]), if_neg (by simp [isS_W])]
  unfold fDay; rw [if_pos isS_S]; decide
def seaY (d y : Int) : Int := if d < Cal.ls y 3 then y - 1 else y
def seaK (d y : Int) : ByteArray := if d < Cal.ls y 3 then ⟨#[87]⟩ else if d < Cal.ls y 10 then ⟨#[83]⟩ else ⟨#[87]⟩
end Go.Proofs.YtlcmcknbbmokjaaGreat
namespace Go.Proofs.YtlcmcknbbmokjaaGreat
theorem bytes_eq {s : ByteArray} {l : List UInt8} (h : s.toList = l) : s = ⟨l.toArray⟩ := by
  rw [Lib.toList_data] at h
  obtain ⟨⟨d⟩⟩ := s
  simp at h
  rw [h]
def bS : ByteArray := ⟨#[83]⟩
def bW : ByteArray := ⟨#[87]⟩
theorem isS_bS : isS bS = true := isS_S
theorem isS_bW : isS bW = false := isS_W
theorem kind_bS : kindErr bS = 0 := by unfold kindErr; rw [isS_bS]; rfl
theorem isW_bW : isW bW = true := isW_W
theorem kind_bW : kindErr bW = 0 := by unfold kindErr; rw [if_pos (Or.inr isW_bW)]
theorem kind_two {s : ByteArray} (h : kindErr s = 0) : s = bS ∨ s = bW := by
  unfold kindErr at h
  split at h
  · rename_i hk
    rcases hk with hk | hk
    · left; have e : s.toList = [83] := by simpa [isS] using hk
      exact bytes_eq e
    · right; have e : s.toList = [87] := by simpa [isW] using hk
      exact bytes_eq e
  · omega
theorem fS (y : Int) : fDay y bS = Cal.ls y 3 := by unfold fDay; rw [isS_bS]; rfl
theorem fW (y : Int) : fDay y bW = Cal.ls y 10 := by unfold fDay; rw [isS_bW]; rfl
theorem follY_S (y : Int) : follY y bS = y := by unfold follY; rw [isS_bS]; rfl
theorem follY_W (y : Int) : follY y bW = y + 1 := by unfold follY; rw [isS_bW]; rfl
theorem follK_S : follK bS = bW := by unfold follK; rw [isS_bS]; rfl
theorem follK_W : follK bW = bS := by unfold follK; rw [isS_bW]; rfl
theorem lS (y : Int) : lDay y bS = Cal.ls y 10 - 1 := by unfold lDay; rw [follY_S, follK_S, fW]
theorem lW (y : Int) : lDay y bW = Cal.ls (y + 1) 3 - 1 := by unfold lDay; rw [follY_W, follK_W, fS]
theorem ls3 (y : Int) : Cal.ls y 3 = Cal.db y + 89 + Cal.lv y - (Cal.db y + 89 + Cal.lv y + 6) % 7 := by
  have e : Cal.dn y 3 31 = Cal.db y + 89 + Cal.lv y := by unfold Cal.dn; rw [show (3 - 1 : Nat) = 2 from rfl, Cal.cum_2]; omega
  unfold Cal.ls Cal.wd; rw [e]; omega
theorem ls10 (y : Int) : Cal.ls y 10 = Cal.db y + 303 + Cal.lv y - (Cal.db y + 303 + Cal.lv y + 6) % 7 := by
  have e : Cal.dn y 10 31 = Cal.db y + 303 + Cal.lv y := by unfold Cal.dn; rw [show (10 - 1 : Nat) = 9 from rfl, Cal.cum_9]; omega
  unfold Cal.ls Cal.wd; rw [e]; omega
/-- What is known of a season: its days F to T. -/
structure SeaF (F T : Int) : Prop where
  lo : 85 ≤ F
  hi : T ≤ 99799
  sun : (F + 5) % 7 = 6
  wk : (T + 1 - F) % 7 = 0
  l1 : 147 ≤ T + 1 - F
  l2 : T + 1 - F ≤ 217
theorem seaF {y : Int} {s : ByteArray} (h1 : 2000 ≤ y) (h2 : y ≤ 2272) (hk : s = bS ∨ s = bW) : SeaF (fDay y s) (lDay y s) := by
  have a3 := ls3 y
  have a10 := ls10 y
  have b3 := ls3 (y + 1)
  have hs := Cal.db_succ y
  have v1 := Cal.lv_bd y
  have v2 := Cal.lv_bd (y + 1)
  have d1 := Cal.db_mono 2000 y h1
  have d2 := Cal.db_mono y 2272 h2
  rw [Cal.db_2000] at d1
  have e2272 : Cal.db 2272 = 99346 := by decide
  rw [e2272] at d2
  have lo : 85 ≤ Cal.ls y 3 := by
    by_cases e : y = 2000
    · subst e; decide
    · have := Cal.db_mono 2001 y (by omega)
      have e1 : Cal.db 2001 = 366 := by decide
      omega
  rcases hk with rfl | rfl
  · rw [fS, lS]
    exact ⟨lo, by omega, by omega, by omega, by omega, by omega⟩
  · rw [fW, lW]
    refine ⟨by omega, ?_, by omega, by omega, by omega, by omega⟩
    by_cases e : y = 2272
    · subst e; decide
    · have := Cal.db_mono (y + 1) 2272 (by omega)
      omega
/-- The season of a day of a season. -/
theorem sea_in {y : Int} {s : ByteArray} {d : Int} (h1 : 2000 ≤ y) (h2 : y ≤ 2272) (hk : s = bS ∨ s = bW) (hd1 : fDay y s ≤ d) (hd2 : d ≤ lDay y s) :
    ∃ z, 2000 ≤ z ∧ z ≤ 2273 ∧ Cal.db z ≤ d ∧ d < Cal.db (z + 1) ∧ seaY d z = y ∧ seaK d z = s := by
  have a3 := ls3 y
  have a10 := ls10 y
  have b3 := ls3 (y + 1)
  have b10 := ls10 (y + 1)
  have hs := Cal.db_succ y
  have hs2 := Cal.db_succ (y + 1)
  have v1 := Cal.lv_bd y
  have v2 := Cal.lv_bd (y + 1)
  rcases hk with rfl | rfl
  · rw [fS] at hd1
    rw [lS] at hd2
    refine ⟨y, h1, by omega, by omega, by omega, ?_, ?_⟩
    · unfold seaY; rw [if_neg (by omega)]
    · unfold seaK; rw [if_neg (by omega), if_pos (by omega)]; rfl
  · rw [fW] at hd1
    rw [lW] at hd2
    by_cases e : d < Cal.db (y + 1)
    · refine ⟨y, h1, by omega, by omega, e, ?_, ?_⟩
      · unfold seaY; rw [if_neg (by omega)]
      · unfold seaK; rw [if_neg (by omega), if_neg (by omega)]; rfl
    · refine ⟨y + 1, by omega, by omega, by omega, by omega, ?_, ?_⟩
      · unfold seaY; rw [if_pos (by omega)]; omega
      · unfold seaK; rw [if_pos (by omega)]; rfl
end Go.Proofs.YtlcmcknbbmokjaaGreat
namespace Go.Proofs.YtlcmcknbbmokjaaGreat
open Go.RowKit
theorem sea_zero {y : Int} {s : ByteArray} (h1 : 2000 ≤ y) (h2 : y ≤ 2272) (hk : kindErr s = 0) : seasonErr y s = 0 := by simp [seasonErr, fst, rng, h1, h2, hk]
theorem sw_ne : ¬ bS.toList = [87] := by decide +kernel
theorem ws_ne : ¬ bW.toList = [83] := by decide +kernel
theorem ww_eq : bW.toList = [87] := by decide +kernel
end Go.Proofs.YtlcmcknbbmokjaaGreat
namespace Go.Proofs.YtlcmcknbbmokjaaGreat
open Go.RowKit
theorem toList_self (s : ByteArray) : (s.toList == s.toList) = true := by simp
def equiRes (F T p : Int) : Value := if F + p ≤ T then .tuple #[.int .i64 (F + p), .int .i64 0] else .tuple #[.int .i64 0, .int .i64 7]
end Go.Proofs.YtlcmcknbbmokjaaGreat
namespace Go.Proofs.YtlcmcknbbmokjaaGreat
open Go.RowKit
theorem ne_7 : fst [0, 7] = 7 := rfl
theorem foll_kind {s : ByteArray} (hk : s = bS ∨ s = bW) : follK s = bS ∨ follK s = bW := by
  rcases hk with rfl | rfl
  · exact .inr follK_S
  · exact .inl follK_W
set_option maxRecDepth 100000 in
theorem qCheckPeriod_ok (a b m : Int) (w : World) (h1 : 0 ≤ a) (h2 : a ≤ b) (h3 : b ≤ 99999) (h4 : b - a ≤ 400) (hm1 : 1 ≤ m) (hm2 : m ≤ 127) :
    Calls Tryz.prog 174 #[.agg #[.int .i64 a, .int .i64 b, .int .i64 m]] w fun r w' => r = .returned (.int .i64 0) ∧ Below w.heap.size w w' := by
  obtain ⟨W, HW, hb0, hc0, hc1, hc2⟩ : ∃ W, Hid (w.alloc (.cells #[.int .i64 a, .int .i64 b, .int .i64 m] 24) = W) ∧ Below w.heap.size w W ∧ W.cell? ⟨w.heap.size, 0, none⟩ = some (.int .i64 a) ∧ W.cell? ⟨w.heap.size, 1, none⟩ = some (.int .i64 b) ∧ W.cell? ⟨w.heap.size, 2, none⟩ = some (.int .i64 m) := ⟨_, Lib.hid rfl, below_alloc w _, by simp, by simp, by simp⟩
  have RA : Hid (rng a 0 99999 = 0) := Lib.hid (rng_ok h1 (by omega))
  have RB : Hid (rng b 0 99999 = 0) := Lib.hid (rng_ok (by omega) h3)
  have RM : Hid (rng m 1 127 = 0) := Lib.hid (rng_ok hm1 hm2)
  go_enter Tryz.func174, Tryz.ntmps174
  go_wp2_with fail
  rw [HW.out]
  refine (qCheckDay_any _ _).mono ?_
  rintro e w2 ⟨rfl, hw⟩
  rw [hw, RA.out]
  clear hw
  go_wp2_with fail
  refine (qCheckDay_any _ _).mono ?_
  rintro e w2 ⟨rfl, hw⟩
  rw [hw, RB.out]
  clear hw
  go_wp2_with fail
  refine (qRange_any _ _ _ _).mono ?_
  rintro e w2 ⟨rfl, hw⟩
  rw [hw, RM.out]
  clear hw
  go_wp2_with fail
  go_ret
  exact ⟨rfl, hb0⟩
end Go.Proofs.YtlcmcknbbmokjaaGreat
namespace Go.Proofs.YtlcmcknbbmokjaaGreat
open Go Go.RowKit
def bitN (n k : Nat) : Bool := n / 2 ^ k % 2 == 1
def refN (n s : Nat) : Nat → Nat
  | 0 => 0
  | w + 1 => refN n s w + (if bitN n ((w + 7 - s) % 7) = true then 2 ^ w else 0)
theorem refN_bd (n s w : Nat) : refN n s w < 2 ^ w := by
  induction w with
  | zero => simp [refN]
  | succ w ih =>
    rw [refN, Nat.pow_succ]
    split <;> omega
theorem InMask_nat (n k : Nat) (w : World) (h1 : n ≤ 100000) (hk : k ≤ 63) :
    Calls Tryz.prog 198 #[.int .i64 n, .int .i64 k] w fun r w' => r = .returned (.bool (bitN n k)) ∧ w' = w := by
  go_enter Tryz.func198, Tryz.ntmps198
  go_wp2_with fail
  go_loop [0, 5] (fun a b => ∃ j : Nat, j ≤ k ∧ b = .int .i64 j ∧ a = .int .i64 ((n / 2 ^ j : Nat) : Int)) (fun _ b => k - (intOf b).toNat)
  case atStart => exact ⟨0, Nat.zero_le _, rfl, by simp⟩
  case round =>
    obtain ⟨j, hj, rfl, rfl⟩ := hrel
    have hle : n / 2 ^ j ≤ n := Nat.div_le_self _ _
    have HS : Hid (n / 2 ^ (j + 1) = n / 2 ^ j / 2) := Lib.hid (by rw [Nat.pow_succ, Nat.div_div_eq_div_mul])
    have HB : Hid (j = k → bitN n k = (n / 2 ^ j % 2 == 1)) := Lib.hid (fun e => by rw [e]; rfl)
    generalize n / 2 ^ j = v at *
    by_cases hlt : j < k
    · go_wp2_with fail
      go_round
      case rel => exact ⟨j + 1, by omega, by go_num, by rw [HS.out]; go_num⟩
      case measure => simp [intOf]; omega
    · obtain rfl : j = k := by omega
      have HB2 := Lib.hid (HB.out rfl)
      by_cases hm : v % 2 = 1
      · have hv : (v : Int) % 2 = 1 := by omega
        go_wp2_with fail
        go_ret
        exact ⟨by rw [HB2.out, hm]; rfl, rfl⟩
      · have hv : (v : Int) % 2 = 0 := by omega
        go_wp2_with fail
        go_ret
        exact ⟨by rw [HB2.out, show v % 2 = 0 from by omega]; rfl, rfl⟩
end Go.Proofs.YtlcmcknbbmokjaaGreat
namespace Go.Proofs.YtlcmcknbbmokjaaGreat
open Go Go.RowKit
def mb (n i : Nat) : Nat := if bitN n i = true then 49 + i else 48
theorem mb_bd (n i : Nat) (h : i < 7) : mb n i < 256 := by unfold mb; split <;> omega
def maskL (n : Nat) : List UInt8 := [UInt8.ofNat (mb n 0), UInt8.ofNat (mb n 1), UInt8.ofNat (mb n 2), UInt8.ofNat (mb n 3), UInt8.ofNat (mb n 4), UInt8.ofNat (mb n 5), UInt8.ofNat (mb n 6)]
def maskT (n : Nat) : ByteArray := ⟨(maskL n).toArray⟩
theorem maskL_get (n j : Nat) (h : j < (maskL n).length) : (((maskL n)[j]'h).toNat : Int) = (mb n j : Nat) := by
  have h7 : j < 7 := h
  have e : (maskL n)[j]'h = UInt8.ofNat (mb n j) := by
    match j, h7 with
    | 0, _ | 1, _ | 2, _ | 3, _ | 4, _ | 5, _ | 6, _ => rfl
  rw [e, UInt8.toNat_ofNat']
  have := mb_bd n j h7
  omega
def mk (s : ByteArray) : Nat → Nat
  | 0 => 0
  | k + 1 => mk s k + (if byteAt s k = 49 + k then 2 ^ k else 0)
theorem mk_bd (s : ByteArray) (k : Nat) : mk s k < 2 ^ k := by
  induction k with
  | zero => simp [mk]
  | succ k ih => rw [mk, Nat.pow_succ]; split <;> omega
def maskForm (s : ByteArray) : Prop := s.size = 7 ∧ ∀ i, i < 7 → byteAt s i = 48 ∨ byteAt s i = 49 + i
instance (s : ByteArray) : Decidable (maskForm s) := by unfold maskForm; infer_instance
def pmV (s : ByteArray) : Nat := if maskForm s then mk s 7 else 0
theorem pmV_lt (s : ByteArray) : pmV s < 128 := by
  unfold pmV
  split
  · exact mk_bd s 7
  · decide
theorem pmV_T : ∀ n, n < 128 → pmV (maskT n) = n := by decide +kernel
theorem T_pmV {s : ByteArray} (h : maskForm s) : maskT (mk s 7) = s := by
  obtain ⟨hs, hb⟩ := h
  obtain ⟨⟨l⟩⟩ := s
  have hl : l.length = 7 := hs
  match l, hl with
  | [c0, c1, c2, c3, c4, c5, c6], _ =>
    have k0 : c0.toNat = 48 ∨ c0.toNat = 49 := hb 0 (by decide)
    have k1 : c1.toNat = 48 ∨ c1.toNat = 50 := hb 1 (by decide)
    have k2 : c2.toNat = 48 ∨ c2.toNat = 51 := hb 2 (by decide)
    have k3 : c3.toNat = 48 ∨ c3.toNat = 52 := hb 3 (by decide)
    have k4 : c4.toNat = 48 ∨ c4.toNat = 53 := hb 4 (by decide)
    have k5 : c5.toNat = 48 ∨ c5.toNat = 54 := hb 5 (by decide)
    have k6 : c6.toNat = 48 ∨ c6.toNat = 55 := hb 6 (by decide)
    have e : ∀ (c : UInt8) (a b : Nat), a < 256 → b < 256 → (c.toNat = a ∨ c.toNat = b) → c = UInt8.ofNat a ∨ c = UInt8.ofNat b := fun c a b ha hb h => by
      rcases h with h | h
      · left; rw [← UInt8.toNat_inj, h, UInt8.toNat_ofNat']; omega
      · right; rw [← UInt8.toNat_inj, h, UInt8.toNat_ofNat']; omega
    clear hb hs
    rcases e _ _ _ (by decide) (by decide) k0 with rfl | rfl <;> rcases e _ _ _ (by decide) (by decide) k1 with rfl | rfl <;> rcases e _ _ _ (by decide) (by decide) k2 with rfl | rfl <;> rcases e _ _ _ (by decide) (by decide) k3 with rfl | rfl <;> rcases e _ _ _ (by decide) (by decide) k4 with rfl | rfl <;> rcases e _ _ _ (by decide) (by decide) k5 with rfl | rfl <;> rcases e _ _ _ (by decide) (by decide) k6 with rfl | rfl <;> rfl
theorem mask_same (s : ByteArray) (n : Nat) (h1 : 1 ≤ n) (h : n < 128) : maskT n = s ↔ pmV s = n := by
  constructor
  · rintro rfl; exact pmV_T n h
  · intro e
    unfold pmV at e
    split at e
    · rename_i hf; rw [← e]; exact T_pmV hf
    · omega
theorem mask_eq (s : ByteArray) (n : Nat) (h1 : 1 ≤ n) (h : n < 128) : ((maskT n).toList == s.toList) = decide (pmV s = n) := by
  rw [Bool.eq_iff_iff, beq_iff_eq, decide_eq_true_eq, ← mask_same s n h1 h, Lib.toList_data, Lib.toList_data]
  constructor
  · intro e; obtain ⟨⟨l⟩⟩ := s; simp only at e; show (⟨(maskL n).toArray⟩ : ByteArray) = _; simp [maskT] at e; rw [← e]
  · rintro rfl; rfl
theorem pmV_none {s : ByteArray} (h : ∀ m, 1 ≤ m → m < 128 → pmV s ≠ m) : pmV s = 0 := by
  have := pmV_lt s
  rcases Nat.eq_zero_or_pos (pmV s) with h0 | h0
  · exact h0
  · exact absurd rfl (h _ h0 this)
theorem or_bit : ∀ k : Nat, k < 7 → ∀ m : Nat, m < 2 ^ k → bits BinOp.or IntKind.i64 (m : Int) ((2 ^ k : Nat) : Int) = ((m + 2 ^ k : Nat) : Int) := by decide +kernel
theorem and_bit (n k : Nat) (h : n ≤ 127) : (bits BinOp.and IntKind.i64 ((n : Int) / 2 ^ k) 1 == 1) = bitN n k := by
  have e : (n : Int) / 2 ^ k = ((n / 2 ^ k : Nat) : Int) := by simp
  have hle : n / 2 ^ k ≤ n := Nat.div_le_self _ _
  rw [e]
  unfold bitN
  generalize n / 2 ^ k = q at *
  rw [and1 (q : Int) (by omega) (by omega), Bool.eq_iff_iff, beq_iff_eq, beq_iff_eq]
  omega
end Go.Proofs.YtlcmcknbbmokjaaGreat
namespace Go.Proofs.YtlcmcknbbmokjaaGreat
open Go Go.RowKit
theorem addr_add (b j : Nat) : (⟨b, 0, none⟩ : Addr).add j = ⟨b, j, none⟩ := by
  unfold Addr.add
  by_cases h : j = 0 <;> simp [h]
theorem PrintMask_bad (m : Int) (w : World) (h : ¬ (1 ≤ m ∧ m ≤ 127)) :
    Calls Tryz.prog 133 #[.int .i64 m] w fun r w' => r = .returned (.tuple #[.string ⟨#[]⟩, .int .i64 3]) ∧ w' = w := by
  have HR : Hid (rng m 1 127 = 3) := Lib.hid (rng_bad h)
  clear h
  go_enter Tryz.func133, Tryz.ntmps133
  go_wp2_with fail
  refine (checkMask_any _ _).mono ?_
  rintro e w1 ⟨rfl, hw⟩
  rw [hw, HR.out]
  clear hw
  go_wp2_with fail
  exact bodyPost_ret (v := .tuple #[.string ⟨#[]⟩, .int .i64 3]) (by simp [results, Tryz.results133, go_sem]) rfl ⟨rfl, rfl⟩
set_option maxRecDepth 100000 in
set_option maxHeartbeats 1000000 in
theorem PrintMask_ok (n : Nat) (w : World) (h1 : 1 ≤ n) (h2 : n ≤ 127) :
    Calls Tryz.prog 133 #[.int .i64 n] w fun r w' => r = .returned (.tuple #[.string (maskT n), .int .i64 0]) ∧ Below w.heap.size w w' := by
  have HR : Hid (rng n 1 127 = 0) := Lib.hid (rng_ok (by omega) (by omega))
  go_enter Tryz.func133, Tryz.ntmps133
  go_wp2_with fail
  refine (checkMask_any _ _).mono ?_
  rintro e w1 ⟨rfl, hw⟩
  rw [hw, HR.out]
  clear hw
  go_wp2_with fail
  obtain ⟨W, hW, hbW, R0⟩ : ∃ W, w.alloc (.cells #[.int .u8 0, .int .u8 0, .int .u8 0, .int .u8 0, .int .u8 0, .int .u8 0, .int .u8 0] 241) = W ∧ Below w.heap.size w W ∧ Res 7 w.heap.size W W :=
    ⟨_, rfl, below_alloc _ _, ⟨fun i hi => by
      match i, hi with
      | 0, _ | 1, _ | 2, _ | 3, _ | 4, _ | 5, _ | 6, _ => exact ⟨_, by simp; rfl⟩, fun i hi => by
      match i, hi with
      | 0, _ | 1, _ | 2, _ | 3, _ | 4, _ | 5, _ | 6, _ => simp, Below.refl _ _⟩⟩
  rw [hW]
  clear hW
  go_loopw [6, 12] (fun _ i wr => ∃ k : Nat, k ≤ 7 ∧ i = .int .i64 k ∧ Res 7 w.heap.size W wr ∧ Hid (∀ j, j < k → wr.cell? ⟨w.heap.size, j, none⟩ = some (.int .u8 (mb n j : Nat)))) (fun _ i _ => 7 - (intOf i).toNat)
  case atStart => exact ⟨0, by omega, rfl, R0, Lib.hid (fun j hj => absurd hj (Nat.not_lt_zero _))⟩
  case round =>
    obtain ⟨k, hk, rfl, hr, hc⟩ := hrel
    by_cases hlt : k < 7
    · obtain ⟨v, hv⟩ := hr.cell k hlt
      have hf := hr.frozen k hlt
      have hr2 := hr.set k (.int .u8 48)
      have hv2 := set_same (u := .int .u8 48) hv
      have hf2 := hr2.frozen k hlt
      have HST : Hid (∀ (V : World), (∀ j, j < k → V.cell? ⟨w.heap.size, j, none⟩ = some (.int .u8 (mb n j : Nat))) → V.cell? ⟨w.heap.size, k, none⟩ = some (.int .u8 (mb n k : Nat)) → ∀ j, j < k + 1 → V.cell? ⟨w.heap.size, j, none⟩ = some (.int .u8 (mb n j : Nat))) := Lib.hid (fun V ha hb j hj => by
        rcases Nat.lt_or_ge j k with h | h
        · exact ha j h
        · obtain rfl : j = k := by omega
          exact hb)
      have HK1 : Hid (∀ j, j < k → (wr.setCell ⟨w.heap.size, k, none⟩ (.int .u8 48)).cell? ⟨w.heap.size, j, none⟩ = some (.int .u8 (mb n j : Nat))) := Lib.hid (fun j hj => set_other (hc.out j hj) (by simp <;> omega))
      have hbit := and_bit n k h2
      cases hbb : bitN n k
      · rw [hbb] at hbit
        have HM : Hid (mb n k = 48) := Lib.hid (by unfold mb; rw [hbb]; rfl)
        have HF := Lib.hid (HST.out _ HK1.out (by rw [HM.out]; exact hv2))
        clear HST HK1 hbb hc
        go_wp2_with fail
        go_roundw
        case rel => exact ⟨k + 1, by omega, by go_num, hr2, HF⟩
        case measure => simp [intOf]; omega
      · rw [hbb] at hbit
        have HM : Hid (mb n k = 49 + k) := Lib.hid (by unfold mb; rw [hbb]; rfl)
        have hr3 := hr2.set k (.int .u8 (49 + (k : Int)))
        have HF := Lib.hid (HST.out ((wr.setCell ⟨w.heap.size, k, none⟩ (.int .u8 48)).setCell ⟨w.heap.size, k, none⟩ (.int .u8 (49 + (k : Int)))) (fun j hj => set_other (HK1.out j hj) (by simp <;> omega)) (by rw [HM.out]; exact set_same hv2))
        clear HST HK1 hbb hc
        go_wp2_with fail
        go_roundw
        case rel => exact ⟨k + 1, by omega, by go_num, hr3, HF⟩
        case measure => simp [intOf]; omega
    · obtain rfl : k = 7 := by omega
      have hb := hbW.trans hr.below
      have hcv : (convert 204 9 (.slice (some ⟨w.heap.size, 0, none⟩) 7 7)).run Tryz.prog wr = .ok (.string (maskT n)) wr :=
        run_convert_bytes_back wr 204 9 5 ⟨w.heap.size, 0, none⟩ 7 (maskL n) Tryz.underlying204 Tryz.underlying5 Tryz.underlying9 (fun j hj => by
          rw [maskL_get n j hj, addr_add]
          exact hc.out j hj)
      clear hc
      go_wp2_with fail
      exact bodyPost_ret (v := .tuple #[.string (maskT n), .int .i64 0]) (by simp [results, Tryz.results133, go_sem]) rfl ⟨rfl, hb⟩
def qmL (n : Nat) : Nat → List UInt8
  | 0 => []
  | k + 1 => qmL n k ++ [UInt8.ofNat (mb n k)]
theorem qmL_len (n k : Nat) : (qmL n k).length = k := by
  induction k with
  | zero => rfl
  | succ k ih => simp [qmL, ih]
theorem qmL_7 (n : Nat) : qmL n 7 = maskL n := rfl
theorem dig_mb (k : Nat) : (dig (k + 1)) = UInt8.ofNat (49 + k) := by
  unfold dig
  rw [show 48 + (k + 1) = 49 + k by omega]
set_option maxRecDepth 100000 in
set_option maxHeartbeats 1000000 in
theorem qPrintMask_any (n : Nat) (w : World) (h2 : n ≤ 127) :
    Calls Tryz.prog 147 #[.int .i64 n] w fun r w' => r = .returned (.string (maskT n)) ∧ w' = w := by
  go_enter Tryz.func147, Tryz.ntmps147
  go_wp2_with fail
  go_loop [3, 4] (fun s i => ∃ k : Nat, k ≤ 7 ∧ i = .int .i64 k ∧ s = .string ⟨(qmL n k).toArray⟩) (fun _ i => 7 - (intOf i).toNat)
  case atStart => exact ⟨0, by omega, rfl, rfl⟩
  case round =>
    obtain ⟨k, hk, rfl, rfl⟩ := hrel
    by_cases hlt : k < 7
    · have HL := Lib.hid (qmL_len n k)
      cases hbb : bitN n k
      · have HB := Lib.hid hbb
        have HT : Hid ((⟨(qmL n k).toArray⟩ : ByteArray) ++ ⟨#[48]⟩ = ⟨(qmL n (k + 1)).toArray⟩) := Lib.hid (by rw [cat_lists _ [48], qmL]; unfold mb; rw [hbb]; rfl)
        clear hbb
        generalize qmL n k = l at *
        have hl := HL.out
        go_wp2_with fail
        refine (InMask_nat n k _ (by omega) (by omega)).mono ?_
        rintro e w2 ⟨rfl, hw⟩
        rw [hw, HB.out]
        clear hw
        go_wp2_with fail
        go_round
        case rel => exact ⟨k + 1, by omega, by go_num, by rw [← HT.out]⟩
        case measure => simp [intOf]; omega
      · have HB := Lib.hid hbb
        have HT : Hid ((⟨(qmL n k).toArray⟩ : ByteArray) ++ ⟨#[dig (k + 1)]⟩ = ⟨(qmL n (k + 1)).toArray⟩) := Lib.hid (by rw [cat_lists _ [dig (k + 1)], dig_mb]; rw [qmL]; unfold mb; rw [hbb]; rfl)
        have HD : Hid (∀ w, Calls Tryz.prog 199 #[.int .i64 ((k : Int) + 1)] w fun r w' => r = .returned (.string ⟨#[dig (k + 1)]⟩) ∧ w' = w) := Lib.hid (fun w => by
          have := qdigit_any (k + 1) w (by omega)
          rwa [Int.natCast_add] at this)
        clear hbb
        generalize qmL n k = l at *
        have hl := HL.out
        go_wp2_with fail
        refine (InMask_nat n k _ (by omega) (by omega)).mono ?_
        rintro e w2 ⟨rfl, hw⟩
        rw [hw, HB.out]
        clear hw
        go_wp2_with fail
        refine (HD.out _).mono ?_
        rintro e w2 ⟨rfl, hw⟩
        rw [hw]
        clear hw
        go_wp2_with fail
        go_round
        case rel => exact ⟨k + 1, by omega, by go_num, by rw [← HT.out]⟩
        case measure => simp [intOf]; omega
    · obtain rfl : k = 7 := by omega
      go_wp2_with fail
      go_ret
      exact ⟨rfl, rfl⟩
end Go.Proofs.YtlcmcknbbmokjaaGreat
