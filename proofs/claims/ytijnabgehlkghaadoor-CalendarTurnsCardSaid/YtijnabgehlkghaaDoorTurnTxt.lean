/- The text of a date is read back. -/
import Derived.Test.YtijnabgehlkghaaDoorTurnMath
import Derived.Test.YtijnabgehlkghaaDoorParse
namespace Go.Proofs.YtijnabgehlkghaaDoor
theorem st_10 (f : Nat → Int) : st f 10 = (2, 10 * (10 * (10 * (10 * 0 + f 0) + f 1) + f 2) + f 3, 10 * (10 * 0 + f 5) + f 6, 10 * (10 * 0 + f 8) + f 9) := by rfl
theorem txt_date (Y m t : Nat) (hY : Y < 10000) (hm : m < 100) (ht : t < 100) : isTxt ⟨(dateL Y m t).toArray⟩ := by
  have k0 := dig_toNat (Y / 100 / 10) (by omega)
  have k1 := dig_toNat (Y / 100 % 10) (by omega)
  have k2 := dig_toNat (Y % 100 / 10) (by omega)
  have k3 := dig_toNat (Y % 100 % 10) (by omega)
  have k5 := dig_toNat (m / 10) (by omega)
  have k6 := dig_toNat (m % 10) (by omega)
  have k8 := dig_toNat (t / 10) (by omega)
  have k9 := dig_toNat (t % 10) (by omega)
  refine ⟨rfl, fun i h => ?_⟩
  have h10 : i < 10 := h
  match i, h10 with
  | 0, _ => show 48 ≤ (dig (Y / 100 / 10)).toNat ∧ (dig (Y / 100 / 10)).toNat ≤ 57; omega
  | 1, _ => show 48 ≤ (dig (Y / 100 % 10)).toNat ∧ (dig (Y / 100 % 10)).toNat ≤ 57; omega
  | 2, _ => show 48 ≤ (dig (Y % 100 / 10)).toNat ∧ (dig (Y % 100 / 10)).toNat ≤ 57; omega
  | 3, _ => show 48 ≤ (dig (Y % 100 % 10)).toNat ∧ (dig (Y % 100 % 10)).toNat ≤ 57; omega
  | 4, _ => rfl
  | 5, _ => show 48 ≤ (dig (m / 10)).toNat ∧ (dig (m / 10)).toNat ≤ 57; omega
  | 6, _ => show 48 ≤ (dig (m % 10)).toNat ∧ (dig (m % 10)).toNat ≤ 57; omega
  | 7, _ => rfl
  | 8, _ => show 48 ≤ (dig (t / 10)).toNat ∧ (dig (t / 10)).toNat ≤ 57; omega
  | 9, _ => show 48 ≤ (dig (t % 10)).toNat ∧ (dig (t % 10)).toNat ≤ 57; omega
theorem st_date (Y m t : Nat) (hY : Y < 10000) (hm : m < 100) (ht : t < 100) : st (dg ⟨(dateL Y m t).toArray⟩) 10 = (2, (Y : Int), (m : Int), (t : Int)) := by
  have e0 : dg ⟨(dateL Y m t).toArray⟩ 0 = ((dig (Y / 100 / 10)).toNat : Int) - 48 := rfl
  have e1 : dg ⟨(dateL Y m t).toArray⟩ 1 = ((dig (Y / 100 % 10)).toNat : Int) - 48 := rfl
  have e2 : dg ⟨(dateL Y m t).toArray⟩ 2 = ((dig (Y % 100 / 10)).toNat : Int) - 48 := rfl
  have e3 : dg ⟨(dateL Y m t).toArray⟩ 3 = ((dig (Y % 100 % 10)).toNat : Int) - 48 := rfl
  have e5 : dg ⟨(dateL Y m t).toArray⟩ 5 = ((dig (m / 10)).toNat : Int) - 48 := rfl
  have e6 : dg ⟨(dateL Y m t).toArray⟩ 6 = ((dig (m % 10)).toNat : Int) - 48 := rfl
  have e8 : dg ⟨(dateL Y m t).toArray⟩ 8 = ((dig (t / 10)).toNat : Int) - 48 := rfl
  have e9 : dg ⟨(dateL Y m t).toArray⟩ 9 = ((dig (t % 10)).toNat : Int) - 48 := rfl
  rw [st_10, e0, e1, e2, e3, e5, e6, e8, e9, dig_toNat _ (by omega), dig_toNat _ (by omega), dig_toNat _ (by omega), dig_toNat _ (by omega), dig_toNat _ (by omega), dig_toNat _ (by omega), dig_toNat _ (by omega), dig_toNat _ (by omega)]
  simp only [Prod.mk.injEq, true_and]
  refine ⟨by omega, by omega, by omega⟩
theorem day_date {d y t : Int} {m : Nat} (h : IsDate d y m t) (hd : d ≤ 99999) : dayErr y m t = 0 ∧ Cal.dn y (m : Int).toNat t = d := by
  have h1 := h.y1; have h2 := h.y2
  have hm := h.m1; have hm2 := h.m2
  have ht := date_t h
  have e : Cal.dn y (m : Int).toNat t = d := by rw [Int.toNat_natCast]; exact date_dn h
  refine ⟨?_, e⟩
  unfold dayErr dayIn
  rw [rng_ok (by omega) (by omega), rng_ok (by omega) (by omega), rng_ok (by omega) (by omega), if_neg (by simp [fst]), e, Int.toNat_natCast, if_neg (by have := date_ml h; omega)]
theorem back_date {d y t : Int} {m : Nat} (h : IsDate d y m t) (hd : d ≤ 99999) : isTxt (dateT y m t) ∧
    num2 (dayErr (st (dg (dateT y m t)) 10).2.1 (st (dg (dateT y m t)) 10).2.2.1 (st (dg (dateT y m t)) 10).2.2.2) (Cal.dn (st (dg (dateT y m t)) 10).2.1 (st (dg (dateT y m t)) 10).2.2.1.toNat (st (dg (dateT y m t)) 10).2.2.2) = num2 0 d := by
  have h1 := h.y1; have h2 := h.y2
  have hm := h.m1; have hm2 := h.m2
  have ht := date_t h
  have hs := st_date y.toNat m t.toNat (by omega) (by omega) (by omega)
  have hk := txt_date y.toNat m t.toNat (by omega) (by omega) (by omega)
  have hdd := day_date h hd
  have hs' : st (dg (dateT y m t)) 10 = (2, y, (m : Int), t) := by
    unfold dateT; rw [hs, Int.toNat_of_nonneg (by omega), Int.toNat_of_nonneg (by omega)]
  refine ⟨hk, ?_⟩
  rw [hs']
  show num2 (dayErr y m t) (Cal.dn y (m : Int).toNat t) = _
  rw [hdd.1, hdd.2]
end Go.Proofs.YtijnabgehlkghaaDoor
