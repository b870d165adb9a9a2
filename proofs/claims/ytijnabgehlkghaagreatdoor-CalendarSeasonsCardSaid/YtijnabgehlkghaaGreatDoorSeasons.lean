/- CalendarSeasons: what the program and the reference return, put together. -/
import Derived.Test.YtijnabgehlkghaaGreatDoorSeasons1
namespace Go.Proofs.YtijnabgehlkghaaGreatDoor
open Go Go.RowKit
theorem sea_of_zero1 {y : Int} {s : ByteArray} (h : seasonErr y s = 0) : (2000 ≤ y ∧ y ≤ 2272) ∧ kindErr s = 0 := by
  obtain ⟨a, b⟩ := fst_cons_zero h
  obtain ⟨c, _⟩ := fst_cons_zero b
  exact ⟨rng_zero a, c⟩
theorem isW_bS : isW bS = false := S_no
theorem next_any (y : Int) (k : ByteArray) (h1 : 2000 ≤ y) (h2 : y ≤ 2272) (hk : k = bS ∨ k = bW) : ∃ (ny : Int) (nk : ByteArray) (nf : Bool) (ne : Int),
    (∀ w, HeldSea w → Calls Tryz.prog 44 #[.agg #[.int .i64 y, .string k]] w fun r w' => r = .returned (.tuple #[.agg #[.int .i64 ny, .string nk], .int .i64 ne]) ∧ Below w.heap.size w w') ∧
    (∀ w, Calls Tryz.prog 49 #[.agg #[.int .i64 y, .string k]] w fun r w' => r = .returned (.tuple #[.agg #[.int .i64 ny, .string nk], .bool nf]) ∧ Below w.heap.size w w') ∧
    ((nf = true ∧ ne = 0) ∨ (nf = false ∧ ne = 7 ∧ k = bW)) := by
  rcases hk with rfl | rfl
  · refine ⟨y, bW, true, 0, fun w hs => ?_, fun w => ?_, .inl ⟨rfl, rfl⟩⟩
    · have := Next_ok y bS w hs h1 h2 (.inl rfl) (fun _ => rfl)
      rwa [follY_S, follK_S] at this
    · have := qNext_ok y bS w h1 h2
      rwa [show qnextV y bS = (y, bW, true) from by unfold qnextV; rw [if_pos isS_bS]; rfl] at this
  · by_cases e : y = 2272
    · subst e
      refine ⟨0, ⟨#[]⟩, false, 7, fun w hs => Next_end w hs, fun w => ?_, .inr ⟨rfl, rfl, rfl⟩⟩
      have := qNext_ok 2272 bW w h1 h2
      rwa [show qnextV 2272 bW = (0, ⟨#[]⟩, false) from by unfold qnextV; rw [if_neg (by rw [isS_bW]; decide), if_pos rfl]] at this
    · refine ⟨y + 1, bS, true, 0, fun w hs => ?_, fun w => ?_, .inl ⟨rfl, rfl⟩⟩
      · have := Next_ok y bW w hs h1 h2 (.inr rfl) (fun h => absurd h e)
        rwa [follY_W, follK_W] at this
      · have := qNext_ok y bW w h1 h2
        rwa [show qnextV y bW = (y + 1, bS, true) from by unfold qnextV; rw [if_neg (by rw [isS_bW]; decide), if_neg e]; rfl] at this
theorem prev_any (y : Int) (k : ByteArray) (h1 : 2000 ≤ y) (h2 : y ≤ 2272) (hk : k = bS ∨ k = bW) : ∃ (ny : Int) (nk : ByteArray) (nf : Bool) (ne : Int),
    (∀ w, HeldSea w → Calls Tryz.prog 45 #[.agg #[.int .i64 y, .string k]] w fun r w' => r = .returned (.tuple #[.agg #[.int .i64 ny, .string nk], .int .i64 ne]) ∧ Below w.heap.size w w') ∧
    (∀ w, Calls Tryz.prog 50 #[.agg #[.int .i64 y, .string k]] w fun r w' => r = .returned (.tuple #[.agg #[.int .i64 ny, .string nk], .bool nf]) ∧ Below w.heap.size w w') ∧
    ((nf = true ∧ ne = 0) ∨ (nf = false ∧ ne = 7 ∧ k = bS)) := by
  rcases hk with rfl | rfl
  · by_cases e : y = 2000
    · subst e
      refine ⟨0, ⟨#[]⟩, false, 7, fun w hs => Prev_first w hs, fun w => ?_, .inr ⟨rfl, rfl, rfl⟩⟩
      have := qPrev_ok 2000 bS w h1 h2
      rwa [show qprevV 2000 bS = (0, ⟨#[]⟩, false) from by unfold qprevV; rw [if_neg (by rw [isW_bS]; decide), if_pos rfl]] at this
    · refine ⟨y - 1, ⟨#[87]⟩, true, 0, fun w hs => Prev_S y w hs (by omega) h2, fun w => ?_, .inl ⟨rfl, rfl⟩⟩
      have := qPrev_ok y bS w h1 h2
      rwa [show qprevV y bS = (y - 1, ⟨#[87]⟩, true) from by unfold qprevV; rw [if_neg (by rw [isW_bS]; decide), if_neg e]] at this
  · refine ⟨y, ⟨#[83]⟩, true, 0, fun w hs => Prev_W y w hs h1 h2, fun w => ?_, .inl ⟨rfl, rfl⟩⟩
    have := qPrev_ok y bW w h1 h2
    rwa [show qprevV y bW = (y, ⟨#[83]⟩, true) from by unfold qprevV; rw [if_pos isW_bW]] at this
theorem sea_has {d yy : Int} (h1 : 85 ≤ d) (h2 : d ≤ 99799) (hy1 : 2000 ≤ yy) (hy2 : yy ≤ 2273) (hd1 : Cal.db yy ≤ d) (hd2 : d < Cal.db (yy + 1)) :
    (seaK d yy = bS ∨ seaK d yy = bW) ∧ 2000 ≤ seaY d yy ∧ seaY d yy ≤ 2272 ∧ fDay (seaY d yy) (seaK d yy) ≤ d ∧ d ≤ lDay (seaY d yy) (seaK d yy) := by
  have b3 := ls3_bd yy
  have b10 := ls10_bd yy
  by_cases c1 : d < Cal.ls yy 3
  · have hY : seaY d yy = yy - 1 := by unfold seaY; rw [if_pos c1]
    have hK : seaK d yy = bW := by unfold seaK; rw [if_pos c1]; rfl
    have hne : yy ≠ 2000 := fun e => by
      have : Cal.ls 2000 3 = 85 := by decide
      rw [e] at c1; omega
    have b := ls10_bd (yy - 1)
    have hs := Cal.db_succ (yy - 1)
    have hl := Cal.lv_bd (yy - 1)
    rw [show yy - 1 + 1 = yy by omega] at hs
    rw [hY, hK, (sea_days_W (yy - 1)).1, (sea_days_W (yy - 1)).2, show yy - 1 + 1 = yy by omega]
    exact ⟨.inr rfl, by omega, by omega, by omega, by omega⟩
  · have hY : seaY d yy = yy := by unfold seaY; rw [if_neg c1]
    have hne : yy ≠ 2273 := fun e => by
      have : Cal.ls 2273 3 = 99800 := by decide
      rw [e] at c1; omega
    by_cases c2 : d < Cal.ls yy 10
    · have hK : seaK d yy = bS := by unfold seaK; rw [if_neg c1, if_pos c2]; rfl
      rw [hY, hK, (sea_days_S yy).1, (sea_days_S yy).2]
      exact ⟨.inl rfl, by omega, by omega, by omega, by omega⟩
    · have b := ls3_bd (yy + 1)
      have hK : seaK d yy = bW := by unfold seaK; rw [if_neg c1, if_neg c2]; rfl
      rw [hY, hK, (sea_days_W yy).1, (sea_days_W yy).2]
      exact ⟨.inr rfl, by omega, by omega, by omega, by omega⟩
theorem seasonOf_any (day : Int) : ∃ (oy : Int) (ok : ByteArray) (oe : Int),
    (∀ w, HeldTab w → HeldSea w → Calls Tryz.prog 46 #[.int .i64 day] w fun r w' => r = .returned (.tuple #[.agg #[.int .i64 oy, .string ok], .int .i64 oe]) ∧ Below w.heap.size w w') ∧
    ((rng day 0 99999 = 3 ∧ oe = 3 ∧ oy = 0 ∧ ok = ⟨#[]⟩) ∨
      (rng day 0 99999 = 0 ∧ (0 ≤ day ∧ day ≤ 99999) ∧ ∃ f : Bool, (∀ w, Calls Tryz.prog 51 #[.int .i64 day] w fun r w' => r = .returned (.tuple #[.agg #[.int .i64 oy, .string ok], .bool f]) ∧ Below w.heap.size w w') ∧
        ((f = false ∧ oe = 30) ∨ (f = true ∧ oe = 0 ∧ (ok = bS ∨ ok = bW) ∧ 2000 ≤ oy ∧ oy ≤ 2272 ∧ fDay oy ok ≤ day ∧ day ≤ lDay oy ok)))) := by
  by_cases hd : 0 ≤ day ∧ day ≤ 99999
  · obtain ⟨yy, m, t, hdt⟩ := date_ex day hd.1 hd.2
    by_cases hin : 85 ≤ day ∧ day ≤ 99799
    · obtain ⟨g1, g2, g3, g4, g5⟩ := sea_has hin.1 hin.2 hdt.y1 hdt.y2 hdt.d1 hdt.d2
      refine ⟨seaY day yy, seaK day yy, 0, fun w ht hs => SeasonOf_ok day yy w ht hs hin.1 hin.2 hdt.y1 hdt.y2 hdt.d1 hdt.d2, .inr ⟨rng_ok hd.1 hd.2, hd, true, fun w => ?_, .inr ⟨rfl, rfl, g1, g2, g3, g4, g5⟩⟩⟩
      have := qSeasonOf_any day yy t m w hd.1 hd.2 hdt
      rwa [show seaRef day yy = (seaY day yy, seaK day yy, true) from by unfold seaRef; rw [if_pos hin]] at this
    · refine ⟨0, ⟨#[]⟩, 30, fun w ht hs => ?_, .inr ⟨rng_ok hd.1 hd.2, hd, false, fun w => ?_, .inl ⟨rfl, rfl⟩⟩⟩
      · have := SeasonOf_err day w ht hs (by omega)
        rwa [show seaOfErr day = 30 from if_pos hd] at this
      · have := qSeasonOf_any day yy t m w hd.1 hd.2 hdt
        rwa [show seaRef day yy = (0, ⟨#[]⟩, false) from by unfold seaRef; rw [if_neg hin]] at this
  · refine ⟨0, ⟨#[]⟩, 3, fun w ht hs => ?_, .inl ⟨rng_bad hd, rfl, rfl, rfl⟩⟩
    have := SeasonOf_err day w ht hs (by omega)
    rwa [show seaOfErr day = 3 from if_neg hd] at this
theorem fst_2 (x y : Int) : fst [x, y] = if x = 0 then y else x := by
  by_cases h : x = 0
  · by_cases h2 : y = 0 <;> simp [fst, h, h2]
  · simp [fst, h]
theorem fst_3 {x y z : Int} (h : fst [x, y] ≠ 0) : fst [x, y, z] = fst [x, y] := by
  by_cases hx : x = 0
  · by_cases hy : y = 0
    · exact absurd (by simp [fst, hx, hy]) h
    · simp [fst, hx, hy]
  · simp [fst, hx]
theorem kinds_eq {s t : ByteArray} (hs : s = bS ∨ s = bW) (ht : t = bS ∨ t = bW) (h : (s.toList == t.toList) = true) : s = t := by
  rcases hs with rfl | rfl <;> rcases ht with rfl | rfl
  · rfl
  · have := ww_eq; rw [this] at h; rw [S_no] at h; cases h
  · have : (bW.toList == bS.toList) = false := by decide +kernel
    rw [this] at h; cases h
  · rfl
theorem Seasons_true (y : Int) (k : ByteArray) (day : Int) (w : World) (hl : Ev.Reads lst w) :
    Calls Tryz.prog 6 #[.agg #[.int .i64 y, .string k], .int .i64 day] w (IsTrue w) := by
  obtain ⟨oy, ok, oe, hSO, hday⟩ := seasonOf_any day
  have hE : ∀ E, equiE oe y k ok = E → E ≠ 0 → ∀ w, HeldTab w → HeldSea w → Calls Tryz.prog 47 #[.int .i64 day, .agg #[.int .i64 y, .string k]] w fun r w' => r = .returned (.tuple #[.int .i64 0, .int .i64 E]) ∧ Below w.heap.size w w' := fun E he hn w ht hs => by
    subst he
    exact Equi_err day y oy oe k ok w ht hs hSO hn
  have hdayW : (rng day 0 99999 = 3 ∧ oe = 3 ∧ oy = 0 ∧ ok = ⟨#[]⟩) ∨
        (rng day 0 99999 = 0 ∧ ∃ f : Bool, (∀ w, Calls Tryz.prog 51 #[.int .i64 day] w fun r w' => r = .returned (.tuple #[.agg #[.int .i64 oy, .string ok], .bool f]) ∧ Below w.heap.size w w') ∧ ((f = false ∧ oe = 30) ∨ (f = true ∧ oe = 0))) := by
    rcases hday with h | ⟨hr, _, f, hq, h | h⟩
    · exact .inl h
    · exact .inr ⟨hr, f, hq, .inl h⟩
    · exact .inr ⟨hr, f, hq, .inr ⟨h.1, h.2.1⟩⟩
  by_cases hse : seasonErr y k = 0
  · obtain ⟨⟨y1, y2⟩, hkz⟩ := sea_of_zero1 hse
    have hk := kind_two hkz
    obtain ⟨ny, nk, nf, ne, hN, hqN, hn⟩ := next_any y k y1 y2 hk
    obtain ⟨pvy, pk, pf, pe, hP, hqP, hp⟩ := prev_any y k y1 y2 hk
    have hcomb : (nf = true ∧ ne = 0 ∧ pf = true ∧ pe = 0) ∨ (nf = true ∧ ne = 0 ∧ pf = false ∧ pe = 7) ∨ (nf = false ∧ ne = 7 ∧ pf = true ∧ pe = 0) := by
      rcases hn with ⟨a, b⟩ | ⟨a, b, c⟩ <;> rcases hp with ⟨a', b'⟩ | ⟨a', b', c'⟩
      · exact .inl ⟨a, b, a', b'⟩
      · exact .inr (.inl ⟨a, b, a', b'⟩)
      · exact .inr (.inr ⟨a, b, a', b'⟩)
      · exfalso
        rw [c] at c'
        have h := isS_bW
        rw [c', isS_bS] at h
        cases h
    have HS : ∀ w, HeldTab w → _ := fun w ht => Span_ok y k w ht y1 y2 hkz
    by_cases hoe : oe = 0
    · rcases hday with ⟨_, h3, _⟩ | ⟨hr, hd, f, hq, ⟨_, h30⟩ | ⟨hft, _, hok, o1, o2, o3, o4⟩⟩
      · exact absurd (hoe.symm.trans h3) (by decide)
      · exact absurd (hoe.symm.trans h30) (by decide)
      · subst hft
        have hfe : fst [oe, 0] = 0 := by rw [hoe]; rfl
        by_cases hkk : (ok.toList == k.toList) = true
        · have hkeq := kinds_eq hok hk hkk
          have hEq := fun w ht hs => Equi_ok day oy y k w ht hs y1 y2 o1 o2 hk (by rw [← hkeq]; exact o3) (by rw [← hkeq]; exact o4)
          have hb0 := fDay_bd y k (by omega) (by omega)
          have hb1 := fDay_bd oy ok (by omega) (by omega)
          by_cases hfit : fDay y k + (day - fDay oy k) ≤ lDay y k
          · rw [show equiRes (fDay y k) (lDay y k) (day - fDay oy k) = .tuple #[.int .i64 (fDay y k + (day - fDay oy k)), .int .i64 0] from if_pos hfit] at hEq
            exact Seasons_walk y day 0 (fDay y k) (lDay y k) 127 ny ne pvy pe oy oe _ 0 0 k nk pk ok w hl hse hfe HS hN hP hSO hEq (.inr ⟨rfl, fun w => qSpan_ok y k w y1 y2 hk, nf, pf, hqN, hqP, hcomb⟩)
              (.inr ⟨rfl, rfl, hoe, hr, hq, .inr ⟨hkk, hd, hb0, fDay oy ok, lDay oy ok, hb1, fun w => qSpan_ok oy ok w o1 o2 hok, .inl ⟨by rw [hkeq]; omega, rfl, by rw [hkeq]; omega⟩⟩⟩)
          · rw [show equiRes (fDay y k) (lDay y k) (day - fDay oy k) = .tuple #[.int .i64 0, .int .i64 7] from if_neg hfit] at hEq
            exact Seasons_walk y day 0 (fDay y k) (lDay y k) 127 ny ne pvy pe oy oe 0 7 0 k nk pk ok w hl hse hfe HS hN hP hSO hEq (.inr ⟨rfl, fun w => qSpan_ok y k w y1 y2 hk, nf, pf, hqN, hqP, hcomb⟩)
              (.inr ⟨rfl, rfl, hoe, hr, hq, .inr ⟨hkk, hd, hb0, fDay oy ok, lDay oy ok, hb1, fun w => qSpan_ok oy ok w o1 o2 hok, .inr ⟨by rw [hkeq]; omega, rfl, rfl⟩⟩⟩)
        · have hkf : (ok.toList == k.toList) = false := by simpa using hkk
          have hEq := hE 13 (by unfold equiE; rw [hoe, hse, hkf]; rfl) (by decide)
          exact Seasons_walk y day 0 (fDay y k) (lDay y k) 127 ny ne pvy pe oy oe 0 13 0 k nk pk ok w hl hse hfe HS hN hP hSO hEq (.inr ⟨rfl, fun w => qSpan_ok y k w y1 y2 hk, nf, pf, hqN, hqP, hcomb⟩) (.inr ⟨rfl, rfl, hoe, hr, hq, .inl ⟨hkf, rfl, rfl⟩⟩)
    · have hfe : fst [oe, 0] = oe := by rw [fst_2, if_neg hoe]
      have hEq := hE oe (by unfold equiE; rw [hse, fst_3 (by rw [hfe]; exact hoe), hfe]) hoe
      exact Seasons_walk y day 0 (fDay y k) (lDay y k) 127 ny ne pvy pe oy oe 0 oe oe k nk pk ok w hl hse hfe HS hN hP hSO hEq (.inr ⟨rfl, fun w => qSpan_ok y k w y1 y2 hk, nf, pf, hqN, hqP, hcomb⟩) (.inl ⟨hoe, rfl, rfl, hdayW⟩)
  · have hfn : fst [oe, seasonErr y k] ≠ 0 := by
      rw [fst_2]; split
      · exact hse
      · assumption
    have hEq := hE (fst [oe, seasonErr y k]) (by unfold equiE; exact fst_3 hfn) hfn
    exact Seasons_walk y day (seasonErr y k) 0 0 0 0 (seasonErr y k) 0 (seasonErr y k) oy oe 0 _ _ k ⟨#[]⟩ ⟨#[]⟩ ok w hl rfl rfl (fun w _ => Span_err y k w hse) (fun w hs => Next_err y k w hs hse) (fun w hs => Prev_err y k w hs hse) hSO hEq
      (.inl ⟨hse, rfl, rfl, rfl, rfl, rfl, rfl, rfl, rfl, rfl⟩) (.inl ⟨hfn, rfl, rfl, hdayW⟩)
end Go.Proofs.YtijnabgehlkghaaGreatDoor
