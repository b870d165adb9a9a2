/- Footers: the text as the program reads it, and as words. · The message of a text: as the reference reads it, and as the program does. · What is known of a message while it is read, line by line. -/
import Derived.Test.YtphoclgibnhjfaaGreatPm20
import Derived.Test.YtphoclgibnhjfaaGreatPm17
import Derived.Test.YtphoclgibnhjfaaGreatPm18
import Derived.Test.YtphoclgibnhjfaaGreatPm21
import Derived.Test.YtphoclgibnhjfaaGreatPm13
namespace Go.Proofs.YtphoclgibnhjfaaGreat
open Go Go.RowKit
theorem bt_loop (s : ByteArray) : ∀ (n i : Nat) (r : List UInt8), s.size - i ≤ n → ByteArray.toList.loop s i r = r.reverse ++ s.data.toList.drop i := by
  intro n
  induction n with
  | zero =>
    intro i r h
    have hs : s.data.toList.length = s.size := by simp
    rw [ByteArray.toList.loop, if_neg (by omega), List.drop_eq_nil_of_le (by omega), List.append_nil]
  | succ n ih =>
    intro i r h
    have hs : s.data.toList.length = s.size := by simp
    rw [ByteArray.toList.loop]
    split
    · rename_i hi
      rw [ih _ _ (by omega), List.reverse_cons, List.append_assoc]
      have hlt : i < s.data.toList.length := by omega
      rw [List.drop_eq_getElem_cons hlt]
      have : s.get! i = s.data.toList[i]'hlt := by
        show s.data[i]! = _
        rw [getElem!_pos s.data i (show i < s.data.size from hi)]
        simp
      rw [this]; rfl
    · rw [List.drop_eq_nil_of_le (by omega), List.append_nil]
theorem bt (s : ByteArray) : s.toList = s.data.toList := by
  show ByteArray.toList.loop s 0 [] = _
  rw [bt_loop s s.size 0 [] (by omega)]; rfl
theorem lit_of {s : ByteArray} {l : List UInt8} (h : (s.toList == l) = true) : s.data.toList = l := by
  rw [← bt]; simpa using h
theorem count_none (l : List UInt8) (h : ∀ i, i < l.length → l[i]? ≠ some 32) : l.count 32 = 0 := by
  rw [List.count_eq_zero]
  intro hm
  obtain ⟨i, hi, e⟩ := List.getElem_of_mem hm
  exact h i hi (by rw [List.getElem?_eq_getElem hi, e])
/-- A text's first word and the rest. -/
theorem cut_words (s : ByteArray) : (nWords s = 1 ∧ cwAt s 0 = s) ∨ (s.data.toList = (cwAt s 0).data.toList ++ 32 :: (restAt s 1).data.toList ∧ nWords s = nWords (restAt s 1) + 1) := by
  rcases blank_cases s with ⟨h, hn⟩ | ⟨k, h, hk, h1, h2⟩
  · refine .inl ⟨?_, ?_⟩
    · unfold nWords Lib.countByte
      rw [count_none _ (fun i hi => hn i (by simpa using hi))]
    · show (cutB s).1 = s
      unfold cutB; rw [if_pos (by omega)]
  · have ec : cutB s = (s.extract 0 k, s.extract (k + 1) s.size) := by
      unfold cutB; rw [h, if_neg (by omega), Int.toNat_natCast]
    have e0 : cwAt s 0 = s.extract 0 k := by show (cutB s).1 = _; rw [ec]
    have e1 : restAt s 1 = s.extract (k + 1) s.size := by show (cutB s).2 = _; rw [ec]
    have hl : k < s.data.toList.length := by simpa using hk
    have ha : (s.extract 0 k).data.toList = s.data.toList.take k := by simp
    have hb : (s.extract (k + 1) s.size).data.toList = s.data.toList.drop (k + 1) := by
      simp only [ByteArray.data_extract, Array.toList_extract, List.extract_eq_take_drop]
      rw [List.take_of_length_le (by simp)]
    have hs : s.data.toList = s.data.toList.take k ++ 32 :: s.data.toList.drop (k + 1) := by
      have : s.data.toList[k] = 32 := by rw [List.getElem?_eq_getElem hl] at h1; exact Option.some.inj h1
      have hd : s.data.toList.drop k = 32 :: s.data.toList.drop (k + 1) := by rw [List.drop_eq_getElem_cons hl, this]
      rw [← hd, List.take_append_drop]
    refine .inr ⟨by rw [e0, e1, ha, hb]; exact hs, ?_⟩
    unfold nWords Lib.countByte
    rw [e1, hb]
    conv => lhs; rw [hs]
    rw [List.count_append, count_none (s.data.toList.take k) (fun i hi => by
      rw [List.length_take] at hi
      rw [List.getElem?_take_of_lt (by omega)]
      exact h2 i (by omega))]
    simp
theorem allK_noblank {s : ByteArray} {K : Nat} (h : allK s K) : nWords s = 1 := by
  unfold nWords Lib.countByte
  rw [count_none _ (fun i hi e => by
    have hi' : i < s.size := by simpa using hi
    have := h.2 i (by rw [← h.1]; exact hi')
    rw [byteAt_eq hi'] at this
    have e2 : s[i]'hi' = 32 := by
      rw [Array.getElem?_toList, Array.getElem?_eq_getElem (show i < s.data.size from hi')] at e
      exact Option.some.inj e
    rw [e2] at this
    exact absurd this.1 (by decide))]
/-- The error of a footer, by its words. -/
theorem foot_words (s : ByteArray) (n : Int) (h : isFoot s = true) : footErr s n = if nWords s ≠ 2 ∨ qNumK (cwAt s 1) 2 < 0 then 25 else if qNumK (cwAt s 1) 2 ≠ n then 27 else 0 := by
  have h0 := lit_of h
  rcases cut_words s with ⟨h1, h2⟩ | ⟨h1, h2⟩
  · rw [h2] at h0
    have hp : Lib.hasPrefix s.data.toList [69, 78, 68, 32] = false := by rw [h0]; rfl
    rw [if_pos (.inl (by omega))]
    unfold footErr
    rw [hp]; rfl
  · rw [h0] at h1
    have hp : Lib.hasPrefix s.data.toList [69, 78, 68, 32] = true := by rw [h1]; simp [Lib.hasPrefix]
    have ht : footTail s = restAt s 1 := by
      apply ba_ext
      unfold footTail Lib.trimPrefix
      rw [if_pos hp, h1]
      simp
    unfold footErr
    rw [hp, ht]
    by_cases hd : allK (restAt s 1) 2
    · have hn1 := allK_noblank hd
      have hc1 : cwAt s 1 = restAt s 1 := by
        rcases cut_words (restAt s 1) with ⟨_, h4⟩ | ⟨_, h4⟩
        · exact h4
        · exfalso
          have : 1 ≤ nWords (restAt (restAt s 1) 1) := by unfold nWords; omega
          omega
      have e2 : qNumK (cwAt s 1) 2 = nv (restAt s 1) 2 := by rw [hc1]; unfold qNumK; rw [if_pos hd]
      have hge : 0 ≤ nv (restAt s 1) 2 := by
        have := qNumK_ge (restAt s 1) 2 (by decide)
        unfold qNumK at this
        rw [if_pos hd, decide_eq_true hd] at this
        exact of_decide_eq_true this
      rw [decide_eq_true hd, if_pos hd, e2, if_neg (by omega)]
      by_cases hnn : nv (restAt s 1) 2 = n
      · rw [if_neg (by simpa using hnn), hnn]; simp [fst, unl]
      · rw [if_pos hnn]; simp [fst, unl, hnn]
    · rw [decide_eq_false hd, if_neg hd, if_pos]
      · rfl
      · by_cases h3 : nWords s = 2
        · right
          have hc1 : cwAt s 1 = restAt s 1 := by
            rcases cut_words (restAt s 1) with ⟨_, h4⟩ | ⟨_, h4⟩
            · exact h4
            · exfalso
              have : 1 ≤ nWords (restAt (restAt s 1) 1) := by unfold nWords; omega
              omega
          rw [hc1]; unfold qNumK; rw [if_neg hd]; decide
        · exact .inl h3
end Go.Proofs.YtphoclgibnhjfaaGreat
namespace Go.Proofs.YtphoclgibnhjfaaGreat
open Go Go.RowKit
abbrev MsgOut := (HeadV × List LineV) × Int × Int
def badM (i e : Int) : MsgOut := ((zeroHead, []), i, e)
/-- The end of a message: its lines among each other. -/
def closeM (h : HeadV) (L : List LineV) : MsgOut := if (wlGo h.kind L zeroLine 0).2 ≠ 0 then badM ((wlGo h.kind L zeroLine 0).1 + 1) (wlGo h.kind L zeroLine 0).2 else ((h, L), 0, 0)
/-- The lines of text behind the header, as the reference reads them. -/
def msgGo (h : HeadV) : List ByteArray → Nat → List LineV → MsgOut
  | [], i, _ => badM i 28
  | t :: ts, i, L =>
    if wholeB t = false then badM i 25
    else if isFoot (bareL t) = false then
      if (if (lineIs (bareL t)).2.2 = 0 ∧ 64 < i then 5 else (lineIs (bareL t)).2.2) ≠ 0 then badM i (if (lineIs (bareL t)).2.2 = 0 ∧ 64 < i then 5 else (lineIs (bareL t)).2.2)
      else msgGo h ts (i + 1) (L ++ [(lineIs (bareL t)).1])
    else if nWords (bareL t) ≠ 2 ∨ qNumK (cwAt (bareL t) 1) 2 < 0 then badM i 25
    else if qNumK (cwAt (bareL t) 1) 2 ≠ (i : Int) - 1 then badM i 27
    else if ts ≠ [] then badM ((i : Int) + 1) 25
    else closeM h L
/-- The message of a text, the index and the error. -/
def msgIs (s : ByteArray) : MsgOut :=
  if 16384 < s.size then badM 0 26
  else match pcs s with
    | [] => badM 0 28
    | t :: ts => if qhOk t = true then msgGo (headWords (bareL t)) ts 1 [] else badM 0 25
/-- What the program knows while it reads. -/
structure RS where
  h : HeadV
  L : List LineV
  at_ : Nat
  ended : Bool
def stepM (x : RS) (t : ByteArray) : RS × Int :=
  if (!wholeB t || x.ended) = true then (x, 25)
  else if x.at_ = 0 then (⟨(headIs (bareL t)).1, x.L, x.at_ + 1, x.ended⟩, (headIs (bareL t)).2)
  else if isFoot (bareL t) = true then (⟨x.h, x.L, x.at_ + 1, true⟩, footErr (bareL t) x.L.length)
  else (⟨x.h, x.L ++ [(lineIs (bareL t)).1], x.at_ + 1, x.ended⟩, fst [(lineIs (bareL t)).2.2, unl (decide ((x.L.length : Int) < 64)) 5])
def runM : List ByteArray → RS → RS × Int × Int
  | [], x => (x, x.at_, unl x.ended 28)
  | t :: ts, x => if (stepM x t).2 ≠ 0 then (x, x.at_, (stepM x t).2) else runM ts (stepM x t).1
def finM (r : RS × Int × Int) : MsgOut := if r.2.2 ≠ 0 then badM r.2.1 r.2.2 else closeM r.1.h r.1.L
def progIs (s : ByteArray) : MsgOut := if 16384 < s.size then badM 0 26 else finM (runM (pcs s) ⟨zeroHead, [], 0, false⟩)
theorem runM_ended (ts : List ByteArray) (h : HeadV) (L : List LineV) (i : Nat) : finM (runM ts ⟨h, L, i, true⟩) = if ts ≠ [] then badM i 25 else closeM h L := by
  cases ts with
  | nil => rfl
  | cons t ts =>
    have e : stepM ⟨h, L, i, true⟩ t = (⟨h, L, i, true⟩, 25) := by unfold stepM; rw [if_pos (by simp)]
    rw [if_pos (by simp)]
    unfold runM
    rw [e]; dsimp only; rw [if_pos (by decide)]; rfl
theorem runM_go : ∀ (ts : List ByteArray) (h : HeadV) (L : List LineV) (i : Nat), i = L.length + 1 → finM (runM ts ⟨h, L, i, false⟩) = msgGo h ts i L
  | [], h, L, i, _ => rfl
  | t :: ts, h, L, i, hi => by
    unfold runM msgGo
    by_cases hw : wholeB t = false
    · rw [if_pos hw]
      have e : stepM ⟨h, L, i, false⟩ t = (⟨h, L, i, false⟩, 25) := by unfold stepM; rw [if_pos (by simp [hw])]
      rw [e]; dsimp only; rw [if_pos (by decide)]; rfl
    · rw [if_neg hw]
      have hg : ¬ (!wholeB t || (⟨h, L, i, false⟩ : RS).ended) = true := by simpa using hw
      by_cases hf : isFoot (bareL t) = false
      · rw [if_pos hf]
        have e : stepM ⟨h, L, i, false⟩ t = (⟨h, L ++ [(lineIs (bareL t)).1], i + 1, false⟩, fst [(lineIs (bareL t)).2.2, unl (decide ((L.length : Int) < 64)) 5]) := by
          unfold stepM; rw [if_neg hg, if_neg (by show ¬ i = 0; omega), if_neg (by simp [hf])]
        have e2 : fst [(lineIs (bareL t)).2.2, unl (decide ((L.length : Int) < 64)) 5] = if (lineIs (bareL t)).2.2 = 0 ∧ 64 < i then 5 else (lineIs (bareL t)).2.2 := by
          simp only [fst]
          by_cases h0 : (lineIs (bareL t)).2.2 = 0
          · rw [if_pos h0]
            by_cases h64 : 64 < i
            · have hd : decide ((L.length : Int) < 64) = false := decide_eq_false (by omega)
              have hc : (lineIs (bareL t)).2.2 = 0 ∧ 64 < i := ⟨h0, h64⟩
              rw [hd, show (if (lineIs (bareL t)).2.2 = 0 ∧ 64 < i then (5 : Int) else (lineIs (bareL t)).2.2) = 5 from if_pos hc]; rfl
            · have hd : decide ((L.length : Int) < 64) = true := decide_eq_true (by omega)
              have hc : ¬ ((lineIs (bareL t)).2.2 = 0 ∧ 64 < i) := fun h => h64 h.2
              rw [hd, show (if (lineIs (bareL t)).2.2 = 0 ∧ 64 < i then (5 : Int) else (lineIs (bareL t)).2.2) = 0 from (if_neg hc).trans h0]; rfl
          · rw [if_neg h0, if_neg (by simp [h0])]
        rw [e]
        dsimp only
        rw [e2]
        by_cases h5 : (if (lineIs (bareL t)).2.2 = 0 ∧ 64 < i then 5 else (lineIs (bareL t)).2.2) ≠ 0
        · rw [if_pos h5, if_pos h5]
          unfold finM
          dsimp only
          rw [if_pos h5]
        · rw [if_neg h5, if_neg h5]
          exact runM_go ts h _ (i + 1) (by simp; omega)
      · have hf' : isFoot (bareL t) = true := by simpa using hf
        rw [if_neg hf]
        have e : stepM ⟨h, L, i, false⟩ t = (⟨h, L, i + 1, true⟩, footErr (bareL t) L.length) := by
          unfold stepM; rw [if_neg hg, if_neg (by show ¬ i = 0; omega), if_pos hf']
        rw [e, foot_words _ _ hf', show ((L.length : Nat) : Int) = (i : Int) - 1 by omega]
        dsimp only
        by_cases h1 : nWords (bareL t) ≠ 2 ∨ qNumK (cwAt (bareL t) 1) 2 < 0
        · simp only [if_pos h1]
          rw [if_pos (by decide)]; rfl
        · simp only [if_neg h1]
          by_cases h2 : qNumK (cwAt (bareL t) 1) 2 ≠ (i : Int) - 1
          · simp only [if_pos h2]
            rw [if_pos (by decide)]; rfl
          · simp only [if_neg h2]
            rw [if_neg (by decide), runM_ended]
            rfl
theorem headOf_ok (t : ByteArray) : (headIs t) = if headOk t = true then (headWords t, 0) else (zeroHead, 25) := rfl
theorem progIs_eq (s : ByteArray) : progIs s = msgIs s := by
  unfold progIs msgIs
  by_cases h : 16384 < s.size
  · rw [if_pos h, if_pos h]
  · rw [if_neg h, if_neg h]
    cases pcs s with
    | nil => rfl
    | cons t ts =>
      dsimp only
      unfold runM
      by_cases hw : wholeB t = false
      · have e : stepM ⟨zeroHead, [], 0, false⟩ t = (⟨zeroHead, [], 0, false⟩, 25) := by unfold stepM; rw [if_pos (by simp [hw])]
        have hq : qhOk t = false := by unfold qhOk; rw [hw]; rfl
        rw [e, hq]; dsimp only; rw [if_pos (by decide)]; rfl
      · have hg : ¬ (!wholeB t || (⟨zeroHead, [], 0, false⟩ : RS).ended) = true := by simpa using hw
        have hq : qhOk t = headOk (bareL t) := by unfold qhOk; simp at hw; rw [hw]; rfl
        have e : stepM ⟨zeroHead, [], 0, false⟩ t = (⟨(headIs (bareL t)).1, [], 1, false⟩, (headIs (bareL t)).2) := by
          unfold stepM; rw [if_neg hg, if_pos rfl]
        rw [e, hq, headOf_ok]
        by_cases ho : headOk (bareL t) = true
        · simp only [if_pos ho]
          rw [if_neg (by decide)]
          exact runM_go ts _ [] 1 rfl
        · simp only [if_neg ho]
          rw [if_pos (by decide)]; rfl
end Go.Proofs.YtphoclgibnhjfaaGreat
namespace Go.Proofs.YtphoclgibnhjfaaGreat
open Go Go.RowKit
def zeroRS : RS := ⟨zeroHead, [], 0, false⟩
/-- The lines so far have led to x, and none of them was wrong. -/
def OkM (L : List ByteArray) (x : RS) : Prop := ∀ ts, runM (L ++ ts) zeroRS = runM ts x
theorem OkM.nil : OkM [] zeroRS := fun _ => rfl
theorem OkM.step {L : List ByteArray} {x : RS} {t : ByteArray} (h : OkM L x) (he : (stepM x t).2 = 0) : OkM (L ++ [t]) (stepM x t).1 := fun ts => by
  rw [List.append_assoc, h]
  show (if (stepM x t).2 ≠ 0 then _ else _) = _
  rw [if_neg (by simpa using he)]; rfl
theorem OkM.stop {L : List ByteArray} {x : RS} {t : ByteArray} (h : OkM L x) (he : (stepM x t).2 ≠ 0) (ts : List ByteArray) : runM (L ++ t :: ts) zeroRS = (x, (x.at_ : Int), (stepM x t).2) := by
  rw [h]
  show (if (stepM x t).2 ≠ 0 then _ else _) = _
  rw [if_pos he]
theorem OkM.done {L : List ByteArray} {x : RS} (h : OkM L x) : runM L zeroRS = (x, (x.at_ : Int), unl x.ended 28) := by
  have e := h []
  rw [List.append_nil] at e
  exact e
/-- A line of text and its line feed, as strings.CutSuffix sees them. -/
theorem suffix_whole (s : ByteArray) : Lib.hasSuffix s.data.toList [10] = wholeB s := by
  unfold wholeB Lib.hasSuffix
  rcases List.eq_nil_or_concat s.data.toList with h | ⟨l, b, h⟩
  · rw [h]; rfl
  · rw [h, List.concat_eq_append, List.getLast?_append]
    rw [Bool.eq_iff_iff, List.isSuffixOf_iff_suffix]
    constructor
    · rintro ⟨t, e⟩
      have := congrArg List.getLast? e
      simp at this
      simp [this]
    · intro e
      have e2 : b = 10 := by simpa using e
      subst e2
      exact ⟨l, rfl⟩
theorem suffix_bare (s : ByteArray) : (⟨(Lib.trimSuffix s.data.toList [10]).toArray⟩ : ByteArray) = bareL s := by
  unfold Lib.trimSuffix bareL
  rw [suffix_whole]
  cases wholeB s
  · simp
  · apply ba_ext
    simp only [if_pos]
    apply Array.ext'
    simp [ByteArray.data_extract, List.dropLast_eq_take]
theorem lineIs_size (s : ByteArray) : (lineIs s).1.act.size ≤ s.size ∧ (lineIs s).1.q.name.size ≤ s.size := by
  have hz : zeroLine.act.size ≤ s.size ∧ zeroLine.q.name.size ≤ s.size := ⟨Nat.zero_le _, Nat.zero_le _⟩
  unfold lineIs
  split
  · exact hz
  · split
    · exact hz
    · split
      · exact hz
      · exact ⟨cwAt_size s 0, cwAt_size s 2⟩
/-- Lines whose action and name are short. -/
def SzL (L : List LineV) : Prop := ∀ l ∈ L, l.act.size ≤ 20000 ∧ l.q.name.size ≤ 20000
theorem SzL.snoc {L : List LineV} {l : LineV} (h : SzL L) (h1 : l.act.size ≤ 20000 ∧ l.q.name.size ≤ 20000) : SzL (L ++ [l]) := fun x hx => by
  rcases List.mem_append.1 hx with hx | hx
  · exact h x hx
  · rw [List.mem_singleton] at hx; subst hx; exact h1
theorem SzL.line {L : List LineV} (h : SzL L) {t : ByteArray} (ht : t.size ≤ 20000) : SzL (L ++ [(lineIs t).1]) := h.snoc ⟨Nat.le_trans (lineIs_size t).1 ht, Nat.le_trans (lineIs_size t).2 ht⟩
theorem lnArg_sl {w : World} {v : Value} {L : List LineV} (h : SlArg LineV.cells 14 w v L) (hs : SzL L) : LnArg w v L := by
  rcases h with h | ⟨h0, b, off, cap, hv, hl, hc, -⟩
  · exact .inl h
  · refine .inr ⟨h0, b, off, cap, hv, ⟨fun k hk t v hv => hl.c k hk t v hv⟩, hc, fun k hk => ?_⟩
    have hm : L.getD k default ∈ L := by
      rw [List.getD_eq_getElem?_getD, List.getElem?_eq_getElem hk]
      exact List.getElem_mem hk
    have := hs _ hm
    unfold maxLen
    omega
theorem step_sz {x : RS} {t : ByteArray} (h : SzL x.L) (ht : t.size ≤ 20000) : SzL (stepM x t).1.L := by
  unfold stepM
  split
  · exact h
  · split
    · exact h
    · split
      · exact h
      · exact h.line (Nat.le_trans (bareL_size t) ht)
end Go.Proofs.YtphoclgibnhjfaaGreat
