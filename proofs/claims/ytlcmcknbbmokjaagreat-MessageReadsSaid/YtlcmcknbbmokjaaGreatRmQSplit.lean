/- Contract of the reference's split: the words of a text. -/
import Derived.Test.YtlcmcknbbmokjaaGreatRmParseL
import Derived.Test.YtlcmcknbbmokjaaGreatRmRowsG
namespace Go.Proofs.YtlcmcknbbmokjaaGreat
open Go Go.RowKit Go.ChangeMaps Go.MapKept
theorem ba_ext {a b : ByteArray} (h : a.data = b.data) : a = b := ByteArray.ext h
theorem ex_ex (s : ByteArray) (a k l : Nat) (hl : a + l ≤ s.size) : (s.extract a s.size).extract k l = s.extract (a + k) (a + l) := by
  apply ba_ext
  simp only [ByteArray.data_extract, Array.extract_extract]
  congr 1
  omega
theorem ex_size (s : ByteArray) (a : Nat) (_ : a ≤ s.size) : (s.extract a s.size).size = s.size - a := by
  simp [ByteArray.size_extract]
theorem ex_get (s : ByteArray) (a i : Nat) : (s.extract a s.size).data.toList[i]? = s.data.toList[a + i]? := by
  have hs : s.size = s.data.size := rfl
  simp only [ByteArray.data_extract, Array.getElem?_toList]
  rw [Array.getElem?_extract]
  split
  · rfl
  · rename_i h
    rw [Array.getElem?_eq_none]
    simp at h
    omega
/-- From here on a text is what is left after some words. -/
structure AtW (s : ByteArray) (j a : Nat) : Prop where
  le : a ≤ s.size
  rest : restAt s j = s.extract a s.size
theorem AtW.zero (s : ByteArray) : AtW s 0 0 := ⟨Nat.zero_le _, by
  apply ba_ext
  show s.data = (s.extract 0 s.size).data
  simp only [ByteArray.data_extract]
  exact (Array.extract_size (xs := s.data)).symm⟩
theorem blank_uniq {s : ByteArray} {k : Nat} (hk : k < s.size) (h1 : s.data.toList[k]? = some 32) (h2 : ∀ i, i < k → s.data.toList[i]? ≠ some 32) : blankAt s = k := by
  rcases blank_cases s with ⟨h, hn⟩ | ⟨m, h, hm, hm1, hm2⟩
  · exact absurd h1 (hn k hk)
  · rcases Nat.lt_trichotomy m k with h3 | h3 | h3
    · exact absurd hm1 (h2 m h3)
    · rw [h, h3]
    · exact absurd h1 (hm2 k h3)
theorem AtW.cut {s : ByteArray} {j a i : Nat} (h : AtW s j a) (ha : a ≤ i) (hi : i < s.size) (hb : s.data.toList[i]? = some 32) (hn : ∀ k, a ≤ k → k < i → s.data.toList[k]? ≠ some 32) : cwAt s j = s.extract a i ∧ AtW s (j + 1) (i + 1) := by
  have e : blankAt (s.extract a s.size) = ((i - a : Nat) : Int) := blank_uniq (by rw [ex_size s a h.le]; omega) (by rw [ex_get, show a + (i - a) = i by omega]; exact hb) (fun k hk => by rw [ex_get]; exact hn _ (by omega) (by omega))
  have ec : cutB (s.extract a s.size) = (s.extract a i, s.extract (i + 1) s.size) := by
    unfold cutB
    rw [e, if_neg (by omega), Int.toNat_natCast, ex_size s a h.le, ex_ex s a 0 (i - a) (by omega), ex_ex s a (i - a + 1) (s.size - a) (by have := h.le; omega)]
    rw [show a + (i - a) = i by omega, show a + (i - a + 1) = i + 1 by omega, show a + (s.size - a) = s.size by have := h.le; omega]; rfl
  refine ⟨?_, ⟨by omega, ?_⟩⟩
  · show (cutB (restAt s j)).1 = _; rw [h.rest, ec]
  · show (cutB (restAt s j)).2 = _; rw [h.rest, ec]
theorem AtW.last {s : ByteArray} {j a : Nat} (h : AtW s j a) (hn : ∀ k, a ≤ k → k < s.size → s.data.toList[k]? ≠ some 32) : cwAt s j = s.extract a s.size := by
  show (cutB (restAt s j)).1 = _
  rw [h.rest]
  unfold cutB
  rcases blank_cases (s.extract a s.size) with ⟨h1, _⟩ | ⟨m, h1, hm, hm1, _⟩
  · rw [if_pos (by omega)]
  · rw [ex_get] at hm1
    rw [ex_size s a h.le] at hm
    exact absurd hm1 (hn _ (by omega) (by omega))
theorem count_step (s : ByteArray) (i : Nat) (hi : i < s.size) : (s.data.toList.take (i + 1)).count 32 = (s.data.toList.take i).count 32 + (if s.data.toList[i]? = some 32 then 1 else 0) := by
  have hl : i < s.data.toList.length := by simpa using hi
  rw [List.take_succ_eq_append_getElem hl, List.count_append, List.getElem?_eq_getElem hl]
  by_cases h : s.data.toList[i] = 32
  · rw [h]; simp
  · have h' : ¬ s.data[i] = 32 := by simpa using h
    simp [h']
/-- The words of a text. -/
def splits (s : ByteArray) : List ByteArray := (List.range (nWords s)).map (cwAt s)
def strC (t : ByteArray) : Array Value := #[.string t]
instance : Inhabited ByteArray := ⟨⟨#[]⟩⟩
theorem splits_take (s : ByteArray) (j : Nat) (h : j < nWords s) : flatG strC ((splits s).take (j + 1)) = flatG strC ((splits s).take j) ++ [.string (cwAt s j)] := by
  have hl : j < (splits s).length := by simpa [splits] using h
  rw [flatG_take _ j hl]
  congr 1
  simp [splits, strC, List.getD_eq_getElem?_getD, h]
theorem strInfo : ∃ i0, Tryz.prog.info? 9 = some i0 ∧ i0.zero = some (.string ⟨#[]⟩) ∧ i0.size = 1 ∧ i0.bytes = 16 := by
  have h : (Tryz.prog.info? 9).map (fun i => (i.zero, i.size, i.bytes)) = some (some (.string ⟨#[]⟩), 1, 16) := by kernel_rfl
  cases hp : Tryz.prog.info? 9 with
  | none => rw [hp] at h; simp at h
  | some i => rw [hp] at h; simp only [Option.map_some, Option.some.injEq, Prod.mk.injEq] at h; exact ⟨i, rfl, h.1, h.2.1, h.2.2⟩
/-- Where the reference stands in a text: words so far, from where on the next one begins. -/
structure Cur (s : ByteArray) (i j a : Nat) : Prop where
  at_ : AtW s j a
  le : a ≤ i
  no : ∀ k, a ≤ k → k < i → s.data.toList[k]? ≠ some 32
  cnt : (s.data.toList.take i).count 32 = j
theorem Cur.lt {s : ByteArray} {i j a : Nat} (h : Cur s i j a) : j < nWords s := by
  unfold nWords Lib.countByte
  rw [← h.cnt]
  have := List.Sublist.count_le (a := (32 : UInt8)) (List.take_sublist i s.data.toList)
  omega
theorem Cur.skip {s : ByteArray} {i j a : Nat} (h : Cur s i j a) (hi : i < s.size) (hn : s.data.toList[i]? ≠ some 32) : Cur s (i + 1) j a :=
  ⟨h.at_, by have := h.le; omega, fun k h1 h2 => by
    by_cases e : k = i
    · subst e; exact hn
    · exact h.no k h1 (by omega), by rw [count_step s i hi, if_neg hn]; exact h.cnt⟩
theorem Cur.word {s : ByteArray} {i j a : Nat} (h : Cur s i j a) (hi : i < s.size) (hb : s.data.toList[i]? = some 32) : cwAt s j = s.extract a i ∧ Cur s (i + 1) (j + 1) (i + 1) := by
  obtain ⟨h1, h2⟩ := h.at_.cut h.le hi hb h.no
  exact ⟨h1, h2, Nat.le_refl _, fun k h3 h4 => by omega, by rw [count_step s i hi, if_pos hb, h.cnt]⟩
theorem Cur.last {s : ByteArray} {j a : Nat} (h : Cur s s.size j a) : cwAt s j = s.extract a s.size ∧ j + 1 = nWords s :=
  ⟨h.at_.last h.no, by
    have := h.cnt
    rw [List.take_of_length_le (by simp)] at this
    unfold nWords Lib.countByte
    omega⟩
set_option maxRecDepth 100000 in
set_option maxHeartbeats 4000000 in
theorem split_any (s : ByteArray) (hs : s.size ≤ 100000) (w : World) :
    Calls Tryz.prog 63 #[.string s] w fun e w' => SlR strC 1 9 e w' w.heap.size (splits s) ∧ Below w.heap.size w w' := by
  obtain ⟨i0, hi, hz0, hz1, hz2⟩ := strInfo
  have HC0 : Hid (Cur s 0 0 0) := Lib.hid ⟨AtW.zero s, Nat.le_refl _, fun k _ h => by omega, by simp⟩
  have HSK := Lib.hid (fun i j a (h : Cur s i j a) => h.skip)
  have HWD := Lib.hid (fun i j a (h : Cur s i j a) => h.word)
  have HLS := Lib.hid (fun j a (h : Cur s s.size j a) => h.last)
  have HTK := Lib.hid (splits_take s)
  have HNW : Hid (nWords s ≤ 100001) := Lib.hid (by
    have : Lib.countByte s.data.toList 32 ≤ s.size := Nat.le_trans (List.count_le_length) (by simp)
    unfold nWords; omega)
  have HLT := Lib.hid (fun i j a (h : Cur s i j a) => h.lt)
  have HSL : Hid ((splits s).length = nWords s) := Lib.hid (by simp [splits])
  generalize splits s = sp at *
  go_enter Tryz.func63, Tryz.ntmps63
  go_wp2_with fail
  go_loopw [3, 4, 5] (fun v3 v4 v5 wr => ∃ (i j a : Nat), v5 = .int .i64 i ∧ v4 = .int .i64 a ∧ i ≤ s.size + 1 ∧ a ≤ s.size + 1 ∧ wr.ownsRow w.heap.size 9 1 v3 j (flatG strC (sp.take j)) ∧ Hid ((i ≤ s.size ∧ Cur s i j a) ∨ (i = s.size + 1 ∧ j = nWords s)) ∧ Hid (Below w.heap.size w wr)) (fun _ _ v5 _ => s.size + 1 - (intOf v5).toNat)
  case atStart => exact ⟨0, 0, 0, rfl, rfl, Nat.zero_le _, Nat.zero_le _, World.ownsRow_nil _ _ _ _, Lib.hid (.inl ⟨Nat.zero_le _, HC0.out⟩), Lib.hid (Below.refl _ _)⟩
  case round =>
    obtain ⟨i, j, a, rfl, rfl, hi1, ha1, hown, HH, HB⟩ := hrel
    have hsz := HB.out.size
    rcases HH.out with ⟨hle, hc⟩ | ⟨he, hj⟩
    · have HC := Lib.hid hc
      have hjl := HLT.out i j a hc
      have hnw := HNW.out
      have hac := hc.le
      have hlen := flatG_len (f := strC) (k := 1) (fun _ => rfl) (sp.take j)
      rw [List.length_take, HSL.out, Nat.min_eq_left (by omega)] at hlen
      clear hc HH
      by_cases hlt : i < s.size
      · have hbn : ((i : Int) == (s.size : Int)) = false := by simp; omega
        have b0 : (i : Int) < s.size := by omega
        have hget : s.data.toList[i]? = some (s[i]'hlt) := by
          rw [Array.getElem?_toList, Array.getElem?_eq_getElem (show i < s.data.size from hlt)]; rfl
        by_cases h32 : s[i]'hlt = 32
        · obtain ⟨hw, hc2⟩ := HWD.out i j a HC.out hlt (by rw [hget, h32])
          have h8 : ((((s[i]'hlt).toNat : Nat) : Int) == 32) = true := by rw [h32]; rfl
          have HF : Hid (flatG strC (sp.take (j + 1)) = flatG strC (sp.take j) ++ [.string (s.extract a i)]) := Lib.hid (by rw [HTK.out j hjl, hw])
          have HA := Lib.hid (hown.alloc (.cells #[.string (s.extract a i)] 9))
          have HNB : Hid ((wr.alloc (.cells #[.string (s.extract a i)] 9)).heap[wr.heap.size]? = some (.cells #[.string (s.extract a i)] 9 (0, 0))) := Lib.hid (heap_new _ _)
          go_wp2_with (at_builtin; refine Hid.out ?_)
          refine Lib.hid ?_
          refine wpList_append_own _ rfl _ _ 133 rfl w.heap.size 9 i0 (.string ⟨#[]⟩) 1 16 Tryz.underlying133 hi hz0 hz1 hz2 rfl (by decide) _ j _ rfl HA.out ⟨wr.heap.size, 0, none⟩ 1 1 [.string (s.extract a i)] rfl rfl
            (World.news_of_block (cs := #[.string (s.extract a i)]) (t := 9) (fr := (0, 0)) HNB.out) (by simp [Value.oneCell']) (by unfold maxLen; omega) (by omega) (by simp; omega) ?_
          intro v' w4 hown' hgrow _
          have hb4 : Below w.heap.size w w4 := (HB.out.alloc hsz _).grown hgrow (by simp; omega) (pr_blk HA.out)
          rw [show flatG strC (sp.take j) ++ [.string (s.extract a i)] = flatG strC (sp.take (j + 1)) from HF.out.symm] at hown'
          clear hgrow HA HNB hown
          go_wp2_with fail
          refine ⟨⟨i + 1, j + 1, i + 1, by go_num, by go_num, by omega, by omega, by simpa using hown', Lib.hid (.inl ⟨by omega, hc2⟩), Lib.hid hb4⟩, by simp [intOf]; omega⟩
        · have hsk := HSK.out i j a HC.out hlt (by rw [hget]; simpa using h32)
          have h8 : ((((s[i]'hlt).toNat : Nat) : Int) == 32) = false := by
            have : (s[i]'hlt).toNat ≠ 32 := fun e => h32 (UInt8.toNat_inj.1 e)
            simp; omega
          go_wp2_with fail
          refine ⟨⟨i + 1, j, a, by go_num, rfl, by omega, by omega, hown, Lib.hid (.inl ⟨by omega, hsk⟩), HB⟩, by simp [intOf]; omega⟩
      · obtain rfl : i = s.size := by omega
        have hbn : ((s.size : Int) == (s.size : Int)) = true := by simp
        obtain ⟨hw, hjn⟩ := HLS.out j a HC.out
        have HF : Hid (flatG strC (sp.take (j + 1)) = flatG strC (sp.take j) ++ [.string (s.extract a s.size)]) := Lib.hid (by rw [HTK.out j hjl, hw])
        have HA := Lib.hid (hown.alloc (.cells #[.string (s.extract a s.size)] 9))
        have HNB : Hid ((wr.alloc (.cells #[.string (s.extract a s.size)] 9)).heap[wr.heap.size]? = some (.cells #[.string (s.extract a s.size)] 9 (0, 0))) := Lib.hid (heap_new _ _)
        go_wp2_with (at_builtin; refine Hid.out ?_)
        refine Lib.hid ?_
        refine wpList_append_own _ rfl _ _ 133 rfl w.heap.size 9 i0 (.string ⟨#[]⟩) 1 16 Tryz.underlying133 hi hz0 hz1 hz2 rfl (by decide) _ j _ rfl HA.out ⟨wr.heap.size, 0, none⟩ 1 1 [.string (s.extract a s.size)] rfl rfl
          (World.news_of_block (cs := #[.string (s.extract a s.size)]) (t := 9) (fr := (0, 0)) HNB.out) (by simp [Value.oneCell']) (by unfold maxLen; omega) (by omega) (by simp; omega) ?_
        intro v' w4 hown' hgrow _
        have hb4 : Below w.heap.size w w4 := (HB.out.alloc hsz _).grown hgrow (by simp; omega) (pr_blk HA.out)
        rw [show flatG strC (sp.take j) ++ [.string (s.extract a s.size)] = flatG strC (sp.take (j + 1)) from HF.out.symm] at hown'
        clear hgrow HA HNB hown
        go_wp2_with fail
        refine ⟨⟨s.size + 1, j + 1, s.size + 1, by go_num, by go_num, by omega, by omega, by simpa using hown', Lib.hid (.inr ⟨rfl, hjn⟩), Lib.hid hb4⟩, by simp [intOf]⟩
    · subst he
      rw [hj, ← HSL.out, List.take_length] at hown
      clear HH
      have hgt : ¬ (((s.size + 1 : Nat) : Int) ≤ (s.size : Int)) := by omega
      go_wp2_with fail
      go_ret
      exact ⟨⟨_, rfl, hown⟩, HB.out⟩
end Go.Proofs.YtlcmcknbbmokjaaGreat
