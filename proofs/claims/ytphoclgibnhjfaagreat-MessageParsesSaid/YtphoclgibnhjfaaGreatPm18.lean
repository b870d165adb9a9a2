/- The iterator over the lines of a text: its contract for every loop body. · Contract of the reference's pieces and of ended: the lines of a text. · Contract of the reference's ended: a line of text without its line feed. · Contract of the reference's fits: a word can be the field. -/
import Derived.Test.YtphoclgibnhjfaaGreatPm1
import Derived.Test.YtphoclgibnhjfaaGreatPm8
import Derived.Test.YtphoclgibnhjfaaGreatPm17
import Derived.Test.YtphoclgibnhjfaaGreatPm9
import Derived.Test.YtphoclgibnhjfaaGreatPm11
namespace Go.Proofs.YtphoclgibnhjfaaGreat
open Go Go.RowKit Go.Shelf
attribute [local go_sem] Oper.semAt_some
theorem kpZ_refl (B : Nat) (W : World) : KpZ B W W := ⟨rfl, Nat.le_refl _⟩
theorem kpZ_trans {B : Nat} {W1 W2 W3 : World} (h : KpZ B W1 W2) (k : KpZ B W2 W3) : KpZ B W1 W3 := ⟨k.1.trans h.1, Nat.le_trans h.2 k.2⟩
theorem KpZ.cell {B o : Nat} {W W' : World} {v : Value} (h : KpZ B W W') (hc : W.cell? ⟨B, o, none⟩ = some v) : W'.cell? ⟨B, o, none⟩ = some v := (World.cell?_of_block (w := W) (a := ⟨B, o, none⟩) h.1).trans hc
theorem KpZ.frozen {B o : Nat} {W W' : World} (h : KpZ B W W') (hc : W.frozen? ⟨B, o, none⟩ = false) : W'.frozen? ⟨B, o, none⟩ = false := (frozen_of_blk h.1).trans hc
theorem kpZ_b {B : Nat} {w : World} (h : B < w.heap.size) (W : World) (l : Nat) (o o' : Obj) (hl : w.heap.size ≤ l) (ho : W.heap[l]? = some o) (h1 : o.isCells = false) (h2 : o.isWalk = false) : KpZ B W (W.putObj l o') :=
  have k : KpB B W (W.putObj l o') := kpB_b h W l o o' hl ho h1 h2
  ⟨k.1, k.2⟩
theorem abides_set {β : Type} {Bn B : Nat} {J : β → World → Prop} (h : AbidesBox Bn B J) {s : β} {W : World} (v : Value) (hs : J s W) : J s (W.setCell ⟨Bn, 0, none⟩ v) :=
  h s W _ (some Bn) hs (grownBy_setCell' W Bn v) (fun r e => .inl (by cases e; rfl))
/-- How long the text is that a box holds. -/
def leftZ (Bn : Nat) (W : World) : Nat := match W.cell? ⟨Bn, 0, none⟩ with | some (.string r) => r.size | _ => 0
theorem leftZ_eq {Bn : Nat} {W : World} {r : ByteArray} (h : W.cell? ⟨Bn, 0, none⟩ = some (.string r)) : leftZ Bn W = r.size := by unfold leftZ; rw [h]
theorem pcs_drop {s r : ByteArray} {k : Nat} (h : (pcs s).drop k = pcs r) (hr : 0 < r.size) : ∃ _ : k < (pcs s).length, (pcs s).getD k default = (takeL r).1 ∧ (pcs s).drop (k + 1) = pcs (takeL r).2 := by
  rw [pcs_some hr] at h
  have hk : k < (pcs s).length := by
    rcases Nat.lt_or_ge k (pcs s).length with h1 | h1
    · exact h1
    · rw [List.drop_eq_nil_of_le h1] at h; cases h
  rw [List.drop_eq_getElem_cons hk] at h
  injection h with h1 h2
  exact ⟨hk, by rw [List.getD_eq_getElem?_getD, List.getElem?_eq_getElem hk]; exact h1, h2⟩
theorem pcs_end {s r : ByteArray} {k : Nat} (h : (pcs s).drop k = pcs r) (hr : r.size = 0) (hk : k ≤ (pcs s).length) : k = (pcs s).length := by
  rw [pcs_none hr] at h
  have := List.drop_eq_nil_iff.1 h
  omega
theorem takeL_rest_le (r : ByteArray) : (takeL r).2.size ≤ r.size := by
  rcases Nat.eq_zero_or_pos r.size with h | h
  · unfold takeL
    split
    · exact Nat.zero_le _
    · simp [ByteArray.size_extract]
  · exact Nat.le_of_lt (takeL_rest r h)
/-- The two ways in which a line is cut off. -/
theorem takeL_ways (r : ByteArray) : (feedAt r = -1 ∧ takeL r = (r, ⟨#[]⟩)) ∨ ∃ k : Nat, feedAt r = k ∧ k < r.size ∧ takeL r = (r.extract 0 (k + 1), r.extract (k + 1) r.size) := by
  rcases feed_cases r with ⟨h, -⟩ | ⟨k, h, hk, -⟩
  · exact .inl ⟨h, by unfold takeL; rw [if_pos (by omega)]⟩
  · exact .inr ⟨k, h, hk, by unfold takeL; rw [if_neg (by omega), h, Int.toNat_natCast]⟩
set_option maxRecDepth 100000 in
set_option maxHeartbeats 1000000 in
theorem lines1_in (n l Bn : Nat) (hn : 1 ≤ n) (s : ByteArray) (hs : s.size ≤ 100000) (J Jx : List (Fin (pcs s).length) → World → Prop) (W : World)
    (hJ : AbidesBox Bn W.heap.size J)
    (hY : ∀ pre (x : Fin (pcs s).length) W1, J pre W1 → pre.length < (pcs s).length → YieldAt Fence.wide (n - 1) Tryz.prog l #[.string ((pcs s).getD x.1 default)] W1 fun e W' =>
      (e = .returned (.bool true) ∧ J (pre ++ [x]) W' ∧ KpZ Bn W1 W') ∨ (e = .returned (.bool false) ∧ Jx (pre ++ [x]) W'))
    (c0 : W.cell? ⟨Bn, 0, none⟩ = some (.string s)) (f0 : W.frozen? ⟨Bn, 0, none⟩ = false) (h0 : J [] W) :
    CallsIn Fence.wide n Tryz.prog 168 #[.func (.yield l) #[] #[], .pointer (some ⟨Bn, 0, none⟩)] W fun e W' => (∃ v, e = .returned v) ∧
      ((∃ ys, ys = List.finRange (pcs s).length ∧ J ys W') ∨ (∃ pre, pre <+: List.finRange (pcs s).length ∧ Jx pre W')) := by
  have HPD : Hid (∀ k r, (pcs s).drop k = pcs r → 0 < r.size → ∃ _ : k < (pcs s).length, (pcs s).getD k default = (takeL r).1 ∧ (pcs s).drop (k + 1) = pcs (takeL r).2) := Lib.hid fun k r h hr => pcs_drop h hr
  have HPE : Hid (∀ k r, (pcs s).drop k = pcs r → r.size = 0 → k ≤ (pcs s).length → k = (pcs s).length) := Lib.hid fun k r h hr hk => pcs_end h hr hk
  have HFT := Lib.hid (fin_take (pcs s).length)
  generalize hps : pcs s = ps at *
  have HPS := Lib.hid hps
  clear hps
  refine callsIn_of_wp Tryz.func168 rfl trivial ?_
  simp only [Tryz.ntmps168, List.size_toArray, List.length_cons, List.length_nil, Nat.reduceAdd, Nat.reduceSub, Array.replicate_succ, Array.replicate_zero, List.push_toArray, List.append_toArray, List.nil_append, List.cons_append]
  gi_wp2
  gi_loopw [3, 4] (fun _ _ wr => ∃ (k : Nat) (r : ByteArray), k ≤ ps.length ∧ r.size ≤ 100000 ∧ Hid (ps.drop k = pcs r) ∧ wr.cell? ⟨Bn, 0, none⟩ = some (.string r) ∧ wr.frozen? ⟨Bn, 0, none⟩ = false ∧ J ((List.finRange ps.length).take k) wr ∧ W.heap.size ≤ wr.heap.size) (fun _ _ wr => leftZ Bn wr)
  case atStart => exact ⟨0, s, Nat.zero_le _, hs, Lib.hid (by rw [HPS.out]; rfl), c0, f0, by simpa using h0, Nat.le_refl _⟩
  case round =>
    obtain ⟨k, r, hk, hrs, HD, hc, hf, hJk, hsz⟩ := hrel
    by_cases hr : 0 < r.size
    · have hb : (0 : Int) < r.size := by omega
      obtain ⟨hlt, hx, hd⟩ := HPD.out k r HD.out hr
      have HTK := Lib.hid (HFT.out k hlt)
      have HX := Lib.hid hx
      have HDD := Lib.hid hd
      have hlen : ((List.finRange ps.length).take k).length < ps.length := by simp; omega
      have hix : ∀ w, Calls Tryz.prog 169 #[.string r, .int .u8 10] w fun e w' => e = .returned (.int .i64 (feedAt r)) ∧ w' = w := fun w => Tryz.strings_IndexByte r 10 w
      clear hx hd
      rcases takeL_ways r with ⟨hfe, ht⟩ | ⟨m, hfe, hm, ht⟩
      · rw [hfe] at hix
        have hJ2 : J ((List.finRange ps.length).take k) (wr.setCell ⟨Bn, 0, none⟩ (.string ⟨#[]⟩)) := abides_set hJ _ hJk
        obtain ⟨fn, tmps, assign, body, hy, hR⟩ := hY _ ⟨k, hlt⟩ _ hJ2 hlen
        dsimp only at hy
        rw [HX.out, ht] at hy
        dsimp only at hy
        gi_wp2
        refine ⟨trivial, ?_⟩
        refine (callsIn_wide.2 (hix _)).mono ?_
        rintro e w1 ⟨rfl, rfl⟩
        gi_wp2
        refine hR.mono ?_
        rintro e W3 (⟨rfl, hJ3, hk3⟩ | ⟨rfl, hJx3⟩)
        · gi_wp2
          go_roundw
          case rel => exact ⟨k + 1, ⟨#[]⟩, by omega, Nat.zero_le _, Lib.hid (by rw [HDD.out, ht]), hk3.cell (set_same hc), hk3.frozen (by rw [World.frozen?_setCell]; exact hf), by rw [HTK.out]; exact hJ3, by have := hk3.2; rw [set_size] at this; omega⟩
          case measure => rw [leftZ_eq (hk3.cell (set_same hc)), leftZ_eq hc]; exact hr
        · gi_wp2
          refine bodyPost_ret (results_none rfl _ _ _) rfl ?_
          exact ⟨⟨_, rfl⟩, .inr ⟨_, by rw [← HTK.out]; exact List.take_prefix _ _, hJx3⟩⟩
      · rw [hfe] at hix
        have hJ2 : J ((List.finRange ps.length).take k) (wr.setCell ⟨Bn, 0, none⟩ (.string (r.extract (m + 1) r.size))).drew := hJ _ _ _ none (abides_set hJ (.string (r.extract (m + 1) r.size)) hJk) ⟨rfl, rfl, rfl, Nat.le_refl _, fun _ _ _ => rfl⟩ (fun r e => by cases e)
        obtain ⟨fn, tmps, assign, body, hy, hR⟩ := hY _ ⟨k, hlt⟩ _ hJ2 hlen
        dsimp only at hy
        rw [HX.out, ht] at hy
        dsimp only at hy
        have b0 : (0 : Int) ≤ m := by omega
        have b1 : (m : Int) + 1 ≤ r.size := by omega
        have b2 : (m : Int) + 1 ≤ 100001 := by omega
        have b3 : ((m : Int) + 1).toNat = m + 1 := by omega
        gi_wp2
        refine ⟨trivial, ?_⟩
        refine (callsIn_wide.2 (hix _)).mono ?_
        rintro e w1 ⟨rfl, rfl⟩
        gi_wp2
        gi_region
        all_goals gi_wp2
        refine hR.mono ?_
        rintro e W3 (⟨rfl, hJ3, hk3⟩ | ⟨rfl, hJx3⟩)
        · have HC3 : Hid (W3.cell? ⟨Bn, 0, none⟩ = some (.string (r.extract (m + 1) r.size))) := Lib.hid (hk3.cell (set_same hc))
          have HF3 : Hid (W3.frozen? ⟨Bn, 0, none⟩ = false) := Lib.hid (hk3.frozen (by show (w1.setCell ⟨Bn, 0, none⟩ (.string (r.extract (m + 1) r.size))).frozen? ⟨Bn, 0, none⟩ = false; rw [World.frozen?_setCell]; exact hf))
          have HS3 : Hid (W.heap.size ≤ W3.heap.size) := Lib.hid (Nat.le_trans (by rw [← set_size w1 ⟨Bn, 0, none⟩ (.string (r.extract (m + 1) r.size))] at hsz; exact hsz) hk3.2)
          gi_wp2
          go_roundw
          case rel => exact ⟨k + 1, r.extract (m + 1) r.size, by omega, by simp [ByteArray.size_extract]; omega, Lib.hid (by rw [HDD.out, ht]), HC3.out, HF3.out, by rw [HTK.out]; exact hJ3, HS3.out⟩
          case measure => rw [leftZ_eq HC3.out, leftZ_eq hc]; simp [ByteArray.size_extract]; omega
        · gi_wp2
          refine bodyPost_ret (results_none rfl _ _ _) rfl ?_
          exact ⟨⟨_, rfl⟩, .inr ⟨_, by rw [← HTK.out]; exact List.take_prefix _ _, hJx3⟩⟩
    · obtain rfl : k = ps.length := HPE.out k r HD.out (by omega) hk
      have hb : ¬ (0 : Int) < r.size := by omega
      gi_wp2
      go_end0
      rw [List.take_of_length_le (by simp)] at hJk
      exact ⟨⟨_, rfl⟩, .inl hJk⟩
/-- The iterator, for every loop body that keeps its block. -/
theorem lines_stops (n : Nat) (hn : 1 ≤ n) (Bn : Nat) (s : ByteArray) (hs : s.size ≤ 100000) (w : World) (c0 : w.cell? ⟨Bn, 0, none⟩ = some (.string s)) (f0 : w.frozen? ⟨Bn, 0, none⟩ = false) :
    SeqBox Fence.wide n Tryz.prog 168 #[.pointer (some ⟨Bn, 0, none⟩)] (fun x : Fin (pcs s).length => #[Value.string ((pcs s).getD x.1 default)]) (KpZ Bn) (fun ys => ys = List.finRange (pcs s).length) (fun pre => pre <+: List.finRange (pcs s).length) (pcs s).length Bn w := fun l J Jx W hW hJ _ hY h0 =>
  lines1_in n l Bn hn s hs J Jx W hJ hY (hW.cell c0) (hW.frozen f0) h0
theorem Lines_any (s : ByteArray) (w : World) : Calls Tryz.prog 105 #[.string s] w fun e w' => e = .returned (.func (.func 168) #[] #[.pointer (some ⟨w.heap.size, 0, none⟩)]) ∧ w'.cell? ⟨w.heap.size, 0, none⟩ = some (.string s) ∧ w'.frozen? ⟨w.heap.size, 0, none⟩ = false ∧ w'.heap.size = w.heap.size + 1 ∧ Below w.heap.size w w' := by
  have R := RowV.new w [.string s] 9
  have HX := Lib.hid (And.intro (R.c 0 (Nat.lt_succ_self 0)) (And.intro (R.f 0 (Nat.lt_succ_self 0)) (And.intro (World.size_alloc w (.cells #[.string s] 9)) (below_alloc w (.cells #[.string s] 9)))))
  clear R
  go_enter Tryz.func105, Tryz.ntmps105
  go_wp2_with fail
  go_ret
  exact ⟨rfl, HX.out.1, HX.out.2.1, HX.out.2.2.1, HX.out.2.2.2⟩
end Go.Proofs.YtphoclgibnhjfaaGreat
namespace Go.Proofs.YtphoclgibnhjfaaGreat
open Go Go.RowKit Go.ChangeMaps Go.MapKept
theorem CurL.short {s : ByteArray} {i a : Nat} {out : List ByteArray} (h : CurL s i a out) : out.length ≤ s.size := by
  have h1 := pcs_len s.size s (Nat.le_refl _)
  rw [h.eq] at h1
  simp at h1; omega
theorem flatS_app (l : List ByteArray) (x : ByteArray) : flatG strC (l ++ [x]) = flatG strC l ++ [.string x] := by
  simp [flatG, strC]
set_option maxRecDepth 100000 in
set_option maxHeartbeats 4000000 in
theorem pieces_any (s : ByteArray) (hs : s.size ≤ 100000) (w : World) :
    Calls Tryz.prog 54 #[.string s] w fun e w' => SlR strC 1 9 e w' w.heap.size (pcs s) ∧ Below w.heap.size w w' := by
  obtain ⟨i0, hi, hz0, hz1, hz2⟩ := strInfo
  have HC0 : Hid (CurL s 0 0 []) := Lib.hid (CurL.zero s)
  have HSK := Lib.hid (fun i a o (h : CurL s i a o) => h.skip)
  have HWD := Lib.hid (fun i a o (h : CurL s i a o) => h.line)
  have HLS := Lib.hid (fun a o (h : CurL s s.size a o) => h.last)
  have HDN := Lib.hid (fun a o (h : CurL s s.size a o) => h.done)
  have HSH := Lib.hid (fun i a o (h : CurL s i a o) => h.short)
  generalize pcs s = sp at *
  go_enter Tryz.func54, Tryz.ntmps54
  go_wp2_with fail
  go_loopw [3, 4, 5] (fun v3 v4 v5 wr => ∃ (i a : Nat) (o : List ByteArray), v5 = .int .i64 i ∧ v4 = .int .i64 a ∧ i ≤ s.size ∧ a ≤ i ∧ wr.ownsRow w.heap.size 9 1 v3 o.length (flatG strC o) ∧ Hid (CurL s i a o) ∧ Hid (Below w.heap.size w wr)) (fun _ _ v5 _ => s.size - (intOf v5).toNat)
  case atStart => exact ⟨0, 0, [], rfl, rfl, Nat.zero_le _, Nat.zero_le _, World.ownsRow_nil _ _ _ _, HC0, Lib.hid (Below.refl _ _)⟩
  case round =>
    obtain ⟨i, a, o, rfl, rfl, hi1, ha1, hown, HC, HB⟩ := hrel
    have hsz := HB.out.size
    have hol := HSH.out i a o HC.out
    have hlen := flatG_len (f := strC) (k := 1) (fun _ => rfl) o
    by_cases hlt : i < s.size
    · have b0 : (i : Int) < s.size := by omega
      have hget : s.data.toList[i]? = some (s[i]'hlt) := by
        rw [Array.getElem?_toList, Array.getElem?_eq_getElem (show i < s.data.size from hlt)]; rfl
      by_cases h32 : s[i]'hlt = 10
      · have b2 : (a : Int) ≤ i + 1 := by omega
        have b3 : (i : Int) + 1 ≤ s.size := by omega
        have b4 : (0 : Int) ≤ (i : Int) + 1 := by omega
        have b5 : ((i : Int) + 1).toNat = i + 1 := by omega
        have hc2 := HWD.out i a o HC.out hlt (by rw [hget, h32])
        have h8 : ((((s[i]'hlt).toNat : Nat) : Int) == 10) = true := by rw [h32]; rfl
        have HF : Hid (flatG strC (o ++ [s.extract a (i + 1)]) = flatG strC o ++ [.string (s.extract a (i + 1))]) := Lib.hid (flatS_app _ _)
        have HA := Lib.hid (hown.alloc (.cells #[.string (s.extract a (i + 1))] 9))
        have HNB : Hid ((wr.alloc (.cells #[.string (s.extract a (i + 1))] 9)).heap[wr.heap.size]? = some (.cells #[.string (s.extract a (i + 1))] 9 (0, 0))) := Lib.hid (heap_new _ _)
        go_wp2_with (at_builtin; refine Hid.out ?_)
        refine Lib.hid ?_
        refine wpList_append_own _ rfl _ _ 115 rfl w.heap.size 9 i0 (.string ⟨#[]⟩) 1 16 Tryz.underlying115 hi hz0 hz1 hz2 rfl (by decide) _ o.length _ rfl HA.out ⟨wr.heap.size, 0, none⟩ 1 1 [.string (s.extract a (i + 1))] rfl rfl
          (World.news_of_block (cs := #[.string (s.extract a (i + 1))]) (t := 9) (fr := (0, 0)) HNB.out) (by simp [Value.oneCell']) (by unfold maxLen; omega) (by omega) (by simp; omega) ?_
        intro v' w4 hown' hgrow _
        have hb4 : Below w.heap.size w w4 := (HB.out.alloc hsz _).grown hgrow (by simp; omega) (pr_blk HA.out)
        rw [show flatG strC o ++ [.string (s.extract a (i + 1))] = flatG strC (o ++ [s.extract a (i + 1)]) from HF.out.symm] at hown'
        clear hgrow HA HNB hown
        go_wp2_with fail
        refine ⟨⟨i + 1, i + 1, o ++ [s.extract a (i + 1)], by go_num, by go_num, by omega, by omega, by simpa using hown', Lib.hid hc2, Lib.hid hb4⟩, by simp [intOf]; omega⟩
      · have hsk := HSK.out i a o HC.out (by rw [hget]; simpa using h32)
        have h8 : ((((s[i]'hlt).toNat : Nat) : Int) == 10) = false := by
          have : (s[i]'hlt).toNat ≠ 10 := fun e => h32 (UInt8.toNat_inj.1 e)
          simp; omega
        go_wp2_with fail
        refine ⟨⟨i + 1, a, o, by go_num, rfl, by omega, by omega, hown, Lib.hid hsk, HB⟩, by simp [intOf]; omega⟩
    · obtain rfl : i = s.size := by omega
      have b0 : ¬ (s.size : Int) < s.size := by omega
      by_cases hal : a < s.size
      · have b1 : (a : Int) < s.size := by omega
        have hw := HLS.out a o HC.out hal
        have HF : Hid (flatG strC sp = flatG strC o ++ [.string (s.extract a s.size)]) := Lib.hid (by rw [hw, flatS_app])
        have HLN : Hid (sp.length = o.length + 1) := Lib.hid (by rw [hw]; simp)
        have HA := Lib.hid (hown.alloc (.cells #[.string (s.extract a s.size)] 9))
        have HNB : Hid ((wr.alloc (.cells #[.string (s.extract a s.size)] 9)).heap[wr.heap.size]? = some (.cells #[.string (s.extract a s.size)] 9 (0, 0))) := Lib.hid (heap_new _ _)
        clear hw
        go_wp2_with (at_builtin; refine Hid.out ?_)
        refine Lib.hid ?_
        refine wpList_append_own _ rfl _ _ 115 rfl w.heap.size 9 i0 (.string ⟨#[]⟩) 1 16 Tryz.underlying115 hi hz0 hz1 hz2 rfl (by decide) _ o.length _ rfl HA.out ⟨wr.heap.size, 0, none⟩ 1 1 [.string (s.extract a s.size)] rfl rfl
          (World.news_of_block (cs := #[.string (s.extract a s.size)]) (t := 9) (fr := (0, 0)) HNB.out) (by simp [Value.oneCell']) (by unfold maxLen; omega) (by omega) (by simp; omega) ?_
        intro v' w4 hown' hgrow _
        have hb4 : Below w.heap.size w w4 := (HB.out.alloc hsz _).grown hgrow (by simp; omega) (pr_blk HA.out)
        rw [show flatG strC o ++ [.string (s.extract a s.size)] = flatG strC sp from HF.out.symm] at hown'
        have hln := HLN.out
        clear hgrow HA HNB hown HF
        go_wp2_with fail
        go_ret
        exact ⟨⟨_, rfl, by rw [hln]; simpa using hown'⟩, hb4⟩
      · have b1 : ¬ (a : Int) < s.size := by omega
        have hw := HDN.out a o HC.out hal
        go_wp2_with fail
        go_ret
        exact ⟨⟨_, rfl, hown⟩, HB.out⟩
end Go.Proofs.YtphoclgibnhjfaaGreat
namespace Go.Proofs.YtphoclgibnhjfaaGreat
open Go Go.RowKit Go.ChangeMaps Go.MapKept
/-- A line of text has its line feed. -/
def wholeB (s : ByteArray) : Bool := s.data.toList.getLast? == some 10
/-- A line of text without its line feed. -/
def bareL (s : ByteArray) : ByteArray := if wholeB s then s.extract 0 (s.size - 1) else s
theorem wholeB_none {s : ByteArray} (h : s.size = 0) : wholeB s = false := by
  unfold wholeB
  have : s.data.toList = [] := List.eq_nil_of_length_eq_zero (by simpa using h)
  rw [this]; rfl
theorem wholeB_last {s : ByteArray} (h : s.size - 1 < s.size) : wholeB s = (s[s.size - 1]'h == 10) := by
  unfold wholeB
  rw [List.getLast?_eq_getElem?]
  have e : s.data.toList.length = s.size := by simp
  rw [e, Array.getElem?_toList, Array.getElem?_eq_getElem (show s.size - 1 < s.data.size from h)]
  rfl
set_option maxRecDepth 100000 in
theorem ended_any (s : ByteArray) (hs : s.size ≤ 100000) (w : World) :
    Calls Tryz.prog 56 #[.string s] w fun e w' => e = .returned (.tuple #[.string (bareL s), .bool (wholeB s)]) ∧ w' = w := by
  by_cases h0 : s.size = 0
  · have hb : ((s.size : Int) == 0) = true := by simp [h0]
    have HW : Hid (wholeB s = false) := Lib.hid (wholeB_none h0)
    have HL : Hid (bareL s = s) := Lib.hid (by unfold bareL; rw [wholeB_none h0]; rfl)
    clear h0
    go_enter Tryz.func56, Tryz.ntmps56
    go_wp2_with fail
    go_ret2
    rw [HW.out, HL.out]
    exact ⟨rfl, rfl⟩
  · have hb : ((s.size : Int) == 0) = false := by rw [beq_eq_false_iff_ne]; omega
    have b1 : (0 : Int) ≤ (s.size : Int) - 1 := by omega
    have b2 : (s.size : Int) - 1 < s.size := by omega
    have b2' : (s.size : Int) - 1 ≤ s.size := by omega
    have b3 : ((s.size : Int) - 1).toNat = s.size - 1 := by clear hb; omega
    have b4 : s.size - 1 < s.size := by clear hb b3; omega
    have HW : Hid (wholeB s = (s[s.size - 1]'b4 == 10)) := Lib.hid (wholeB_last b4)
    by_cases h10 : s[s.size - 1]'b4 = 10
    · have h8 : ((((s[s.size - 1]'b4).toNat : Nat) : Int) != 10) = false := by rw [h10]; rfl
      have HWt : Hid (wholeB s = true) := Lib.hid (by rw [HW.out, h10]; rfl)
      have HL : Hid (bareL s = s.extract 0 (s.size - 1)) := Lib.hid (by unfold bareL; rw [HWt.out]; rfl)
      clear h0
      go_enter Tryz.func56, Tryz.ntmps56
      go_wp2_with fail
      go_ret2
      rw [HWt.out, HL.out]
      exact ⟨rfl, rfl⟩
    · have h8 : ((((s[s.size - 1]'b4).toNat : Nat) : Int) != 10) = true := by
        have : (s[s.size - 1]'b4).toNat ≠ 10 := fun e => h10 (UInt8.toNat_inj.1 e)
        rw [bne_iff_ne]; omega
      have HWf : Hid (wholeB s = false) := Lib.hid (by rw [HW.out]; simpa using h10)
      have HL : Hid (bareL s = s) := Lib.hid (by unfold bareL; rw [HWf.out]; rfl)
      clear h0
      go_enter Tryz.func56, Tryz.ntmps56
      go_wp2_with fail
      go_ret2
      rw [HWf.out, HL.out]
      exact ⟨rfl, rfl⟩
end Go.Proofs.YtphoclgibnhjfaaGreat
namespace Go.Proofs.YtphoclgibnhjfaaGreat
open Go Go.RowKit Ev
theorem qNumK_ge (t : ByteArray) (K : Nat) (h5 : K ≤ 5) : decide ((0 : Int) ≤ qNumK t K) = decide (allK t K) := by
  unfold qNumK
  by_cases h : allK t K
  · rw [if_pos h]
    have := (nv_bdK t K h5 h.2).1
    simp [h, this]
  · rw [if_neg h]; simp [h]
theorem qpm_ge (t : ByteArray) : decide ((0 : Int) ≤ qpm t) = decide (pmOk t) := by
  unfold qpm
  by_cases h : pmOk t
  · rw [if_pos h]
    have := (nv_bdK t 4 (by decide) h.1.2).1
    have : 0 ≤ pmVal t := by unfold pmVal; omega
    simp [h, this]
  · rw [if_neg h]; simp [h]
set_option maxRecDepth 100000 in
theorem fits0 (t : ByteArray) (w : World) : Calls Tryz.prog 113 #[.int .i64 0, .string t] w fun e w' => e = .returned (.bool (rdOk 0 t)) ∧ Below w.heap.size w w' := by
  have HA : Hid (rdOk 0 t = (asksB t.data.toList || repliesB t.data.toList)) := Lib.hid rfl
  have ha := asks_any t
  have hr := replies_any t
  generalize repliesB t.data.toList = r at *
  cases h : asksB t.data.toList
  · rw [h] at ha HA
    go_enter Tryz.func113, Tryz.ntmps113
    go_wp2_with fail
    refine (ha _).mono ?_
    rintro e w1 ⟨rfl, hb1⟩
    go_wp2_with fail
    refine (hr _).mono ?_
    rintro e w2 ⟨rfl, hb2⟩
    go_wp2_with fail
    go_ret
    exact ⟨by rw [HA.out]; rfl, b_then hb1 hb2⟩
  · rw [h] at ha HA
    go_enter Tryz.func113, Tryz.ntmps113
    go_wp2_with fail
    refine (ha _).mono ?_
    rintro e w1 ⟨rfl, hb1⟩
    go_wp2_with fail
    go_ret
    exact ⟨by rw [HA.out]; rfl, hb1⟩
set_option maxRecDepth 100000 in
theorem fits1 (t : ByteArray) (w : World) : Calls Tryz.prog 113 #[.int .i64 1, .string t] w fun e w' => e = .returned (.bool (rdOk 1 t)) ∧ Below w.heap.size w w' := by
  have HA : Hid (rdOk 1 t = decide (isName t)) := Lib.hid rfl
  go_enter Tryz.func113, Tryz.ntmps113
  go_wp2_with fail
  refine (qIsName_any t _).mono ?_
  rintro e w1 ⟨rfl, hb1⟩
  go_wp2_with fail
  go_ret
  exact ⟨by rw [HA.out]; rfl, hb1⟩
set_option maxRecDepth 100000 in
theorem fits2 (t : ByteArray) (w : World) : Calls Tryz.prog 113 #[.int .i64 2, .string t] w fun e w' => e = .returned (.bool (rdOk 2 t)) ∧ Below w.heap.size w w' := by
  have HA : Hid (rdOk 2 t = decide (isName t)) := Lib.hid rfl
  go_enter Tryz.func113, Tryz.ntmps113
  go_wp2_with fail
  refine (qIsName_any t _).mono ?_
  rintro e w1 ⟨rfl, hb1⟩
  go_wp2_with fail
  go_ret
  exact ⟨by rw [HA.out]; rfl, hb1⟩
set_option maxRecDepth 100000 in
theorem fits3 (t : ByteArray) (w : World) : Calls Tryz.prog 113 #[.int .i64 3, .string t] w fun e w' => e = .returned (.bool (rdOk 3 t)) ∧ Below w.heap.size w w' := by
  have HA : Hid (rdOk 3 t = (t.toList == [65] || t.toList == [68])) := Lib.hid rfl
  cases h : (t.toList == [65])
  · rw [h] at HA
    go_enter Tryz.func113, Tryz.ntmps113
    go_wp2_with fail
    go_ret
    exact ⟨by rw [HA.out]; rfl, Below.refl _ _⟩
  · rw [h] at HA
    go_enter Tryz.func113, Tryz.ntmps113
    go_wp2_with fail
    go_ret
    exact ⟨by rw [HA.out]; rfl, Below.refl _ _⟩
set_option maxRecDepth 100000 in
theorem fits4 (t : ByteArray) (w : World) : Calls Tryz.prog 113 #[.int .i64 4, .string t] w fun e w' => e = .returned (.bool (rdOk 4 t)) ∧ Below w.heap.size w w' := by
  have HA : Hid (rdOk 4 t = decide (isName t)) := Lib.hid rfl
  go_enter Tryz.func113, Tryz.ntmps113
  go_wp2_with fail
  refine (qIsName_any t _).mono ?_
  rintro e w1 ⟨rfl, hb1⟩
  go_wp2_with fail
  go_ret
  exact ⟨by rw [HA.out]; rfl, hb1⟩
set_option maxRecDepth 100000 in
theorem fits5 (t : ByteArray) (w : World) : Calls Tryz.prog 113 #[.int .i64 5, .string t] w fun e w' => e = .returned (.bool (rdOk 5 t)) ∧ Below w.heap.size w w' := by
  have HA : Hid (rdOk 5 t = decide ((0 : Int) ≤ qNumK t 5)) := Lib.hid (qNumK_ge t 5 (by decide)).symm
  have hd := qdigitsK_any t 5 (by decide) (by decide)
  generalize qNumK t 5 = n at *
  go_enter Tryz.func113, Tryz.ntmps113
  go_wp2_with fail
  refine (hd _).mono ?_
  rintro e w1 ⟨rfl, rfl⟩
  go_wp2_with fail
  go_ret
  exact ⟨by rw [HA.out]; rfl, Below.refl _ _⟩
set_option maxRecDepth 100000 in
theorem fits6 (t : ByteArray) (w : World) : Calls Tryz.prog 113 #[.int .i64 6, .string t] w fun e w' => e = .returned (.bool (rdOk 6 t)) ∧ Below w.heap.size w w' := by
  have HA : Hid (rdOk 6 t = decide ((0 : Int) ≤ qNumK t 5)) := Lib.hid (qNumK_ge t 5 (by decide)).symm
  have hd := qdigitsK_any t 5 (by decide) (by decide)
  generalize qNumK t 5 = n at *
  go_enter Tryz.func113, Tryz.ntmps113
  go_wp2_with fail
  refine (hd _).mono ?_
  rintro e w1 ⟨rfl, rfl⟩
  go_wp2_with fail
  go_ret
  exact ⟨by rw [HA.out]; rfl, Below.refl _ _⟩
set_option maxRecDepth 100000 in
theorem fits7 (t : ByteArray) (w : World) : Calls Tryz.prog 113 #[.int .i64 7, .string t] w fun e w' => e = .returned (.bool (rdOk 7 t)) ∧ Below w.heap.size w w' := by
  have HA : Hid (rdOk 7 t = (pmErr t == 0)) := Lib.hid rfl
  have hd := qParseMask_any t
  generalize pmErr t = n at *
  go_enter Tryz.func113, Tryz.ntmps113
  go_wp2_with fail
  refine (hd _).mono ?_
  rintro e w1 ⟨rfl, rfl⟩
  go_wp2_with fail
  go_ret
  exact ⟨by rw [HA.out]; rfl, Below.refl _ _⟩
set_option maxRecDepth 100000 in
theorem fits8 (t : ByteArray) (w : World) : Calls Tryz.prog 113 #[.int .i64 8, .string t] w fun e w' => e = .returned (.bool (rdOk 8 t)) ∧ Below w.heap.size w w' := by
  have HA : Hid (rdOk 8 t = decide ((0 : Int) ≤ qpm t)) := Lib.hid (qpm_ge t).symm
  have hd := qParseMinute_any t
  generalize qpm t = n at *
  go_enter Tryz.func113, Tryz.ntmps113
  go_wp2_with fail
  refine (hd _).mono ?_
  rintro e w1 ⟨rfl, rfl⟩
  go_wp2_with fail
  go_ret
  exact ⟨by rw [HA.out]; rfl, Below.refl _ _⟩
set_option maxRecDepth 100000 in
theorem fits9 (t : ByteArray) (w : World) : Calls Tryz.prog 113 #[.int .i64 9, .string t] w fun e w' => e = .returned (.bool (rdOk 9 t)) ∧ Below w.heap.size w w' := by
  have HA : Hid (rdOk 9 t = decide ((0 : Int) ≤ qNumK t 3)) := Lib.hid (qNumK_ge t 3 (by decide)).symm
  have hd := qdigitsK_any t 3 (by decide) (by decide)
  generalize qNumK t 3 = n at *
  go_enter Tryz.func113, Tryz.ntmps113
  go_wp2_with fail
  refine (hd _).mono ?_
  rintro e w1 ⟨rfl, rfl⟩
  go_wp2_with fail
  go_ret
  exact ⟨by rw [HA.out]; rfl, Below.refl _ _⟩
set_option maxRecDepth 100000 in
theorem fits10 (t : ByteArray) (w : World) : Calls Tryz.prog 113 #[.int .i64 10, .string t] w fun e w' => e = .returned (.bool (rdOk 10 t)) ∧ Below w.heap.size w w' := by
  have HA : Hid (rdOk 10 t = decide ((0 : Int) ≤ qNumK t 1)) := Lib.hid (qNumK_ge t 1 (by decide)).symm
  have hd := qdigitsK_any t 1 (by decide) (by decide)
  generalize qNumK t 1 = n at *
  go_enter Tryz.func113, Tryz.ntmps113
  go_wp2_with fail
  refine (hd _).mono ?_
  rintro e w1 ⟨rfl, rfl⟩
  go_wp2_with fail
  go_ret
  exact ⟨by rw [HA.out]; rfl, Below.refl _ _⟩
set_option maxRecDepth 100000 in
theorem fits11 (t : ByteArray) (w : World) : Calls Tryz.prog 113 #[.int .i64 11, .string t] w fun e w' => e = .returned (.bool (rdOk 11 t)) ∧ Below w.heap.size w w' := by
  have HA : Hid (rdOk 11 t = decide ((0 : Int) ≤ qNumK t 2)) := Lib.hid (qNumK_ge t 2 (by decide)).symm
  have hd := qdigitsK_any t 2 (by decide) (by decide)
  generalize qNumK t 2 = n at *
  go_enter Tryz.func113, Tryz.ntmps113
  go_wp2_with fail
  refine (hd _).mono ?_
  rintro e w1 ⟨rfl, rfl⟩
  go_wp2_with fail
  go_ret
  exact ⟨by rw [HA.out]; rfl, Below.refl _ _⟩
set_option maxRecDepth 100000 in
theorem fits12 (t : ByteArray) (w : World) : Calls Tryz.prog 113 #[.int .i64 12, .string t] w fun e w' => e = .returned (.bool (rdOk 12 t)) ∧ Below w.heap.size w w' := by
  have HA : Hid (rdOk 12 t = (t.toList == [45] || decide (isName t))) := Lib.hid rfl
  cases h : (t.toList == [45])
  · rw [h] at HA
    go_enter Tryz.func113, Tryz.ntmps113
    go_wp2_with fail
    refine (qIsName_any t _).mono ?_
    rintro e w1 ⟨rfl, hb1⟩
    go_wp2_with fail
    go_ret
    exact ⟨by rw [HA.out]; rfl, hb1⟩
  · rw [h] at HA
    go_enter Tryz.func113, Tryz.ntmps113
    go_wp2_with fail
    go_ret
    exact ⟨by rw [HA.out]; rfl, Below.refl _ _⟩
set_option maxRecDepth 100000 in
theorem fits13 (t : ByteArray) (w : World) : Calls Tryz.prog 113 #[.int .i64 13, .string t] w fun e w' => e = .returned (.bool (rdOk 13 t)) ∧ Below w.heap.size w w' := by
  have HA : Hid (rdOk 13 t = (t.toList == [45] || decide (isName t))) := Lib.hid rfl
  cases h : (t.toList == [45])
  · rw [h] at HA
    go_enter Tryz.func113, Tryz.ntmps113
    go_wp2_with fail
    refine (qIsName_any t _).mono ?_
    rintro e w1 ⟨rfl, hb1⟩
    go_wp2_with fail
    go_ret
    exact ⟨by rw [HA.out]; rfl, hb1⟩
  · rw [h] at HA
    go_enter Tryz.func113, Tryz.ntmps113
    go_wp2_with fail
    go_ret
    exact ⟨by rw [HA.out]; rfl, Below.refl _ _⟩
theorem fitsK_any (k : Nat) (hk : k < 14) (t : ByteArray) (w : World) : Calls Tryz.prog 113 #[.int .i64 k, .string t] w fun e w' => e = .returned (.bool (rdOk k t)) ∧ Below w.heap.size w w' := by
  match k, hk with
  | 0, _ => exact fits0 t w
  | 1, _ => exact fits1 t w
  | 2, _ => exact fits2 t w
  | 3, _ => exact fits3 t w
  | 4, _ => exact fits4 t w
  | 5, _ => exact fits5 t w
  | 6, _ => exact fits6 t w
  | 7, _ => exact fits7 t w
  | 8, _ => exact fits8 t w
  | 9, _ => exact fits9 t w
  | 10, _ => exact fits10 t w
  | 11, _ => exact fits11 t w
  | 12, _ => exact fits12 t w
  | 13, _ => exact fits13 t w
theorem undashed_any (t : ByteArray) (w : World) : Calls Tryz.prog 115 #[.string t] w fun e w' => e = .returned (.string (undash t)) ∧ w' = w := by
  have HU : Hid (undash t = if t.toList == [45] then ⟨#[]⟩ else t) := Lib.hid rfl
  cases h : (t.toList == [45])
  · go_enter Tryz.func115, Tryz.ntmps115
    go_wp2_with fail
    go_ret
    exact ⟨by rw [HU.out, h]; rfl, rfl⟩
  · go_enter Tryz.func115, Tryz.ntmps115
    go_wp2_with fail
    go_ret
    exact ⟨by rw [HU.out, h]; rfl, rfl⟩
end Go.Proofs.YtphoclgibnhjfaaGreat
