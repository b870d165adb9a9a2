/- Contracts of the reference of chapter 4: terminals, sizes; the strings that were seen. · Contract of the reference's CheckStands. · Contracts of the reference of chapter 4: ShortStands; CheckStands at any slice. · Contract of the reference's CheckTurns. · Contracts of the reference of chapter 4: ShortTurns; CheckTurns at any slice. · Contract of the reference's CheckMovements. · Contracts of the reference of chapter 4: ShortMovements; CheckMovements at any slice. · Contract of the reference's CheckSeats. · Contracts of the reference of chapter 4: ShortSeats; CheckSeats at any slice. · Contract of the statements: turnround/turnroundlaw04.own, for every list. · Contract of the statements: turnround/turnroundlaw04.crew, for every list. · Contract of the statements: turnround/turnroundlaw04.limits, for every list. · A region that draws its order, with operations in its head that make memory of their own and may lean on what is known of those before them: of any two of them one waits for the other. One walk in the -/
import Derived.Test.YtkjhnemfebgcnaaGreatDoorGc1
import Derived.Test.YtkjhnemfebgcnaaGreatDoorGc2
import Derived.Deep.CutRange
namespace Go.Proofs.YtkjhnemfebgcnaaGreatDoor
open Go Go.RowKit
theorem rTerm_any (s : ByteArray) (w : World) : Calls Tryz.prog 87 #[.string s] w fun r w' => r = .returned (.int .i64 (termE s)) ∧ Below w.heap.size w w' := by
  cases h : (s.toList == [])
  · cases hn : decide (isName s)
    · have HO : Hid (termE s = 1) := Lib.hid (by unfold termE; rw [h, hn]; rfl)
      have hq := qIsName_any s
      rw [hn] at hq
      go_enter Tryz.func87, Tryz.ntmps87
      go_wp2_with fail
      refine (hq _).mono ?_
      rintro e w1 ⟨rfl, hb⟩
      go_wp2_with fail
      go_ret
      exact ⟨by rw [HO.out]; rfl, hb⟩
    · have HO : Hid (termE s = 0) := Lib.hid (by unfold termE; rw [h, hn]; rfl)
      have hq := qIsName_any s
      rw [hn] at hq
      go_enter Tryz.func87, Tryz.ntmps87
      go_wp2_with fail
      refine (hq _).mono ?_
      rintro e w1 ⟨rfl, hb⟩
      go_wp2_with fail
      go_ret
      exact ⟨by rw [HO.out]; rfl, hb⟩
  · have HO : Hid (termE s = 0) := Lib.hid (by unfold termE; rw [h]; rfl)
    go_enter Tryz.func87, Tryz.ntmps87
    go_wp2_with fail
    go_ret
    exact ⟨by rw [HO.out]; rfl, Below.refl _ _⟩
theorem rSize_any (n : Int) (w : World) : Calls Tryz.prog 86 #[.int .i64 n] w fun r w' => r = .returned (.int .i64 (rng n 1 9)) ∧ w' = w := by
  go_enter Tryz.func86, Tryz.ntmps86
  go_wp2_with fail
  refine (gRange_any _ _ _ _).mono ?_
  rintro e w' ⟨rfl, rfl⟩
  go_wp2_with fail
  go_ret
  exact ⟨rfl, rfl⟩
/-- The strings that were seen. -/
def seenL (l : List ByteArray) : ByteArray → Bool := l.foldl onceStep fun _ => false
theorem seenL_snoc (l : List ByteArray) (s : ByteArray) : seenL (l ++ [s]) = onceStep (seenL l) s := by simp [seenL]
theorem seenL_iff (z : ByteArray) : ∀ (l : List ByteArray) (S : ByteArray → Bool), l.foldl onceStep S z = true ↔ S z = true ∨ z ∈ l
  | [], S => by simp
  | s :: r, S => by
    rw [List.foldl_cons, seenL_iff z r]
    unfold onceStep
    by_cases h : z = s
    · subst h; simp
    · rw [if_neg h]; simp [h]
theorem seenL_mem (l : List ByteArray) (z : ByteArray) : seenL l z = true ↔ z ∈ l := by
  unfold seenL
  rw [seenL_iff]
  simp
theorem seenL_take {α : Type} [Inhabited α] (nm : α → ByteArray) (l : List α) (k : Nat) (h : k < l.length) : seenL ((l.take (k + 1)).map nm) = onceStep (seenL ((l.take k).map nm)) (nm (l.getD k default)) := by
  rw [List.take_succ_eq_append_getElem h, List.map_append, List.map_singleton, seenL_snoc]
  simp [List.getD_eq_getElem?_getD, List.getElem?_eq_getElem h]
theorem seenL_no {α : Type} [Inhabited α] (nm : α → ByteArray) (l : List α) (k : Nat) (hk : k ≤ l.length) (z : ByteArray) (h : ∀ j, j < k → nm (l.getD j default) ≠ z) : seenL ((l.take k).map nm) z = false := by
  rw [Bool.eq_false_iff]
  intro e
  rw [seenL_mem] at e
  obtain ⟨x, hx, rfl⟩ := List.mem_map.1 e
  obtain ⟨j, hj, rfl⟩ := List.getElem_of_mem hx
  rw [List.length_take] at hj
  refine h j (by omega) ?_
  simp [List.getD_eq_getElem?_getD, List.getElem?_eq_getElem (show j < l.length by omega)]
theorem seenL_yes {α : Type} [Inhabited α] (nm : α → ByteArray) (l : List α) (k j : Nat) (hk : k ≤ l.length) (hj : j < k) : seenL ((l.take k).map nm) (nm (l.getD j default)) = true := by
  rw [seenL_mem]
  refine List.mem_map.2 ⟨_, ?_, rfl⟩
  rw [List.getD_eq_getElem?_getD, List.getElem?_eq_getElem (show j < l.length by omega)]
  exact List.mem_take_iff_getElem.2 ⟨j, by omega, rfl⟩
theorem str_eq {s z : ByteArray} : (s.toList == z.toList) = true ↔ s = z :=
  ⟨fun h => ByteArray.ext (Array.toList_inj.1 (by rw [← ByteArray.toList_eq, ← ByteArray.toList_eq]; exact eq_of_beq h)), fun h => by rw [h]; simp⟩
end Go.Proofs.YtkjhnemfebgcnaaGreatDoor
namespace Go.Proofs.YtkjhnemfebgcnaaGreatDoor
open Go Go.RowKit Go.ChangeMaps Go.MapKept
theorem standE_name (S : ByteArray → Bool) (x : StandV) (h : decide (isName x.name) = false) : standE S x = 8 := by
  unfold standE nameE
  rw [h]; rfl
theorem standE_twice (S : ByteArray → Bool) (x : StandV) (h1 : decide (isName x.name) = true) (h2 : S x.name = true) : standE S x = 9 := by
  unfold standE nameE
  rw [h1, h2]; rfl
set_option maxRecDepth 100000 in
set_option maxHeartbeats 4000000 in
theorem refStands_some (l : List StandV) (b off cap : Nat) (w : World) (hl : RowsAt StandV.cells 3 w b off l) (h9 : l.length ≤ 5000) :
    Calls Tryz.prog 23 #[.slice (some ⟨b, off, none⟩) l.length cap] w fun e w' => e = .returned (.int .i64 (standsErr l)) ∧ Below w.heap.size w w' := by
  have HL := Lib.hid hl
  by_cases hm : 32 < l.length
  · have HE : Hid (standsErr l = 5) := Lib.hid (by unfold standsErr; rw [if_pos hm])
    have hmb : (32 : Int) < l.length := by omega
    clear hl
    go_enter Tryz.func23, Tryz.ntmps23
    go_wp2_with fail
    go_ret
    exact ⟨by rw [HE.out]; rfl, Below.refl _ _⟩
  · have hmb : ¬ (32 : Int) < l.length := by omega
    obtain ⟨R, hR⟩ : ∃ R, R = standsErr l := ⟨_, rfl⟩
    rw [← hR]
    have HR : Hid (R = listErr standE StandV.name l (seenL ((l.take 0).map StandV.name))) := Lib.hid (by rw [hR]; unfold standsErr; rw [if_neg hm]; rfl)
    clear hl hR hm
    go_enter Tryz.func23, Tryz.ntmps23
    go_wp2_with fail
    go_loopw [3, 4, 5] (fun v3 _ _ wr => ∃ (k : Nat), k ≤ l.length ∧ v3 = .int .i64 k ∧ Hid (R = listErr standE StandV.name (l.drop k) (seenL ((l.take k).map StandV.name))) ∧ Hid (Below w.heap.size w wr)) (fun v3 _ _ _ => l.length - (intOf v3).toNat)
    case atStart => exact ⟨0, Nat.zero_le _, rfl, Lib.hid (by rw [HR.out]; rfl), Lib.hid (Below.refl _ _)⟩
    case round =>
      obtain ⟨k, hk, rfl, HD, HB⟩ := hrel
      by_cases hlt : k < l.length
      · have hrow := (HL.out.below HB.out).c k hlt
        have hd := HD.out.trans (listErr_drop standE StandV.name l k hlt rfl _)
        have HSK := Lib.hid (seenL_take StandV.name l k hlt)
        have HNO := Lib.hid (seenL_no StandV.name l k hk)
        have HYES := Lib.hid (fun j hj => seenL_yes StandV.name l k j hk hj)
        rw [← HSK.out] at hd
        have HDD := Lib.hid hd
        clear hd HSK
        generalize seenL ((l.take k).map StandV.name) = S at *
        generalize hx : l.getD k default = x at *
        have HX := Lib.hid hx
        clear hx
        have hb0 : (0 : Int) ≤ k := by omega
        have hb1 : (k : Int) < l.length := by omega
        have hq := qIsName_any x.name
        have HN8 := Lib.hid (standE_name S x)
        have HT9 := Lib.hid (standE_twice S x)
        cases hnm : decide (isName x.name)
        · rw [hnm] at hq
          have HE := Lib.hid (show R = 8 by rw [HDD.out, HN8.out hnm]; rfl)
          clear HN8 HT9
          obtain ⟨name, size, terminal⟩ := x
          simp only [StandV.cells] at hrow hq
          have z0 := hrow 0 _ rfl
          clear hrow
          simp only [Nat.add_zero] at z0
          go_wp2_with fail
          refine (hq _).mono ?_
          rintro e1 w1 ⟨rfl, hb⟩
          go_wp2_with fail
          go_ret
          exact ⟨by rw [HE.out]; rfl, b_then HB.out hb⟩
        · rw [hnm] at hq
          have HNM := Lib.hid hnm
          have z0 := hrow 0 _ rfl
          simp only [Nat.add_zero] at z0
          have hz0 : wr.cell? ⟨b, off + k * 3, none⟩ = some (.string x.name) := z0
          clear z0
          have HROW := Lib.hid hrow
          clear hrow hnm
          go_wp2_with fail
          refine (hq _).mono ?_
          rintro e1 w1 ⟨rfl, hb⟩
          have hy0 := b_old hb hz0
          have HB1 := Lib.hid (b_then HB.out hb)
          have HBW := Lib.hid hb
          clear hz0 hb hq
          go_wp2_with fail
          go_loopw [4] (fun v4 w2 => ∃ (j : Nat), j ≤ k ∧ v4 = .int .i64 j ∧ Hid (∀ t, t < j → StandV.name (l.getD t default) ≠ x.name) ∧ Hid (Below w1.heap.size w1 w2)) (fun v4 _ => k - (intOf v4).toNat)
          case atStart => exact ⟨0, Nat.zero_le _, rfl, Lib.hid (fun t h => by omega), Lib.hid (Below.refl _ _)⟩
          case round =>
            obtain ⟨j, hj, rfl, HNE, HB2⟩ := hrel
            by_cases hjk : j < k
            · have hjb : (j : Int) < k := by omega
              have hb2 : (j : Int) < l.length := by omega
              have hb3 : (0 : Int) ≤ j := by omega
              have hrj := ((HL.out.below HB1.out).below HB2.out).c j (by omega)
              have z0 := hrj 0 _ rfl
              simp only [Nat.add_zero] at z0
              have hzj : wr.cell? ⟨b, off + j * 3, none⟩ = some (.string (l.getD j default).name) := z0
              have hzk := b_old HB2.out hy0
              have HY := Lib.hid (HYES.out j hjk)
              generalize hgy : (l.getD j default).name = y at *
              have HGY := Lib.hid hgy
              clear z0 hrj hgy
              cases hyx : (y.toList == x.name.toList)
              · have HNE2 : Hid (∀ t, t < j + 1 → StandV.name (l.getD t default) ≠ x.name) := Lib.hid fun t ht => by
                  rcases Nat.lt_or_ge t j with h | h
                  · exact HNE.out t h
                  · obtain rfl : t = j := by omega
                    intro e
                    rw [HGY.out] at e
                    rw [e] at hyx
                    simp at hyx
                go_wp2_with fail
                go_quiet (fail)
                go_wp2_with fail
                go_roundw
                case rel => exact ⟨j + 1, by omega, by go_num, HNE2, Lib.hid (by first | exact b_then HB2.out (below_drew _) | exact HB2.out.trans ⟨rfl, rfl, rfl, Nat.le_refl _, fun _ _ => rfl⟩)⟩
                case measure => simp [intOf]; omega
              · have hE : y = x.name := str_eq.1 hyx
                have HE := Lib.hid (show R = 9 by rw [HDD.out, HT9.out HNM.out (by rw [← hE]; exact HY.out)]; rfl)
                clear hE
                go_wp2_with fail
                go_quiet (fail)
                go_wp2_with fail
                go_ret
                exact ⟨by rw [HE.out]; rfl, by first | exact b_then (b_then HB1.out HB2.out) (below_drew _) | exact (b_then HB1.out HB2.out).trans ⟨rfl, rfl, rfl, Nat.le_refl _, fun _ _ => rfl⟩⟩
            · obtain rfl : j = k := by omega
              have HS0 := Lib.hid (HNO.out x.name HNE.out)
              have hrow := ((HL.out.below HB1.out).below HB2.out).c j hlt
              rw [HX.out] at hrow
              have HB12 := Lib.hid (b_then HB1.out HB2.out)
              have HN0 : Hid (nameE x.name = 0) := Lib.hid (by unfold nameE; rw [HNM.out]; rfl)
              have HEQ : Hid (standE S x = fst [rng x.size 1 9, termE x.terminal]) := Lib.hid (by unfold standE; rw [HN0.out, HS0.out]; simp [fst, unl])
              obtain ⟨name, size, terminal⟩ := x
              simp only [StandV.cells] at hrow
              have z0 := hrow 0 _ rfl
              have z1 := hrow 1 _ rfl
              have z2 := hrow 2 _ rfl
              simp only [Nat.add_zero] at z0
              clear hrow hy0
              have k1 : ∀ x : KeptW wr, x.v.cell? ⟨b, off + j * 3 + 1, none⟩ = some (.int .i64 size) := fun x => x.cell z1
              have k2 : ∀ x : KeptW wr, x.v.cell? ⟨b, off + j * 3 + 2, none⟩ = some (.string terminal) := fun x => x.cell z2
              have hne : Nonempty (KeptW wr) := ⟨⟨wr, Below.refl _ _⟩⟩
              clear z0 z1 z2
              go_wp2_with fail
              refine tail_kept 12 (by kernel_rfl) (by kernel_rfl) ?_
              simp only [List.take_succ_cons, List.take_zero, List.drop_succ_cons, List.drop_zero]
              iterate 5 (go_big_quiet_step (fail))
              go_big_quiet_step (exact KeptW.calls_same (rSize_any _ _))
              iterate 5 (go_big_quiet_step (fail))
              go_big_quiet_step (exact KeptW.calls (rTerm_any _ _))
              refine wpQuiet_nil ?_
              rintro _ ⟨y, rfl⟩
              have HB3 := Lib.hid (b_then HB12.out y.below)
              clear k1 k2 hne
              go_wp2_with fail
              refine (gFirst_new [_, _] _ _ _ _ _ rfl rfl (by simp)).mono ?_
              rintro e2 w3 ⟨rfl, hw3⟩
              have HB4 : Hid (Below w.heap.size w w3) := Lib.hid (by rw [hw3]; exact b_then HB3.out (below_alloc _ _))
              clear hw3
              generalize standE S ⟨name, size, terminal⟩ = e at *
              generalize fst [rng size 1 9, termE terminal] = e' at *
              have HEE := Lib.hid HEQ.out
              have hEE := HEE.out
              subst hEE
              by_cases he : e = 0
              · subst he
                go_wp2_with fail
                go_roundw
                case rel => exact ⟨j + 1, by omega, by go_num, Lib.hid (by rw [HDD.out, if_neg (by simp)]), HB4⟩
                case measure => simp [intOf]; omega
              · have hbe : (e != 0) = true := by simpa using he
                have HE := Lib.hid (show R = e by rw [HDD.out, if_pos he])
                go_wp2_with fail
                go_ret
                exact ⟨by rw [HE.out]; rfl, HB4.out⟩
      · have HE := Lib.hid (show R = 0 by rw [HD.out, List.drop_eq_nil_of_le (by omega)]; rfl)
        go_wp2_with fail
        go_ret
        exact ⟨by rw [HE.out]; rfl, HB.out⟩
end Go.Proofs.YtkjhnemfebgcnaaGreatDoor
namespace Go.Proofs.YtkjhnemfebgcnaaGreatDoor
open Go Go.RowKit Go.ChangeMaps Go.MapKept
/-- A call that has returned whether a list is short. -/
structure ShStand (e : Ending) (l : List StandV) : Prop where
  ex : ∃ bb : Bool, e = .returned (.bool bb) ∧ (bb = true → l.length ≤ 34 ∧ ∀ k, k < l.length → (l.getD k default).name.size ≤ 60 ∧ (l.getD k default).terminal.size ≤ 60)
set_option maxRecDepth 100000 in
set_option maxHeartbeats 2000000 in
theorem ShortStands_some (m : Int) (l : List StandV) (b off cap : Nat) (w : World) (hl : RowsAt StandV.cells 3 w b off l) (hn : l.length ≤ 140737488355328) :
    Calls Tryz.prog 15 #[.slice (some ⟨b, off, none⟩) l.length cap, .int .i64 m] w fun e w' => ShStand e l ∧ Below w.heap.size w w' := by
  have HL := Lib.hid hl
  clear hl
  by_cases h1 : m < (l.length : Int)
  · by_cases h2 : (l.length : Int) ≤ 32
    · go_enter Tryz.func15, Tryz.ntmps15
      go_wp2_with fail
      go_ret
      exact ⟨⟨false, rfl, fun h => by cases h⟩, Below.refl _ _⟩
    · by_cases h3 : (34 : Int) < l.length
      · go_enter Tryz.func15, Tryz.ntmps15
        go_wp2_with fail
        go_ret
        exact ⟨⟨false, rfl, fun h => by cases h⟩, Below.refl _ _⟩
      · have hlm : l.length ≤ 34 := by omega
        go_enter Tryz.func15, Tryz.ntmps15
        go_wp2_with fail
        go_loopw [5] (fun v5 wr => ∃ (k : Nat), k ≤ l.length ∧ v5 = .int .i64 k ∧ Hid (∀ j, j < k → (l.getD j default).name.size ≤ 60 ∧ (l.getD j default).terminal.size ≤ 60) ∧ Hid (Below w.heap.size w wr)) (fun v5 _ => l.length - (intOf v5).toNat)
        case atStart => exact ⟨0, Nat.zero_le _, rfl, Lib.hid (fun j h => by omega), Lib.hid (Below.refl _ _)⟩
        case round =>
          obtain ⟨k, hk, rfl, HA, HB⟩ := hrel
          by_cases hlt : k < l.length
          · have hrow := (HL.out.below HB.out).c k hlt
            have hb0 : (0 : Int) ≤ k := by omega
            have hb1 : (k : Int) < l.length := by omega
            generalize hx : l.getD k default = x at hrow
            have HX := Lib.hid hx
            clear hx
            obtain ⟨name, size, terminal⟩ := x
            simp only [StandV.cells] at hrow
            have z0 := hrow 0 _ rfl
            have z2 := hrow 2 _ rfl
            simp only [Nat.add_zero] at z0
            clear hrow
            by_cases g0 : (60 : Int) < name.size
            · go_wp2_with fail
              go_ret
              exact ⟨⟨false, rfl, fun h => by cases h⟩, HB.out⟩
            · by_cases g1 : (60 : Int) < terminal.size
              · go_wp2_with fail
                go_ret
                exact ⟨⟨false, rfl, fun h => by cases h⟩, HB.out⟩
              · have HA2 : Hid (∀ j, j < k + 1 → (l.getD j default).name.size ≤ 60 ∧ (l.getD j default).terminal.size ≤ 60) := Lib.hid fun j hj => by
                  rcases Nat.lt_or_ge j k with h | h
                  · exact HA.out j h
                  · obtain rfl : j = k := by omega
                    rw [HX.out]
                    exact ⟨by show name.size ≤ 60; omega, by show terminal.size ≤ 60; omega⟩
                go_wp2_with fail
                go_roundw
                case rel => exact ⟨k + 1, by omega, by go_num, HA2, HB⟩
                case measure => simp [intOf]; omega
          · obtain rfl : k = l.length := by omega
            have HLM := Lib.hid hlm
            go_wp2_with fail
            go_ret
            exact ⟨⟨true, rfl, fun _ => ⟨HLM.out, HA.out⟩⟩, HB.out⟩
  · by_cases h3 : (34 : Int) < l.length
    · go_enter Tryz.func15, Tryz.ntmps15
      go_wp2_with fail
      go_ret
      exact ⟨⟨false, rfl, fun h => by cases h⟩, Below.refl _ _⟩
    · have hlm : l.length ≤ 34 := by omega
      go_enter Tryz.func15, Tryz.ntmps15
      go_wp2_with fail
      go_loopw [5] (fun v5 wr => ∃ (k : Nat), k ≤ l.length ∧ v5 = .int .i64 k ∧ Hid (∀ j, j < k → (l.getD j default).name.size ≤ 60 ∧ (l.getD j default).terminal.size ≤ 60) ∧ Hid (Below w.heap.size w wr)) (fun v5 _ => l.length - (intOf v5).toNat)
      case atStart => exact ⟨0, Nat.zero_le _, rfl, Lib.hid (fun j h => by omega), Lib.hid (Below.refl _ _)⟩
      case round =>
        obtain ⟨k, hk, rfl, HA, HB⟩ := hrel
        by_cases hlt : k < l.length
        · have hrow := (HL.out.below HB.out).c k hlt
          have hb0 : (0 : Int) ≤ k := by omega
          have hb1 : (k : Int) < l.length := by omega
          generalize hx : l.getD k default = x at hrow
          have HX := Lib.hid hx
          clear hx
          obtain ⟨name, size, terminal⟩ := x
          simp only [StandV.cells] at hrow
          have z0 := hrow 0 _ rfl
          have z2 := hrow 2 _ rfl
          simp only [Nat.add_zero] at z0
          clear hrow
          by_cases g0 : (60 : Int) < name.size
          · go_wp2_with fail
            go_ret
            exact ⟨⟨false, rfl, fun h => by cases h⟩, HB.out⟩
          · by_cases g1 : (60 : Int) < terminal.size
            · go_wp2_with fail
              go_ret
              exact ⟨⟨false, rfl, fun h => by cases h⟩, HB.out⟩
            · have HA2 : Hid (∀ j, j < k + 1 → (l.getD j default).name.size ≤ 60 ∧ (l.getD j default).terminal.size ≤ 60) := Lib.hid fun j hj => by
                rcases Nat.lt_or_ge j k with h | h
                · exact HA.out j h
                · obtain rfl : j = k := by omega
                  rw [HX.out]
                  exact ⟨by show name.size ≤ 60; omega, by show terminal.size ≤ 60; omega⟩
              go_wp2_with fail
              go_roundw
              case rel => exact ⟨k + 1, by omega, by go_num, HA2, HB⟩
              case measure => simp [intOf]; omega
        · obtain rfl : k = l.length := by omega
          have HLM := Lib.hid hlm
          go_wp2_with fail
          go_ret
          exact ⟨⟨true, rfl, fun _ => ⟨HLM.out, HA.out⟩⟩, HB.out⟩
set_option maxRecDepth 100000 in
theorem ShortStands_none (m : Int) (hm : 0 ≤ m) (A : Option Addr) (c : Nat) (w : World) :
    Calls Tryz.prog 15 #[.slice A 0 c, .int .i64 m] w fun e w' => ShStand e [] ∧ Below w.heap.size w w' := by
  have h1 : ¬ m < 0 := by omega
  go_enter Tryz.func15, Tryz.ntmps15
  go_wp2_with fail
  go_loopw [5] (fun v5 wr => v5 = .int .i64 0 ∧ wr = w) (fun _ _ => 0)
  case atStart => exact ⟨rfl, rfl⟩
  case round =>
    obtain ⟨rfl, rfl⟩ := hrel
    go_wp2_with fail
    go_ret
    exact ⟨⟨true, rfl, fun _ => ⟨by simp, fun k h => by simp at h⟩⟩, Below.refl _ _⟩
theorem ShortStands_any (m : Int) (hm : 0 ≤ m) (l : List StandV) (v : Value) (w0 w : World) (hv : SlArg StandV.cells 3 w0 v l) (hb : Below w0.heap.size w0 w) (hn : l.length ≤ 140737488355328) :
    Calls Tryz.prog 15 #[v, .int .i64 m] w fun e w' => ShStand e l ∧ Below w.heap.size w w' := by
  rcases hv with ⟨rfl, A, c, rfl⟩ | ⟨h0, b, off, cap, rfl, hl, hc, hs⟩
  · exact ShortStands_none m hm A c w
  · exact ShortStands_some m l b off cap w (hl.below hb) hn
set_option maxRecDepth 100000 in
theorem refStands_none (A : Option Addr) (c : Nat) (w : World) :
    Calls Tryz.prog 23 #[.slice A 0 c] w fun e w' => e = .returned (.int .i64 (standsErr [])) ∧ Below w.heap.size w w' := by
  have HE : Hid (standsErr [] = 0) := Lib.hid rfl
  go_enter Tryz.func23, Tryz.ntmps23
  go_wp2_with fail
  go_loopw [3] (fun v3 wr => v3 = .int .i64 0 ∧ wr = w) (fun _ _ => 0)
  case atStart => exact ⟨rfl, rfl⟩
  case round =>
    obtain ⟨rfl, rfl⟩ := hrel
    go_wp2_with fail
    go_ret
    exact ⟨by rw [HE.out]; rfl, Below.refl _ _⟩
theorem refStands_any (l : List StandV) (v : Value) (w0 w : World) (hv : SlArg StandV.cells 3 w0 v l) (hb : Below w0.heap.size w0 w) (hn : l.length ≤ 5000) :
    Calls Tryz.prog 23 #[v] w fun e w' => e = .returned (.int .i64 (standsErr l)) ∧ Below w.heap.size w w' := by
  rcases hv with ⟨rfl, A, c, rfl⟩ | ⟨h0, b, off, cap, rfl, hl, hc, hs⟩
  · exact refStands_none A c w
  · exact refStands_some l b off cap w (hl.below hb) hn
end Go.Proofs.YtkjhnemfebgcnaaGreatDoor
namespace Go.Proofs.YtkjhnemfebgcnaaGreatDoor
open Go Go.RowKit Go.ChangeMaps Go.MapKept
theorem turnE_eq (S : ByteArray → Bool) (x : TurnV) (h1 : nameE x.name = 0) (h2 : S x.name = false) : turnE S x = fst [(if fst [rng x.start 0 143999999, rng x.fin 0 143999999] = 0 then (if x.fin < x.start then 11 else 0) else fst [rng x.start 0 143999999, rng x.fin 0 143999999]), rng x.size 1 9, termE x.terminal] := by
  have h3 : unl (decide (x.start ≤ x.fin)) 11 = if x.fin < x.start then 11 else 0 := by
    by_cases h : x.start ≤ x.fin
    · have h' : ¬ x.fin < x.start := by omega
      simp [unl, h, h']
    · have h' : x.fin < x.start := by omega
      simp [unl, h, h']
  unfold turnE
  rw [h1, h2, h3]
  generalize rng x.start 0 143999999 = a
  generalize rng x.fin 0 143999999 = b
  generalize rng x.size 1 9 = c
  generalize termE x.terminal = e
  by_cases g1 : a = 0 <;> by_cases g2 : b = 0 <;> by_cases g : x.fin < x.start <;> simp [fst, unl, g1, g2, g]
theorem turnE_name (S : ByteArray → Bool) (x : TurnV) (h : decide (isName x.name) = false) : turnE S x = 8 := by
  unfold turnE nameE
  rw [h]; rfl
theorem turnE_twice (S : ByteArray → Bool) (x : TurnV) (h1 : decide (isName x.name) = true) (h2 : S x.name = true) : turnE S x = 9 := by
  unfold turnE nameE
  rw [h1, h2]; rfl
set_option maxRecDepth 100000 in
set_option maxHeartbeats 4000000 in
theorem refTurns_some (l : List TurnV) (b off cap : Nat) (w : World) (hl : RowsAt TurnV.cells 5 w b off l) (h9 : l.length ≤ 5000) :
    Calls Tryz.prog 25 #[.slice (some ⟨b, off, none⟩) l.length cap] w fun e w' => e = .returned (.int .i64 (turnsErr l)) ∧ Below w.heap.size w w' := by
  have HL := Lib.hid hl
  by_cases hm : 256 < l.length
  · have HE : Hid (turnsErr l = 5) := Lib.hid (by unfold turnsErr; rw [if_pos hm])
    have hmb : (256 : Int) < l.length := by omega
    clear hl
    go_enter Tryz.func25, Tryz.ntmps25
    go_wp2_with fail
    go_ret
    exact ⟨by rw [HE.out]; rfl, Below.refl _ _⟩
  · have hmb : ¬ (256 : Int) < l.length := by omega
    obtain ⟨R, hR⟩ : ∃ R, R = turnsErr l := ⟨_, rfl⟩
    rw [← hR]
    have HR : Hid (R = listErr turnE TurnV.name l (seenL ((l.take 0).map TurnV.name))) := Lib.hid (by rw [hR]; unfold turnsErr; rw [if_neg hm]; rfl)
    clear hl hR hm
    go_enter Tryz.func25, Tryz.ntmps25
    go_wp2_with fail
    go_loopw [3, 4, 5] (fun v3 _ _ wr => ∃ (k : Nat), k ≤ l.length ∧ v3 = .int .i64 k ∧ Hid (R = listErr turnE TurnV.name (l.drop k) (seenL ((l.take k).map TurnV.name))) ∧ Hid (Below w.heap.size w wr)) (fun v3 _ _ _ => l.length - (intOf v3).toNat)
    case atStart => exact ⟨0, Nat.zero_le _, rfl, Lib.hid (by rw [HR.out]; rfl), Lib.hid (Below.refl _ _)⟩
    case round =>
      obtain ⟨k, hk, rfl, HD, HB⟩ := hrel
      by_cases hlt : k < l.length
      · have hrow := (HL.out.below HB.out).c k hlt
        have hd := HD.out.trans (listErr_drop turnE TurnV.name l k hlt rfl _)
        have HSK := Lib.hid (seenL_take TurnV.name l k hlt)
        have HNO := Lib.hid (seenL_no TurnV.name l k hk)
        have HYES := Lib.hid (fun j hj => seenL_yes TurnV.name l k j hk hj)
        rw [← HSK.out] at hd
        have HDD := Lib.hid hd
        clear hd HSK
        generalize seenL ((l.take k).map TurnV.name) = S at *
        generalize hx : l.getD k default = x at *
        have HX := Lib.hid hx
        clear hx
        have hb0 : (0 : Int) ≤ k := by omega
        have hb1 : (k : Int) < l.length := by omega
        have hq := qIsName_any x.name
        have HN8 := Lib.hid (turnE_name S x)
        have HT9 := Lib.hid (turnE_twice S x)
        cases hnm : decide (isName x.name)
        · rw [hnm] at hq
          have HE := Lib.hid (show R = 8 by rw [HDD.out, HN8.out hnm]; rfl)
          clear HN8 HT9
          obtain ⟨name, start, fin, size, terminal⟩ := x
          simp only [TurnV.cells] at hrow hq
          have z0 := hrow 0 _ rfl
          clear hrow
          simp only [Nat.add_zero] at z0
          go_wp2_with fail
          refine (hq _).mono ?_
          rintro e1 w1 ⟨rfl, hb⟩
          go_wp2_with fail
          go_ret
          exact ⟨by rw [HE.out]; rfl, b_then HB.out hb⟩
        · rw [hnm] at hq
          have HNM := Lib.hid hnm
          have z0 := hrow 0 _ rfl
          simp only [Nat.add_zero] at z0
          have hz0 : wr.cell? ⟨b, off + k * 5, none⟩ = some (.string x.name) := z0
          clear z0
          have HROW := Lib.hid hrow
          clear hrow hnm
          go_wp2_with fail
          refine (hq _).mono ?_
          rintro e1 w1 ⟨rfl, hb⟩
          have hy0 := b_old hb hz0
          have HB1 := Lib.hid (b_then HB.out hb)
          have HBW := Lib.hid hb
          clear hz0 hb hq
          go_wp2_with fail
          go_loopw [4] (fun v4 w2 => ∃ (j : Nat), j ≤ k ∧ v4 = .int .i64 j ∧ Hid (∀ t, t < j → TurnV.name (l.getD t default) ≠ x.name) ∧ Hid (Below w1.heap.size w1 w2)) (fun v4 _ => k - (intOf v4).toNat)
          case atStart => exact ⟨0, Nat.zero_le _, rfl, Lib.hid (fun t h => by omega), Lib.hid (Below.refl _ _)⟩
          case round =>
            obtain ⟨j, hj, rfl, HNE, HB2⟩ := hrel
            by_cases hjk : j < k
            · have hjb : (j : Int) < k := by omega
              have hb2 : (j : Int) < l.length := by omega
              have hb3 : (0 : Int) ≤ j := by omega
              have hrj := ((HL.out.below HB1.out).below HB2.out).c j (by omega)
              have z0 := hrj 0 _ rfl
              simp only [Nat.add_zero] at z0
              have hzj : wr.cell? ⟨b, off + j * 5, none⟩ = some (.string (l.getD j default).name) := z0
              have hzk := b_old HB2.out hy0
              have HY := Lib.hid (HYES.out j hjk)
              generalize hgy : (l.getD j default).name = y at *
              have HGY := Lib.hid hgy
              clear z0 hrj hgy
              cases hyx : (y.toList == x.name.toList)
              · have HNE2 : Hid (∀ t, t < j + 1 → TurnV.name (l.getD t default) ≠ x.name) := Lib.hid fun t ht => by
                  rcases Nat.lt_or_ge t j with h | h
                  · exact HNE.out t h
                  · obtain rfl : t = j := by omega
                    intro e
                    rw [HGY.out] at e
                    rw [e] at hyx
                    simp at hyx
                go_wp2_with fail
                go_quiet (fail)
                go_wp2_with fail
                go_roundw
                case rel => exact ⟨j + 1, by omega, by go_num, HNE2, Lib.hid (by first | exact b_then HB2.out (below_drew _) | exact HB2.out.trans ⟨rfl, rfl, rfl, Nat.le_refl _, fun _ _ => rfl⟩)⟩
                case measure => simp [intOf]; omega
              · have hE : y = x.name := str_eq.1 hyx
                have HE := Lib.hid (show R = 9 by rw [HDD.out, HT9.out HNM.out (by rw [← hE]; exact HY.out)]; rfl)
                clear hE
                go_wp2_with fail
                go_quiet (fail)
                go_wp2_with fail
                go_ret
                exact ⟨by rw [HE.out]; rfl, by first | exact b_then (b_then HB1.out HB2.out) (below_drew _) | exact (b_then HB1.out HB2.out).trans ⟨rfl, rfl, rfl, Nat.le_refl _, fun _ _ => rfl⟩⟩
            · obtain rfl : j = k := by omega
              have HS0 := Lib.hid (HNO.out x.name HNE.out)
              have hrow := ((HL.out.below HB1.out).below HB2.out).c j hlt
              rw [HX.out] at hrow
              have HB12 := Lib.hid (b_then HB1.out HB2.out)
              have HN0 : Hid (nameE x.name = 0) := Lib.hid (by unfold nameE; rw [HNM.out]; rfl)
              have HEQ := Lib.hid (turnE_eq S x HN0.out HS0.out)
              obtain ⟨name, start, fin, size, terminal⟩ := x
              simp only [TurnV.cells] at hrow
              have z0 := hrow 0 _ rfl
              have z1 := hrow 1 _ rfl
              have z2 := hrow 2 _ rfl
              have z3 := hrow 3 _ rfl
              have z4 := hrow 4 _ rfl
              simp only [Nat.add_zero] at z0
              clear hrow hy0
              have k1 : ∀ x : KeptW wr, x.v.cell? ⟨b, off + j * 5 + 1, none⟩ = some (.int .i64 start) := fun x => x.cell z1
              have k2 : ∀ x : KeptW wr, x.v.cell? ⟨b, off + j * 5 + 2, none⟩ = some (.int .i64 fin) := fun x => x.cell z2
              have hne : Nonempty (KeptW wr) := ⟨⟨wr, Below.refl _ _⟩⟩
              go_wp2_with fail
              refine tail_kept 12 (by kernel_rfl) (by kernel_rfl) ?_
              simp only [List.take_succ_cons, List.take_zero, List.drop_succ_cons, List.drop_zero]
              iterate 5 (go_big_quiet_step (fail))
              go_big_quiet_step (exact KeptW.calls_same (gMoment_any _ _))
              iterate 5 (go_big_quiet_step (fail))
              go_big_quiet_step (exact KeptW.calls_same (gMoment_any _ _))
              refine wpQuiet_nil ?_
              rintro _ ⟨y, rfl⟩
              have HB3 := Lib.hid (b_then HB12.out y.below)
              have HYB := Lib.hid y.below
              clear k1 k2 hne
              go_wp2_with fail
              refine (gFirst_new [_, _] _ _ _ _ _ rfl rfl (by simp)).mono ?_
              rintro e2 w3 ⟨rfl, hw3⟩
              have hb34 : Below y.v.heap.size y.v w3 := by rw [hw3]; exact below_alloc _ _
              have HB4 : Hid (Below w.heap.size w w3) := Lib.hid (b_then HB3.out hb34)
              have u1 := b_old hb34 (b_old HYB.out z1)
              have u2 := b_old hb34 (b_old HYB.out z2)
              have u3 := b_old hb34 (b_old HYB.out z3)
              have u4 := b_old hb34 (b_old HYB.out z4)
              clear hw3 hb34 z0 z1 z2 z3 z4
              generalize fst [rng start 0 143999999, rng fin 0 143999999] = a at *
              have k1 : ∀ x : KeptW w3, x.v.cell? ⟨b, off + j * 5 + 1, none⟩ = some (.int .i64 start) := fun x => x.cell u1
              have k2 : ∀ x : KeptW w3, x.v.cell? ⟨b, off + j * 5 + 2, none⟩ = some (.int .i64 fin) := fun x => x.cell u2
              have hne3 : Nonempty (KeptW w3) := ⟨⟨w3, Below.refl _ _⟩⟩
              by_cases ha : a = 0
              · subst ha
                by_cases hfs : fin < start
                · have hd0 : decide (fin < start) = true := decide_eq_true hfs
                  have HEQ2 : Hid (turnE S ⟨name, start, fin, size, terminal⟩ = fst [11, rng size 1 9, termE terminal]) := Lib.hid (by rw [HEQ.out, if_pos rfl, if_pos hfs])
                  go_wp2_with fail
                  refine region_kept (by kernel_rfl) (by kernel_rfl) ?_
                  iterate 15 (go_big_quiet_step (fail))
                  refine wpQuiet_nil ?_
                  rintro _ ⟨y2, rfl⟩
                  have v3 := y2.cell u3
                  have v4 := y2.cell u4
                  have HB5 := Lib.hid (b_then HB4.out y2.below)
                  clear k1 k2 hne3 u1 u2 u3 u4
                  have k3 : ∀ x : KeptW y2.v, x.v.cell? ⟨b, off + j * 5 + 3, none⟩ = some (.int .i64 size) := fun x => x.cell v3
                  have k4 : ∀ x : KeptW y2.v, x.v.cell? ⟨b, off + j * 5 + 4, none⟩ = some (.string terminal) := fun x => x.cell v4
                  have hne4 : Nonempty (KeptW y2.v) := ⟨⟨y2.v, Below.refl _ _⟩⟩
                  go_wp2_with fail
                  refine tail_kept 13 (by kernel_rfl) (by kernel_rfl) ?_
                  simp only [List.take_succ_cons, List.take_zero, List.drop_succ_cons, List.drop_zero]
                  iterate 6 (go_big_quiet_step (fail))
                  go_big_quiet_step (exact KeptW.calls_same (rSize_any _ _))
                  iterate 5 (go_big_quiet_step (fail))
                  go_big_quiet_step (exact KeptW.calls (rTerm_any _ _))
                  refine wpQuiet_nil ?_
                  rintro _ ⟨y3, rfl⟩
                  have HB6 := Lib.hid (b_then HB5.out y3.below)
                  clear k3 k4 hne4 v3 v4
                  go_wp2_with fail
                  refine (gFirst_new [_, _, _] _ _ _ _ _ rfl rfl (by simp)).mono ?_
                  rintro e4 w5 ⟨rfl, hw5⟩
                  replace HB4 : Hid (Below w.heap.size w w5) := Lib.hid (by rw [hw5]; exact b_then HB6.out (below_alloc _ _))
                  clear hw5
                  generalize turnE S ⟨name, start, fin, size, terminal⟩ = e at *
                  generalize fst [11, rng size 1 9, termE terminal] = e' at *
                  have HEE := Lib.hid HEQ2.out
                  have hEE := HEE.out
                  subst hEE
                  by_cases he : e = 0
                  · subst he
                    go_wp2_with fail
                    go_roundw
                    case rel => exact ⟨j + 1, by omega, by go_num, Lib.hid (by rw [HDD.out, if_neg (by simp)]), HB4⟩
                    case measure => simp [intOf]; omega
                  · have hbe : (e != 0) = true := by simpa using he
                    have HE := Lib.hid (show R = e by rw [HDD.out, if_pos he])
                    go_wp2_with fail
                    go_ret
                    exact ⟨by rw [HE.out]; rfl, HB4.out⟩
                · have hd0 : decide (fin < start) = false := decide_eq_false hfs
                  have HEQ2 : Hid (turnE S ⟨name, start, fin, size, terminal⟩ = fst [0, rng size 1 9, termE terminal]) := Lib.hid (by rw [HEQ.out, if_pos rfl, if_neg hfs])
                  go_wp2_with fail
                  refine region_kept (by kernel_rfl) (by kernel_rfl) ?_
                  iterate 15 (go_big_quiet_step (fail))
                  refine wpQuiet_nil ?_
                  rintro _ ⟨y2, rfl⟩
                  have v3 := y2.cell u3
                  have v4 := y2.cell u4
                  have HB5 := Lib.hid (b_then HB4.out y2.below)
                  clear k1 k2 hne3 u1 u2 u3 u4
                  have k3 : ∀ x : KeptW y2.v, x.v.cell? ⟨b, off + j * 5 + 3, none⟩ = some (.int .i64 size) := fun x => x.cell v3
                  have k4 : ∀ x : KeptW y2.v, x.v.cell? ⟨b, off + j * 5 + 4, none⟩ = some (.string terminal) := fun x => x.cell v4
                  have hne4 : Nonempty (KeptW y2.v) := ⟨⟨y2.v, Below.refl _ _⟩⟩
                  go_wp2_with fail
                  refine tail_kept 13 (by kernel_rfl) (by kernel_rfl) ?_
                  simp only [List.take_succ_cons, List.take_zero, List.drop_succ_cons, List.drop_zero]
                  iterate 6 (go_big_quiet_step (fail))
                  go_big_quiet_step (exact KeptW.calls_same (rSize_any _ _))
                  iterate 5 (go_big_quiet_step (fail))
                  go_big_quiet_step (exact KeptW.calls (rTerm_any _ _))
                  refine wpQuiet_nil ?_
                  rintro _ ⟨y3, rfl⟩
                  have HB6 := Lib.hid (b_then HB5.out y3.below)
                  clear k3 k4 hne4 v3 v4
                  go_wp2_with fail
                  refine (gFirst_new [_, _, _] _ _ _ _ _ rfl rfl (by simp)).mono ?_
                  rintro e4 w5 ⟨rfl, hw5⟩
                  replace HB4 : Hid (Below w.heap.size w w5) := Lib.hid (by rw [hw5]; exact b_then HB6.out (below_alloc _ _))
                  clear hw5
                  generalize turnE S ⟨name, start, fin, size, terminal⟩ = e at *
                  generalize fst [0, rng size 1 9, termE terminal] = e' at *
                  have HEE := Lib.hid HEQ2.out
                  have hEE := HEE.out
                  subst hEE
                  by_cases he : e = 0
                  · subst he
                    go_wp2_with fail
                    go_roundw
                    case rel => exact ⟨j + 1, by omega, by go_num, Lib.hid (by rw [HDD.out, if_neg (by simp)]), HB4⟩
                    case measure => simp [intOf]; omega
                  · have hbe : (e != 0) = true := by simpa using he
                    have HE := Lib.hid (show R = e by rw [HDD.out, if_pos he])
                    go_wp2_with fail
                    go_ret
                    exact ⟨by rw [HE.out]; rfl, HB4.out⟩
              · have hba : (a == 0) = false := by simpa using ha
                have HEQ2 : Hid (turnE S ⟨name, start, fin, size, terminal⟩ = fst [a, rng size 1 9, termE terminal]) := Lib.hid (by rw [HEQ.out, if_neg ha])
                go_wp2_with fail
                refine region_kept (by kernel_rfl) (by kernel_rfl) ?_
                iterate 15 (go_big_quiet_step (fail))
                refine wpQuiet_nil ?_
                rintro _ ⟨y2, rfl⟩
                have v3 := y2.cell u3
                have v4 := y2.cell u4
                have HB5 := Lib.hid (b_then HB4.out y2.below)
                clear k1 k2 hne3 u1 u2 u3 u4
                have k3 : ∀ x : KeptW y2.v, x.v.cell? ⟨b, off + j * 5 + 3, none⟩ = some (.int .i64 size) := fun x => x.cell v3
                have k4 : ∀ x : KeptW y2.v, x.v.cell? ⟨b, off + j * 5 + 4, none⟩ = some (.string terminal) := fun x => x.cell v4
                have hne4 : Nonempty (KeptW y2.v) := ⟨⟨y2.v, Below.refl _ _⟩⟩
                go_wp2_with fail
                refine tail_kept 13 (by kernel_rfl) (by kernel_rfl) ?_
                simp only [List.take_succ_cons, List.take_zero, List.drop_succ_cons, List.drop_zero]
                iterate 6 (go_big_quiet_step (fail))
                go_big_quiet_step (exact KeptW.calls_same (rSize_any _ _))
                iterate 5 (go_big_quiet_step (fail))
                go_big_quiet_step (exact KeptW.calls (rTerm_any _ _))
                refine wpQuiet_nil ?_
                rintro _ ⟨y3, rfl⟩
                have HB6 := Lib.hid (b_then HB5.out y3.below)
                clear k3 k4 hne4 v3 v4
                go_wp2_with fail
                refine (gFirst_new [_, _, _] _ _ _ _ _ rfl rfl (by simp)).mono ?_
                rintro e4 w5 ⟨rfl, hw5⟩
                replace HB4 : Hid (Below w.heap.size w w5) := Lib.hid (by rw [hw5]; exact b_then HB6.out (below_alloc _ _))
                clear hw5
                generalize turnE S ⟨name, start, fin, size, terminal⟩ = e at *
                generalize fst [a, rng size 1 9, termE terminal] = e' at *
                have HEE := Lib.hid HEQ2.out
                have hEE := HEE.out
                subst hEE
                by_cases he : e = 0
                · subst he
                  go_wp2_with fail
                  go_roundw
                  case rel => exact ⟨j + 1, by omega, by go_num, Lib.hid (by rw [HDD.out, if_neg (by simp)]), HB4⟩
                  case measure => simp [intOf]; omega
                · have hbe : (e != 0) = true := by simpa using he
                  have HE := Lib.hid (show R = e by rw [HDD.out, if_pos he])
                  go_wp2_with fail
                  go_ret
                  exact ⟨by rw [HE.out]; rfl, HB4.out⟩
      · have HE := Lib.hid (show R = 0 by rw [HD.out, List.drop_eq_nil_of_le (by omega)]; rfl)
        go_wp2_with fail
        go_ret
        exact ⟨by rw [HE.out]; rfl, HB.out⟩
end Go.Proofs.YtkjhnemfebgcnaaGreatDoor
namespace Go.Proofs.YtkjhnemfebgcnaaGreatDoor
open Go Go.RowKit Go.ChangeMaps Go.MapKept
/-- A call that has returned whether a list is short. -/
structure ShTurn (e : Ending) (l : List TurnV) : Prop where
  ex : ∃ bb : Bool, e = .returned (.bool bb) ∧ (bb = true → l.length ≤ 258 ∧ ∀ k, k < l.length → (l.getD k default).name.size ≤ 60 ∧ (l.getD k default).terminal.size ≤ 60)
set_option maxRecDepth 100000 in
set_option maxHeartbeats 2000000 in
theorem ShortTurns_some (m : Int) (l : List TurnV) (b off cap : Nat) (w : World) (hl : RowsAt TurnV.cells 5 w b off l) (hn : l.length ≤ 140737488355328) :
    Calls Tryz.prog 17 #[.slice (some ⟨b, off, none⟩) l.length cap, .int .i64 m] w fun e w' => ShTurn e l ∧ Below w.heap.size w w' := by
  have HL := Lib.hid hl
  clear hl
  by_cases h1 : m < (l.length : Int)
  · by_cases h2 : (l.length : Int) ≤ 256
    · go_enter Tryz.func17, Tryz.ntmps17
      go_wp2_with fail
      go_ret
      exact ⟨⟨false, rfl, fun h => by cases h⟩, Below.refl _ _⟩
    · by_cases h3 : (258 : Int) < l.length
      · go_enter Tryz.func17, Tryz.ntmps17
        go_wp2_with fail
        go_ret
        exact ⟨⟨false, rfl, fun h => by cases h⟩, Below.refl _ _⟩
      · have hlm : l.length ≤ 258 := by omega
        go_enter Tryz.func17, Tryz.ntmps17
        go_wp2_with fail
        go_loopw [5] (fun v5 wr => ∃ (k : Nat), k ≤ l.length ∧ v5 = .int .i64 k ∧ Hid (∀ j, j < k → (l.getD j default).name.size ≤ 60 ∧ (l.getD j default).terminal.size ≤ 60) ∧ Hid (Below w.heap.size w wr)) (fun v5 _ => l.length - (intOf v5).toNat)
        case atStart => exact ⟨0, Nat.zero_le _, rfl, Lib.hid (fun j h => by omega), Lib.hid (Below.refl _ _)⟩
        case round =>
          obtain ⟨k, hk, rfl, HA, HB⟩ := hrel
          by_cases hlt : k < l.length
          · have hrow := (HL.out.below HB.out).c k hlt
            have hb0 : (0 : Int) ≤ k := by omega
            have hb1 : (k : Int) < l.length := by omega
            generalize hx : l.getD k default = x at hrow
            have HX := Lib.hid hx
            clear hx
            obtain ⟨name, start, fin, size, terminal⟩ := x
            simp only [TurnV.cells] at hrow
            have z0 := hrow 0 _ rfl
            have z4 := hrow 4 _ rfl
            simp only [Nat.add_zero] at z0
            clear hrow
            by_cases g0 : (60 : Int) < name.size
            · go_wp2_with fail
              go_ret
              exact ⟨⟨false, rfl, fun h => by cases h⟩, HB.out⟩
            · by_cases g1 : (60 : Int) < terminal.size
              · go_wp2_with fail
                go_ret
                exact ⟨⟨false, rfl, fun h => by cases h⟩, HB.out⟩
              · have HA2 : Hid (∀ j, j < k + 1 → (l.getD j default).name.size ≤ 60 ∧ (l.getD j default).terminal.size ≤ 60) := Lib.hid fun j hj => by
                  rcases Nat.lt_or_ge j k with h | h
                  · exact HA.out j h
                  · obtain rfl : j = k := by omega
                    rw [HX.out]
                    exact ⟨by show name.size ≤ 60; omega, by show terminal.size ≤ 60; omega⟩
                go_wp2_with fail
                go_roundw
                case rel => exact ⟨k + 1, by omega, by go_num, HA2, HB⟩
                case measure => simp [intOf]; omega
          · obtain rfl : k = l.length := by omega
            have HLM := Lib.hid hlm
            go_wp2_with fail
            go_ret
            exact ⟨⟨true, rfl, fun _ => ⟨HLM.out, HA.out⟩⟩, HB.out⟩
  · by_cases h3 : (258 : Int) < l.length
    · go_enter Tryz.func17, Tryz.ntmps17
      go_wp2_with fail
      go_ret
      exact ⟨⟨false, rfl, fun h => by cases h⟩, Below.refl _ _⟩
    · have hlm : l.length ≤ 258 := by omega
      go_enter Tryz.func17, Tryz.ntmps17
      go_wp2_with fail
      go_loopw [5] (fun v5 wr => ∃ (k : Nat), k ≤ l.length ∧ v5 = .int .i64 k ∧ Hid (∀ j, j < k → (l.getD j default).name.size ≤ 60 ∧ (l.getD j default).terminal.size ≤ 60) ∧ Hid (Below w.heap.size w wr)) (fun v5 _ => l.length - (intOf v5).toNat)
      case atStart => exact ⟨0, Nat.zero_le _, rfl, Lib.hid (fun j h => by omega), Lib.hid (Below.refl _ _)⟩
      case round =>
        obtain ⟨k, hk, rfl, HA, HB⟩ := hrel
        by_cases hlt : k < l.length
        · have hrow := (HL.out.below HB.out).c k hlt
          have hb0 : (0 : Int) ≤ k := by omega
          have hb1 : (k : Int) < l.length := by omega
          generalize hx : l.getD k default = x at hrow
          have HX := Lib.hid hx
          clear hx
          obtain ⟨name, start, fin, size, terminal⟩ := x
          simp only [TurnV.cells] at hrow
          have z0 := hrow 0 _ rfl
          have z4 := hrow 4 _ rfl
          simp only [Nat.add_zero] at z0
          clear hrow
          by_cases g0 : (60 : Int) < name.size
          · go_wp2_with fail
            go_ret
            exact ⟨⟨false, rfl, fun h => by cases h⟩, HB.out⟩
          · by_cases g1 : (60 : Int) < terminal.size
            · go_wp2_with fail
              go_ret
              exact ⟨⟨false, rfl, fun h => by cases h⟩, HB.out⟩
            · have HA2 : Hid (∀ j, j < k + 1 → (l.getD j default).name.size ≤ 60 ∧ (l.getD j default).terminal.size ≤ 60) := Lib.hid fun j hj => by
                rcases Nat.lt_or_ge j k with h | h
                · exact HA.out j h
                · obtain rfl : j = k := by omega
                  rw [HX.out]
                  exact ⟨by show name.size ≤ 60; omega, by show terminal.size ≤ 60; omega⟩
              go_wp2_with fail
              go_roundw
              case rel => exact ⟨k + 1, by omega, by go_num, HA2, HB⟩
              case measure => simp [intOf]; omega
        · obtain rfl : k = l.length := by omega
          have HLM := Lib.hid hlm
          go_wp2_with fail
          go_ret
          exact ⟨⟨true, rfl, fun _ => ⟨HLM.out, HA.out⟩⟩, HB.out⟩
set_option maxRecDepth 100000 in
theorem ShortTurns_none (m : Int) (hm : 0 ≤ m) (A : Option Addr) (c : Nat) (w : World) :
    Calls Tryz.prog 17 #[.slice A 0 c, .int .i64 m] w fun e w' => ShTurn e [] ∧ Below w.heap.size w w' := by
  have h1 : ¬ m < 0 := by omega
  go_enter Tryz.func17, Tryz.ntmps17
  go_wp2_with fail
  go_loopw [5] (fun v5 wr => v5 = .int .i64 0 ∧ wr = w) (fun _ _ => 0)
  case atStart => exact ⟨rfl, rfl⟩
  case round =>
    obtain ⟨rfl, rfl⟩ := hrel
    go_wp2_with fail
    go_ret
    exact ⟨⟨true, rfl, fun _ => ⟨by simp, fun k h => by simp at h⟩⟩, Below.refl _ _⟩
theorem ShortTurns_any (m : Int) (hm : 0 ≤ m) (l : List TurnV) (v : Value) (w0 w : World) (hv : SlArg TurnV.cells 5 w0 v l) (hb : Below w0.heap.size w0 w) (hn : l.length ≤ 140737488355328) :
    Calls Tryz.prog 17 #[v, .int .i64 m] w fun e w' => ShTurn e l ∧ Below w.heap.size w w' := by
  rcases hv with ⟨rfl, A, c, rfl⟩ | ⟨h0, b, off, cap, rfl, hl, hc, hs⟩
  · exact ShortTurns_none m hm A c w
  · exact ShortTurns_some m l b off cap w (hl.below hb) hn
set_option maxRecDepth 100000 in
theorem refTurns_none (A : Option Addr) (c : Nat) (w : World) :
    Calls Tryz.prog 25 #[.slice A 0 c] w fun e w' => e = .returned (.int .i64 (turnsErr [])) ∧ Below w.heap.size w w' := by
  have HE : Hid (turnsErr [] = 0) := Lib.hid rfl
  go_enter Tryz.func25, Tryz.ntmps25
  go_wp2_with fail
  go_loopw [3] (fun v3 wr => v3 = .int .i64 0 ∧ wr = w) (fun _ _ => 0)
  case atStart => exact ⟨rfl, rfl⟩
  case round =>
    obtain ⟨rfl, rfl⟩ := hrel
    go_wp2_with fail
    go_ret
    exact ⟨by rw [HE.out]; rfl, Below.refl _ _⟩
theorem refTurns_any (l : List TurnV) (v : Value) (w0 w : World) (hv : SlArg TurnV.cells 5 w0 v l) (hb : Below w0.heap.size w0 w) (hn : l.length ≤ 5000) :
    Calls Tryz.prog 25 #[v] w fun e w' => e = .returned (.int .i64 (turnsErr l)) ∧ Below w.heap.size w w' := by
  rcases hv with ⟨rfl, A, c, rfl⟩ | ⟨h0, b, off, cap, rfl, hl, hc, hs⟩
  · exact refTurns_none A c w
  · exact refTurns_some l b off cap w (hl.below hb) hn
end Go.Proofs.YtkjhnemfebgcnaaGreatDoor
namespace Go.Proofs.YtkjhnemfebgcnaaGreatDoor
open Go Go.RowKit Go.ChangeMaps Go.MapKept
def movA (x : MovV) : Int := if rng x.moment 0 143999999 = 0 then (if isKindB x.kind = true then 0 else 13) else rng x.moment 0 143999999
def movB (x : MovV) : Int := fst [movA x, termE x.terminal, rng x.seats 0 999, rng x.size 1 9, rng x.noise 0 99]
theorem movE_eq (x : MovV) : movE x = if movB x = 0 then (if decide (isName x.name) = true then 0 else 8) else movB x := by
  have h1 : kindE x.kind = if isKindB x.kind = true then 0 else 13 := rfl
  have h2 : nameE x.name = if decide (isName x.name) = true then 0 else 8 := rfl
  unfold movE movB movA
  rw [h1, h2]
  generalize rng x.moment 0 143999999 = a
  generalize (if isKindB x.kind = true then (0 : Int) else 13) = b
  generalize termE x.terminal = c
  generalize rng x.seats 0 999 = d
  generalize rng x.size 1 9 = e
  generalize rng x.noise 0 99 = f
  generalize (if decide (isName x.name) = true then (0 : Int) else 8) = g
  by_cases h1 : a = 0 <;> by_cases h2 : b = 0 <;> by_cases h3 : c = 0 <;> by_cases h4 : d = 0 <;> by_cases h5 : e = 0 <;> by_cases h6 : f = 0 <;> simp [fst, h1, h2, h3, h4, h5, h6] <;> exact fun h => h.symm
set_option maxRecDepth 100000 in
set_option maxHeartbeats 4000000 in
theorem refMovs_some (l : List MovV) (b off cap : Nat) (w : World) (hl : RowsAt MovV.cells 7 w b off l) (h9 : l.length ≤ 5000) :
    Calls Tryz.prog 27 #[.slice (some ⟨b, off, none⟩) l.length cap] w fun e w' => e = .returned (.int .i64 (movsErr l)) ∧ Below w.heap.size w w' := by
  have HL := Lib.hid hl
  by_cases hm : 256 < l.length
  · have HE : Hid (movsErr l = 5) := Lib.hid (by unfold movsErr; rw [if_pos hm])
    have hmb : (256 : Int) < l.length := by omega
    clear hl
    go_enter Tryz.func27, Tryz.ntmps27
    go_wp2_with fail
    go_ret
    exact ⟨by rw [HE.out]; rfl, Below.refl _ _⟩
  · have hmb : ¬ (256 : Int) < l.length := by omega
    obtain ⟨R, hR⟩ : ∃ R, R = movsErr l := ⟨_, rfl⟩
    rw [← hR]
    have HR : Hid (R = plainErr movE l) := Lib.hid (by rw [hR]; unfold movsErr; rw [if_neg hm])
    clear hl hR hm
    go_enter Tryz.func27, Tryz.ntmps27
    go_wp2_with fail
    go_loopw [3, 4] (fun v3 _ wr => ∃ (k : Nat), k ≤ l.length ∧ v3 = .int .i64 k ∧ Hid (R = plainErr movE (l.drop k)) ∧ Hid (Below w.heap.size w wr)) (fun v3 _ _ => l.length - (intOf v3).toNat)
    case atStart => exact ⟨0, Nat.zero_le _, rfl, Lib.hid (by rw [HR.out]; rfl), Lib.hid (Below.refl _ _)⟩
    case round =>
      obtain ⟨k, hk, rfl, HD, HB⟩ := hrel
      by_cases hlt : k < l.length
      · have hrow := (HL.out.below HB.out).c k hlt
        have hd := HD.out.trans (plainErr_drop movE l k hlt rfl)
        have HDD := Lib.hid hd
        clear hd
        generalize l.getD k default = x at *
        have hb0 : (0 : Int) ≤ k := by omega
        have hb1 : (k : Int) < l.length := by omega
        have HEQ := Lib.hid (movE_eq x)
        obtain ⟨moment, kind, terminal, seats, size, noise, name⟩ := x
        simp only [MovV.cells] at hrow
        have z0 := hrow 0 _ rfl
        have z1 := hrow 1 _ rfl
        have z2 := hrow 2 _ rfl
        have z3 := hrow 3 _ rfl
        have z4 := hrow 4 _ rfl
        have z5 := hrow 5 _ rfl
        have z6 := hrow 6 _ rfl
        simp only [Nat.add_zero] at z0
        clear hrow
        have k2 : ∀ x : KeptW wr, x.v.cell? ⟨b, off + k * 7 + 2, none⟩ = some (.string terminal) := fun x => x.cell z2
        have k3 : ∀ x : KeptW wr, x.v.cell? ⟨b, off + k * 7 + 3, none⟩ = some (.int .i64 seats) := fun x => x.cell z3
        have k4 : ∀ x : KeptW wr, x.v.cell? ⟨b, off + k * 7 + 4, none⟩ = some (.int .i64 size) := fun x => x.cell z4
        have k5 : ∀ x : KeptW wr, x.v.cell? ⟨b, off + k * 7 + 5, none⟩ = some (.int .i64 noise) := fun x => x.cell z5
        have k6 : ∀ x : KeptW wr, x.v.cell? ⟨b, off + k * 7 + 6, none⟩ = some (.string name) := fun x => x.cell z6
        have hne : Nonempty (KeptW wr) := ⟨⟨wr, Below.refl _ _⟩⟩
        clear z2 z3 z4 z5 z6
        have HMV : Hid (movA ⟨moment, kind, terminal, seats, size, noise, name⟩ = if rng moment 0 143999999 = 0 then (if isKindB kind = true then 0 else 13) else rng moment 0 143999999) := Lib.hid rfl
        generalize hr : rng moment 0 143999999 = a at *
        have hgm : ∀ w : World, Calls Tryz.prog 53 #[.int .i64 moment] w fun r w' => r = .returned (.int .i64 a) ∧ w' = w := fun w => hr ▸ gMoment_any moment w
        clear hr
        by_cases ha : a = 0
        · subst ha
          cases hk1 : (kind.toList == [65])
          · cases hk2 : (kind.toList == [68])
            · have HMA : Hid (movA ⟨moment, kind, terminal, seats, size, noise, name⟩ = 13) := Lib.hid (by rw [HMV.out, if_pos rfl]; unfold isKindB; rw [hk1, hk2]; rfl)
              have HMB : Hid (movB ⟨moment, kind, terminal, seats, size, noise, name⟩ = fst [13, termE terminal, rng seats 0 999, rng size 1 9, rng noise 0 99]) := Lib.hid (by unfold movB; rw [HMA.out])
              go_wp2_with fail
              refine (hgm _).mono ?_
              rintro e1 w1 ⟨rfl, hw1⟩
              obtain rfl := hw1.symm
              go_upto_region 9 with fail
              refine tail_kept 25 (by kernel_rfl) (by kernel_rfl) ?_
              simp only [List.take_succ_cons, List.take_zero, List.drop_succ_cons, List.drop_zero]
              iterate 6 (go_big_quiet_step (fail))
              go_big_quiet_step (exact KeptW.calls (rTerm_any _ _))
              iterate 5 (go_big_quiet_step (fail))
              go_big_quiet_step (exact KeptW.calls_same (gRange_any _ _ _ _))
              iterate 5 (go_big_quiet_step (fail))
              go_big_quiet_step (exact KeptW.calls_same (rSize_any _ _))
              iterate 5 (go_big_quiet_step (fail))
              go_big_quiet_step (exact KeptW.calls_same (gRange_any _ _ _ _))
              refine wpQuiet_nil ?_
              rintro _ ⟨y, rfl⟩
              have HB3 := Lib.hid (b_then HB.out y.below)
              have z6' := k6 y
              clear k2 k3 k4 k5 k6 hne
              go_wp2_with fail
              refine (gFirst_new [_, _, _, _, _] _ _ _ _ _ rfl rfl (by simp)).mono ?_
              rintro e2 w3 ⟨rfl, hw3⟩
              have hb3 : Below y.v.heap.size y.v w3 := by rw [hw3]; exact below_alloc _ _
              have u6 := b_old hb3 z6'
              have HB4 := Lib.hid (b_then HB3.out hb3)
              clear hw3 hb3 z6'
              generalize fst [13, termE terminal, rng seats 0 999, rng size 1 9, rng noise 0 99] = mb at *
              by_cases hmb0 : mb = 0
              · subst hmb0
                have hq := qIsName_any name
                cases hnm : decide (isName name)
                · rw [hnm] at hq
                  have HE := Lib.hid (show R = 8 by rw [HDD.out, HEQ.out, HMB.out, if_pos rfl, hnm]; rfl)
                  go_wp2_with fail
                  refine (hq _).mono ?_
                  rintro e3 w4 ⟨rfl, hb4⟩
                  have HB5 := Lib.hid (b_then HB4.out hb4)
                  go_wp2_with fail
                  go_ret
                  exact ⟨by rw [HE.out]; rfl, HB5.out⟩
                · rw [hnm] at hq
                  have HE := Lib.hid (show R = plainErr movE (l.drop (k + 1)) by rw [HDD.out, HEQ.out, HMB.out, if_pos rfl, hnm]; simp)
                  go_wp2_with fail
                  refine (hq _).mono ?_
                  rintro e3 w4 ⟨rfl, hb4⟩
                  have HB5 := Lib.hid (b_then HB4.out hb4)
                  clear hb4
                  go_wp2_with fail
                  go_roundw
                  case rel => exact ⟨k + 1, by omega, by go_num, HE, HB5⟩
                  case measure => simp [intOf]; omega
              · have hm0 : (mb == 0) = false := by simpa using hmb0
                have hm1 : (mb != 0) = true := by simpa using hmb0
                have HE := Lib.hid (show R = mb by rw [HDD.out, HEQ.out, HMB.out, if_neg hmb0, if_pos hmb0])
                go_wp2_with fail
                go_ret
                exact ⟨by rw [HE.out]; rfl, HB4.out⟩
            · have HMA : Hid (movA ⟨moment, kind, terminal, seats, size, noise, name⟩ = 0) := Lib.hid (by rw [HMV.out, if_pos rfl]; unfold isKindB; rw [hk1, hk2]; rfl)
              have HMB : Hid (movB ⟨moment, kind, terminal, seats, size, noise, name⟩ = fst [0, termE terminal, rng seats 0 999, rng size 1 9, rng noise 0 99]) := Lib.hid (by unfold movB; rw [HMA.out])
              go_wp2_with fail
              refine (hgm _).mono ?_
              rintro e1 w1 ⟨rfl, hw1⟩
              obtain rfl := hw1.symm
              go_upto_region 9 with fail
              refine tail_kept 25 (by kernel_rfl) (by kernel_rfl) ?_
              simp only [List.take_succ_cons, List.take_zero, List.drop_succ_cons, List.drop_zero]
              iterate 6 (go_big_quiet_step (fail))
              go_big_quiet_step (exact KeptW.calls (rTerm_any _ _))
              iterate 5 (go_big_quiet_step (fail))
              go_big_quiet_step (exact KeptW.calls_same (gRange_any _ _ _ _))
              iterate 5 (go_big_quiet_step (fail))
              go_big_quiet_step (exact KeptW.calls_same (rSize_any _ _))
              iterate 5 (go_big_quiet_step (fail))
              go_big_quiet_step (exact KeptW.calls_same (gRange_any _ _ _ _))
              refine wpQuiet_nil ?_
              rintro _ ⟨y, rfl⟩
              have HB3 := Lib.hid (b_then HB.out y.below)
              have z6' := k6 y
              clear k2 k3 k4 k5 k6 hne
              go_wp2_with fail
              refine (gFirst_new [_, _, _, _, _] _ _ _ _ _ rfl rfl (by simp)).mono ?_
              rintro e2 w3 ⟨rfl, hw3⟩
              have hb3 : Below y.v.heap.size y.v w3 := by rw [hw3]; exact below_alloc _ _
              have u6 := b_old hb3 z6'
              have HB4 := Lib.hid (b_then HB3.out hb3)
              clear hw3 hb3 z6'
              generalize fst [0, termE terminal, rng seats 0 999, rng size 1 9, rng noise 0 99] = mb at *
              by_cases hmb0 : mb = 0
              · subst hmb0
                have hq := qIsName_any name
                cases hnm : decide (isName name)
                · rw [hnm] at hq
                  have HE := Lib.hid (show R = 8 by rw [HDD.out, HEQ.out, HMB.out, if_pos rfl, hnm]; rfl)
                  go_wp2_with fail
                  refine (hq _).mono ?_
                  rintro e3 w4 ⟨rfl, hb4⟩
                  have HB5 := Lib.hid (b_then HB4.out hb4)
                  go_wp2_with fail
                  go_ret
                  exact ⟨by rw [HE.out]; rfl, HB5.out⟩
                · rw [hnm] at hq
                  have HE := Lib.hid (show R = plainErr movE (l.drop (k + 1)) by rw [HDD.out, HEQ.out, HMB.out, if_pos rfl, hnm]; simp)
                  go_wp2_with fail
                  refine (hq _).mono ?_
                  rintro e3 w4 ⟨rfl, hb4⟩
                  have HB5 := Lib.hid (b_then HB4.out hb4)
                  clear hb4
                  go_wp2_with fail
                  go_roundw
                  case rel => exact ⟨k + 1, by omega, by go_num, HE, HB5⟩
                  case measure => simp [intOf]; omega
              · have hm0 : (mb == 0) = false := by simpa using hmb0
                have hm1 : (mb != 0) = true := by simpa using hmb0
                have HE := Lib.hid (show R = mb by rw [HDD.out, HEQ.out, HMB.out, if_neg hmb0, if_pos hmb0])
                go_wp2_with fail
                go_ret
                exact ⟨by rw [HE.out]; rfl, HB4.out⟩
          · have HMA : Hid (movA ⟨moment, kind, terminal, seats, size, noise, name⟩ = 0) := Lib.hid (by rw [HMV.out, if_pos rfl]; unfold isKindB; rw [hk1]; rfl)
            have HMB : Hid (movB ⟨moment, kind, terminal, seats, size, noise, name⟩ = fst [0, termE terminal, rng seats 0 999, rng size 1 9, rng noise 0 99]) := Lib.hid (by unfold movB; rw [HMA.out])
            go_wp2_with fail
            refine (hgm _).mono ?_
            rintro e1 w1 ⟨rfl, hw1⟩
            obtain rfl := hw1.symm
            go_upto_region 9 with fail
            refine tail_kept 25 (by kernel_rfl) (by kernel_rfl) ?_
            simp only [List.take_succ_cons, List.take_zero, List.drop_succ_cons, List.drop_zero]
            iterate 6 (go_big_quiet_step (fail))
            go_big_quiet_step (exact KeptW.calls (rTerm_any _ _))
            iterate 5 (go_big_quiet_step (fail))
            go_big_quiet_step (exact KeptW.calls_same (gRange_any _ _ _ _))
            iterate 5 (go_big_quiet_step (fail))
            go_big_quiet_step (exact KeptW.calls_same (rSize_any _ _))
            iterate 5 (go_big_quiet_step (fail))
            go_big_quiet_step (exact KeptW.calls_same (gRange_any _ _ _ _))
            refine wpQuiet_nil ?_
            rintro _ ⟨y, rfl⟩
            have HB3 := Lib.hid (b_then HB.out y.below)
            have z6' := k6 y
            clear k2 k3 k4 k5 k6 hne
            go_wp2_with fail
            refine (gFirst_new [_, _, _, _, _] _ _ _ _ _ rfl rfl (by simp)).mono ?_
            rintro e2 w3 ⟨rfl, hw3⟩
            have hb3 : Below y.v.heap.size y.v w3 := by rw [hw3]; exact below_alloc _ _
            have u6 := b_old hb3 z6'
            have HB4 := Lib.hid (b_then HB3.out hb3)
            clear hw3 hb3 z6'
            generalize fst [0, termE terminal, rng seats 0 999, rng size 1 9, rng noise 0 99] = mb at *
            by_cases hmb0 : mb = 0
            · subst hmb0
              have hq := qIsName_any name
              cases hnm : decide (isName name)
              · rw [hnm] at hq
                have HE := Lib.hid (show R = 8 by rw [HDD.out, HEQ.out, HMB.out, if_pos rfl, hnm]; rfl)
                go_wp2_with fail
                refine (hq _).mono ?_
                rintro e3 w4 ⟨rfl, hb4⟩
                have HB5 := Lib.hid (b_then HB4.out hb4)
                go_wp2_with fail
                go_ret
                exact ⟨by rw [HE.out]; rfl, HB5.out⟩
              · rw [hnm] at hq
                have HE := Lib.hid (show R = plainErr movE (l.drop (k + 1)) by rw [HDD.out, HEQ.out, HMB.out, if_pos rfl, hnm]; simp)
                go_wp2_with fail
                refine (hq _).mono ?_
                rintro e3 w4 ⟨rfl, hb4⟩
                have HB5 := Lib.hid (b_then HB4.out hb4)
                clear hb4
                go_wp2_with fail
                go_roundw
                case rel => exact ⟨k + 1, by omega, by go_num, HE, HB5⟩
                case measure => simp [intOf]; omega
            · have hm0 : (mb == 0) = false := by simpa using hmb0
              have hm1 : (mb != 0) = true := by simpa using hmb0
              have HE := Lib.hid (show R = mb by rw [HDD.out, HEQ.out, HMB.out, if_neg hmb0, if_pos hmb0])
              go_wp2_with fail
              go_ret
              exact ⟨by rw [HE.out]; rfl, HB4.out⟩
        · have hab : (a == 0) = false := by simpa using ha
          have HMA : Hid (movA ⟨moment, kind, terminal, seats, size, noise, name⟩ = a) := Lib.hid (by rw [HMV.out, if_neg ha])
          have HMB : Hid (movB ⟨moment, kind, terminal, seats, size, noise, name⟩ = fst [a, termE terminal, rng seats 0 999, rng size 1 9, rng noise 0 99]) := Lib.hid (by unfold movB; rw [HMA.out])
          go_wp2_with fail
          refine (hgm _).mono ?_
          rintro e1 w1 ⟨rfl, hw1⟩
          obtain rfl := hw1.symm
          go_upto_region 9 with fail
          refine tail_kept 25 (by kernel_rfl) (by kernel_rfl) ?_
          simp only [List.take_succ_cons, List.take_zero, List.drop_succ_cons, List.drop_zero]
          iterate 6 (go_big_quiet_step (fail))
          go_big_quiet_step (exact KeptW.calls (rTerm_any _ _))
          iterate 5 (go_big_quiet_step (fail))
          go_big_quiet_step (exact KeptW.calls_same (gRange_any _ _ _ _))
          iterate 5 (go_big_quiet_step (fail))
          go_big_quiet_step (exact KeptW.calls_same (rSize_any _ _))
          iterate 5 (go_big_quiet_step (fail))
          go_big_quiet_step (exact KeptW.calls_same (gRange_any _ _ _ _))
          refine wpQuiet_nil ?_
          rintro _ ⟨y, rfl⟩
          have HB3 := Lib.hid (b_then HB.out y.below)
          have z6' := k6 y
          clear k2 k3 k4 k5 k6 hne
          go_wp2_with fail
          refine (gFirst_new [_, _, _, _, _] _ _ _ _ _ rfl rfl (by simp)).mono ?_
          rintro e2 w3 ⟨rfl, hw3⟩
          have hb3 : Below y.v.heap.size y.v w3 := by rw [hw3]; exact below_alloc _ _
          have u6 := b_old hb3 z6'
          have HB4 := Lib.hid (b_then HB3.out hb3)
          clear hw3 hb3 z6'
          generalize fst [a, termE terminal, rng seats 0 999, rng size 1 9, rng noise 0 99] = mb at *
          by_cases hmb0 : mb = 0
          · subst hmb0
            have hq := qIsName_any name
            cases hnm : decide (isName name)
            · rw [hnm] at hq
              have HE := Lib.hid (show R = 8 by rw [HDD.out, HEQ.out, HMB.out, if_pos rfl, hnm]; rfl)
              go_wp2_with fail
              refine (hq _).mono ?_
              rintro e3 w4 ⟨rfl, hb4⟩
              have HB5 := Lib.hid (b_then HB4.out hb4)
              go_wp2_with fail
              go_ret
              exact ⟨by rw [HE.out]; rfl, HB5.out⟩
            · rw [hnm] at hq
              have HE := Lib.hid (show R = plainErr movE (l.drop (k + 1)) by rw [HDD.out, HEQ.out, HMB.out, if_pos rfl, hnm]; simp)
              go_wp2_with fail
              refine (hq _).mono ?_
              rintro e3 w4 ⟨rfl, hb4⟩
              have HB5 := Lib.hid (b_then HB4.out hb4)
              clear hb4
              go_wp2_with fail
              go_roundw
              case rel => exact ⟨k + 1, by omega, by go_num, HE, HB5⟩
              case measure => simp [intOf]; omega
          · have hm0 : (mb == 0) = false := by simpa using hmb0
            have hm1 : (mb != 0) = true := by simpa using hmb0
            have HE := Lib.hid (show R = mb by rw [HDD.out, HEQ.out, HMB.out, if_neg hmb0, if_pos hmb0])
            go_wp2_with fail
            go_ret
            exact ⟨by rw [HE.out]; rfl, HB4.out⟩
      · have HE := Lib.hid (show R = 0 by rw [HD.out, List.drop_eq_nil_of_le (by omega)]; rfl)
        go_wp2_with fail
        go_ret
        exact ⟨by rw [HE.out]; rfl, HB.out⟩
end Go.Proofs.YtkjhnemfebgcnaaGreatDoor
namespace Go.Proofs.YtkjhnemfebgcnaaGreatDoor
open Go Go.RowKit Go.ChangeMaps Go.MapKept
/-- A call that has returned whether a list is short. -/
structure ShMov (e : Ending) (l : List MovV) : Prop where
  ex : ∃ bb : Bool, e = .returned (.bool bb) ∧ (bb = true → l.length ≤ 258 ∧ ∀ k, k < l.length → (l.getD k default).name.size ≤ 60 ∧ (l.getD k default).terminal.size ≤ 60 ∧ (l.getD k default).kind.size ≤ 60)
set_option maxRecDepth 100000 in
set_option maxHeartbeats 2000000 in
theorem ShortMovements_some (m : Int) (l : List MovV) (b off cap : Nat) (w : World) (hl : RowsAt MovV.cells 7 w b off l) (hn : l.length ≤ 140737488355328) :
    Calls Tryz.prog 19 #[.slice (some ⟨b, off, none⟩) l.length cap, .int .i64 m] w fun e w' => ShMov e l ∧ Below w.heap.size w w' := by
  have HL := Lib.hid hl
  clear hl
  by_cases h1 : m < (l.length : Int)
  · by_cases h2 : (l.length : Int) ≤ 256
    · go_enter Tryz.func19, Tryz.ntmps19
      go_wp2_with fail
      go_ret
      exact ⟨⟨false, rfl, fun h => by cases h⟩, Below.refl _ _⟩
    · by_cases h3 : (258 : Int) < l.length
      · go_enter Tryz.func19, Tryz.ntmps19
        go_wp2_with fail
        go_ret
        exact ⟨⟨false, rfl, fun h => by cases h⟩, Below.refl _ _⟩
      · have hlm : l.length ≤ 258 := by omega
        go_enter Tryz.func19, Tryz.ntmps19
        go_wp2_with fail
        go_loopw [5] (fun v5 wr => ∃ (k : Nat), k ≤ l.length ∧ v5 = .int .i64 k ∧ Hid (∀ j, j < k → (l.getD j default).name.size ≤ 60 ∧ (l.getD j default).terminal.size ≤ 60 ∧ (l.getD j default).kind.size ≤ 60) ∧ Hid (Below w.heap.size w wr)) (fun v5 _ => l.length - (intOf v5).toNat)
        case atStart => exact ⟨0, Nat.zero_le _, rfl, Lib.hid (fun j h => by omega), Lib.hid (Below.refl _ _)⟩
        case round =>
          obtain ⟨k, hk, rfl, HA, HB⟩ := hrel
          by_cases hlt : k < l.length
          · have hrow := (HL.out.below HB.out).c k hlt
            have hb0 : (0 : Int) ≤ k := by omega
            have hb1 : (k : Int) < l.length := by omega
            generalize hx : l.getD k default = x at hrow
            have HX := Lib.hid hx
            clear hx
            obtain ⟨moment, kind, terminal, seats, size, noise, name⟩ := x
            simp only [MovV.cells] at hrow
            have z6 := hrow 6 _ rfl
            have z2 := hrow 2 _ rfl
            have z1 := hrow 1 _ rfl
            clear hrow
            by_cases g0 : (60 : Int) < name.size
            · go_wp2_with fail
              go_ret
              exact ⟨⟨false, rfl, fun h => by cases h⟩, HB.out⟩
            · by_cases g1 : (60 : Int) < terminal.size
              · go_wp2_with fail
                go_ret
                exact ⟨⟨false, rfl, fun h => by cases h⟩, HB.out⟩
              · by_cases g2 : (60 : Int) < kind.size
                · go_wp2_with fail
                  go_ret
                  exact ⟨⟨false, rfl, fun h => by cases h⟩, HB.out⟩
                · have HA2 : Hid (∀ j, j < k + 1 → (l.getD j default).name.size ≤ 60 ∧ (l.getD j default).terminal.size ≤ 60 ∧ (l.getD j default).kind.size ≤ 60) := Lib.hid fun j hj => by
                    rcases Nat.lt_or_ge j k with h | h
                    · exact HA.out j h
                    · obtain rfl : j = k := by omega
                      rw [HX.out]
                      exact ⟨by show name.size ≤ 60; omega, by show terminal.size ≤ 60; omega, by show kind.size ≤ 60; omega⟩
                  go_wp2_with fail
                  go_roundw
                  case rel => exact ⟨k + 1, by omega, by go_num, HA2, HB⟩
                  case measure => simp [intOf]; omega
          · obtain rfl : k = l.length := by omega
            have HLM := Lib.hid hlm
            go_wp2_with fail
            go_ret
            exact ⟨⟨true, rfl, fun _ => ⟨HLM.out, HA.out⟩⟩, HB.out⟩
  · by_cases h3 : (258 : Int) < l.length
    · go_enter Tryz.func19, Tryz.ntmps19
      go_wp2_with fail
      go_ret
      exact ⟨⟨false, rfl, fun h => by cases h⟩, Below.refl _ _⟩
    · have hlm : l.length ≤ 258 := by omega
      go_enter Tryz.func19, Tryz.ntmps19
      go_wp2_with fail
      go_loopw [5] (fun v5 wr => ∃ (k : Nat), k ≤ l.length ∧ v5 = .int .i64 k ∧ Hid (∀ j, j < k → (l.getD j default).name.size ≤ 60 ∧ (l.getD j default).terminal.size ≤ 60 ∧ (l.getD j default).kind.size ≤ 60) ∧ Hid (Below w.heap.size w wr)) (fun v5 _ => l.length - (intOf v5).toNat)
      case atStart => exact ⟨0, Nat.zero_le _, rfl, Lib.hid (fun j h => by omega), Lib.hid (Below.refl _ _)⟩
      case round =>
        obtain ⟨k, hk, rfl, HA, HB⟩ := hrel
        by_cases hlt : k < l.length
        · have hrow := (HL.out.below HB.out).c k hlt
          have hb0 : (0 : Int) ≤ k := by omega
          have hb1 : (k : Int) < l.length := by omega
          generalize hx : l.getD k default = x at hrow
          have HX := Lib.hid hx
          clear hx
          obtain ⟨moment, kind, terminal, seats, size, noise, name⟩ := x
          simp only [MovV.cells] at hrow
          have z6 := hrow 6 _ rfl
          have z2 := hrow 2 _ rfl
          have z1 := hrow 1 _ rfl
          clear hrow
          by_cases g0 : (60 : Int) < name.size
          · go_wp2_with fail
            go_ret
            exact ⟨⟨false, rfl, fun h => by cases h⟩, HB.out⟩
          · by_cases g1 : (60 : Int) < terminal.size
            · go_wp2_with fail
              go_ret
              exact ⟨⟨false, rfl, fun h => by cases h⟩, HB.out⟩
            · by_cases g2 : (60 : Int) < kind.size
              · go_wp2_with fail
                go_ret
                exact ⟨⟨false, rfl, fun h => by cases h⟩, HB.out⟩
              · have HA2 : Hid (∀ j, j < k + 1 → (l.getD j default).name.size ≤ 60 ∧ (l.getD j default).terminal.size ≤ 60 ∧ (l.getD j default).kind.size ≤ 60) := Lib.hid fun j hj => by
                  rcases Nat.lt_or_ge j k with h | h
                  · exact HA.out j h
                  · obtain rfl : j = k := by omega
                    rw [HX.out]
                    exact ⟨by show name.size ≤ 60; omega, by show terminal.size ≤ 60; omega, by show kind.size ≤ 60; omega⟩
                go_wp2_with fail
                go_roundw
                case rel => exact ⟨k + 1, by omega, by go_num, HA2, HB⟩
                case measure => simp [intOf]; omega
        · obtain rfl : k = l.length := by omega
          have HLM := Lib.hid hlm
          go_wp2_with fail
          go_ret
          exact ⟨⟨true, rfl, fun _ => ⟨HLM.out, HA.out⟩⟩, HB.out⟩
set_option maxRecDepth 100000 in
theorem ShortMovements_none (m : Int) (hm : 0 ≤ m) (A : Option Addr) (c : Nat) (w : World) :
    Calls Tryz.prog 19 #[.slice A 0 c, .int .i64 m] w fun e w' => ShMov e [] ∧ Below w.heap.size w w' := by
  have h1 : ¬ m < 0 := by omega
  go_enter Tryz.func19, Tryz.ntmps19
  go_wp2_with fail
  go_loopw [5] (fun v5 wr => v5 = .int .i64 0 ∧ wr = w) (fun _ _ => 0)
  case atStart => exact ⟨rfl, rfl⟩
  case round =>
    obtain ⟨rfl, rfl⟩ := hrel
    go_wp2_with fail
    go_ret
    exact ⟨⟨true, rfl, fun _ => ⟨by simp, fun k h => by simp at h⟩⟩, Below.refl _ _⟩
theorem ShortMovements_any (m : Int) (hm : 0 ≤ m) (l : List MovV) (v : Value) (w0 w : World) (hv : SlArg MovV.cells 7 w0 v l) (hb : Below w0.heap.size w0 w) (hn : l.length ≤ 140737488355328) :
    Calls Tryz.prog 19 #[v, .int .i64 m] w fun e w' => ShMov e l ∧ Below w.heap.size w w' := by
  rcases hv with ⟨rfl, A, c, rfl⟩ | ⟨h0, b, off, cap, rfl, hl, hc, hs⟩
  · exact ShortMovements_none m hm A c w
  · exact ShortMovements_some m l b off cap w (hl.below hb) hn
set_option maxRecDepth 100000 in
theorem refMovs_none (A : Option Addr) (c : Nat) (w : World) :
    Calls Tryz.prog 27 #[.slice A 0 c] w fun e w' => e = .returned (.int .i64 (movsErr [])) ∧ Below w.heap.size w w' := by
  have HE : Hid (movsErr [] = 0) := Lib.hid rfl
  go_enter Tryz.func27, Tryz.ntmps27
  go_wp2_with fail
  go_loopw [3] (fun v3 wr => v3 = .int .i64 0 ∧ wr = w) (fun _ _ => 0)
  case atStart => exact ⟨rfl, rfl⟩
  case round =>
    obtain ⟨rfl, rfl⟩ := hrel
    go_wp2_with fail
    go_ret
    exact ⟨by rw [HE.out]; rfl, Below.refl _ _⟩
theorem refMovs_any (l : List MovV) (v : Value) (w0 w : World) (hv : SlArg MovV.cells 7 w0 v l) (hb : Below w0.heap.size w0 w) (hn : l.length ≤ 5000) :
    Calls Tryz.prog 27 #[v] w fun e w' => e = .returned (.int .i64 (movsErr l)) ∧ Below w.heap.size w w' := by
  rcases hv with ⟨rfl, A, c, rfl⟩ | ⟨h0, b, off, cap, rfl, hl, hc, hs⟩
  · exact refMovs_none A c w
  · exact refMovs_some l b off cap w (hl.below hb) hn
end Go.Proofs.YtkjhnemfebgcnaaGreatDoor
namespace Go.Proofs.YtkjhnemfebgcnaaGreatDoor
open Go Go.RowKit Go.ChangeMaps Go.MapKept
def seatA (x : SeatV) : Int := if termE x.terminal = 0 then (if (x.kind.toList == [84] || isKindB x.kind) = true then 0 else 13) else termE x.terminal
theorem seatE_eq (x : SeatV) : seatE x = fst [seatA x, rng x.length 1 1440, rng x.step 1 x.length, rng x.most 0 999999999] := by
  have h1 : unl (x.kind.toList == [84] || isKindB x.kind) 13 = if (x.kind.toList == [84] || isKindB x.kind) = true then 0 else 13 := rfl
  unfold seatE seatA
  rw [h1]
  generalize termE x.terminal = a
  generalize (if (x.kind.toList == [84] || isKindB x.kind) = true then (0 : Int) else 13) = b
  by_cases h1 : a = 0 <;> by_cases h2 : b = 0 <;> simp [fst, h1, h2]
set_option maxRecDepth 100000 in
set_option maxHeartbeats 4000000 in
theorem refSeats_some (l : List SeatV) (b off cap : Nat) (w : World) (hl : RowsAt SeatV.cells 5 w b off l) (h9 : l.length ≤ 5000) :
    Calls Tryz.prog 29 #[.slice (some ⟨b, off, none⟩) l.length cap] w fun e w' => e = .returned (.int .i64 (seatsErr l)) ∧ Below w.heap.size w w' := by
  have HL := Lib.hid hl
  by_cases hm : 32 < l.length
  · have HE : Hid (seatsErr l = 5) := Lib.hid (by unfold seatsErr; rw [if_pos hm])
    have hmb : (32 : Int) < l.length := by omega
    clear hl
    go_enter Tryz.func29, Tryz.ntmps29
    go_wp2_with fail
    go_ret
    exact ⟨by rw [HE.out]; rfl, Below.refl _ _⟩
  · have hmb : ¬ (32 : Int) < l.length := by omega
    obtain ⟨R, hR⟩ : ∃ R, R = seatsErr l := ⟨_, rfl⟩
    rw [← hR]
    have HR : Hid (R = plainErr seatE l) := Lib.hid (by rw [hR]; unfold seatsErr; rw [if_neg hm])
    clear hl hR hm
    go_enter Tryz.func29, Tryz.ntmps29
    go_wp2_with fail
    go_loopw [3, 4] (fun v3 _ wr => ∃ (k : Nat), k ≤ l.length ∧ v3 = .int .i64 k ∧ Hid (R = plainErr seatE (l.drop k)) ∧ Hid (Below w.heap.size w wr)) (fun v3 _ _ => l.length - (intOf v3).toNat)
    case atStart => exact ⟨0, Nat.zero_le _, rfl, Lib.hid (by rw [HR.out]; rfl), Lib.hid (Below.refl _ _)⟩
    case round =>
      obtain ⟨k, hk, rfl, HD, HB⟩ := hrel
      by_cases hlt : k < l.length
      · have hrow := (HL.out.below HB.out).c k hlt
        have hd := HD.out.trans (plainErr_drop seatE l k hlt rfl)
        have HDD := Lib.hid hd
        clear hd
        generalize l.getD k default = x at *
        have hb0 : (0 : Int) ≤ k := by omega
        have hb1 : (k : Int) < l.length := by omega
        have HEQ := Lib.hid (seatE_eq x)
        obtain ⟨terminal, kind, length, step, most⟩ := x
        simp only [SeatV.cells] at hrow
        have z0 := hrow 0 _ rfl
        have z1 := hrow 1 _ rfl
        have z2 := hrow 2 _ rfl
        have z3 := hrow 3 _ rfl
        have z4 := hrow 4 _ rfl
        simp only [Nat.add_zero] at z0
        clear hrow
        have HMV : Hid (seatA ⟨terminal, kind, length, step, most⟩ = if termE terminal = 0 then (if (kind.toList == [84] || isKindB kind) = true then 0 else 13) else termE terminal) := Lib.hid rfl
        have hgm := rTerm_any terminal
        generalize termE terminal = a at *
        by_cases ha : a = 0
        · subst ha
          cases hk1 : (kind.toList == [65])
          · cases hk2 : (kind.toList == [68])
            · cases hk3 : (kind.toList == [84])
              · have HMA : Hid (seatA ⟨terminal, kind, length, step, most⟩ = 13) := Lib.hid (by rw [HMV.out, if_pos rfl, hk3]; unfold isKindB; rw [hk1, hk2]; rfl)
                go_wp2_with fail
                refine (hgm _).mono ?_
                rintro e1 w1 ⟨rfl, hb1⟩
                have y1 := b_old hb1 z1
                have y2 := b_old hb1 z2
                have y3 := b_old hb1 z3
                have y4 := b_old hb1 z4
                have HB1 := Lib.hid (b_then HB.out hb1)
                have k2 : ∀ x : KeptW w1, x.v.cell? ⟨b, off + k * 5 + 2, none⟩ = some (.int .i64 length) := fun x => x.cell y2
                have k3 : ∀ x : KeptW w1, x.v.cell? ⟨b, off + k * 5 + 3, none⟩ = some (.int .i64 step) := fun x => x.cell y3
                have k4 : ∀ x : KeptW w1, x.v.cell? ⟨b, off + k * 5 + 4, none⟩ = some (.int .i64 most) := fun x => x.cell y4
                have hne : Nonempty (KeptW w1) := ⟨⟨w1, Below.refl _ _⟩⟩
                clear z0 z1 z2 z3 z4 y2 y3 y4 hb1 hgm
                go_upto_region 9 with fail
                refine tail_kept 24 (by kernel_rfl) (by kernel_rfl) ?_
                simp only [List.take_succ_cons, List.take_zero, List.drop_succ_cons, List.drop_zero]
                iterate 6 (go_big_quiet_step (fail))
                go_big_quiet_step (exact KeptW.calls_same (gRange_any _ _ _ _))
                iterate 10 (go_big_quiet_step (fail))
                go_big_quiet_step (exact KeptW.calls_same (gRange_any _ _ _ _))
                iterate 5 (go_big_quiet_step (fail))
                go_big_quiet_step (exact KeptW.calls_same (gRange_any _ _ _ _))
                refine wpQuiet_nil ?_
                rintro _ ⟨y, rfl⟩
                have HB3 := Lib.hid (b_then HB1.out y.below)
                clear k2 k3 k4 hne
                go_wp2_with fail
                refine (gFirst_new [_, _, _, _] _ _ _ _ _ rfl rfl (by simp)).mono ?_
                rintro e2 w3 ⟨rfl, hw3⟩
                have HB4 : Hid (Below w.heap.size w w3) := Lib.hid (by rw [hw3]; exact b_then HB3.out (below_alloc _ _))
                clear hw3
                have HEQ2 : Hid (seatE ⟨terminal, kind, length, step, most⟩ = fst [13, rng length 1 1440, rng step 1 length, rng most 0 999999999]) := Lib.hid (by rw [HEQ.out, HMA.out])
                generalize seatE ⟨terminal, kind, length, step, most⟩ = e at *
                generalize fst [13, rng length 1 1440, rng step 1 length, rng most 0 999999999] = e' at *
                have hEE := HEQ2.out
                subst hEE
                by_cases he : e = 0
                · subst he
                  go_wp2_with fail
                  go_roundw
                  case rel => exact ⟨k + 1, by omega, by go_num, Lib.hid (by rw [HDD.out, if_neg (by simp)]), HB4⟩
                  case measure => simp [intOf]; omega
                · have hbe : (e != 0) = true := by simpa using he
                  have HE := Lib.hid (show R = e by rw [HDD.out, if_pos he])
                  go_wp2_with fail
                  go_ret
                  exact ⟨by rw [HE.out]; rfl, HB4.out⟩
              · have HMA : Hid (seatA ⟨terminal, kind, length, step, most⟩ = 0) := Lib.hid (by rw [HMV.out, if_pos rfl, hk3]; rfl)
                go_wp2_with fail
                refine (hgm _).mono ?_
                rintro e1 w1 ⟨rfl, hb1⟩
                have y1 := b_old hb1 z1
                have y2 := b_old hb1 z2
                have y3 := b_old hb1 z3
                have y4 := b_old hb1 z4
                have HB1 := Lib.hid (b_then HB.out hb1)
                have k2 : ∀ x : KeptW w1, x.v.cell? ⟨b, off + k * 5 + 2, none⟩ = some (.int .i64 length) := fun x => x.cell y2
                have k3 : ∀ x : KeptW w1, x.v.cell? ⟨b, off + k * 5 + 3, none⟩ = some (.int .i64 step) := fun x => x.cell y3
                have k4 : ∀ x : KeptW w1, x.v.cell? ⟨b, off + k * 5 + 4, none⟩ = some (.int .i64 most) := fun x => x.cell y4
                have hne : Nonempty (KeptW w1) := ⟨⟨w1, Below.refl _ _⟩⟩
                clear z0 z1 z2 z3 z4 y2 y3 y4 hb1 hgm
                go_upto_region 9 with fail
                refine tail_kept 24 (by kernel_rfl) (by kernel_rfl) ?_
                simp only [List.take_succ_cons, List.take_zero, List.drop_succ_cons, List.drop_zero]
                iterate 6 (go_big_quiet_step (fail))
                go_big_quiet_step (exact KeptW.calls_same (gRange_any _ _ _ _))
                iterate 10 (go_big_quiet_step (fail))
                go_big_quiet_step (exact KeptW.calls_same (gRange_any _ _ _ _))
                iterate 5 (go_big_quiet_step (fail))
                go_big_quiet_step (exact KeptW.calls_same (gRange_any _ _ _ _))
                refine wpQuiet_nil ?_
                rintro _ ⟨y, rfl⟩
                have HB3 := Lib.hid (b_then HB1.out y.below)
                clear k2 k3 k4 hne
                go_wp2_with fail
                refine (gFirst_new [_, _, _, _] _ _ _ _ _ rfl rfl (by simp)).mono ?_
                rintro e2 w3 ⟨rfl, hw3⟩
                have HB4 : Hid (Below w.heap.size w w3) := Lib.hid (by rw [hw3]; exact b_then HB3.out (below_alloc _ _))
                clear hw3
                have HEQ2 : Hid (seatE ⟨terminal, kind, length, step, most⟩ = fst [0, rng length 1 1440, rng step 1 length, rng most 0 999999999]) := Lib.hid (by rw [HEQ.out, HMA.out])
                generalize seatE ⟨terminal, kind, length, step, most⟩ = e at *
                generalize fst [0, rng length 1 1440, rng step 1 length, rng most 0 999999999] = e' at *
                have hEE := HEQ2.out
                subst hEE
                by_cases he : e = 0
                · subst he
                  go_wp2_with fail
                  go_roundw
                  case rel => exact ⟨k + 1, by omega, by go_num, Lib.hid (by rw [HDD.out, if_neg (by simp)]), HB4⟩
                  case measure => simp [intOf]; omega
                · have hbe : (e != 0) = true := by simpa using he
                  have HE := Lib.hid (show R = e by rw [HDD.out, if_pos he])
                  go_wp2_with fail
                  go_ret
                  exact ⟨by rw [HE.out]; rfl, HB4.out⟩
            · have HMA : Hid (seatA ⟨terminal, kind, length, step, most⟩ = 0) := Lib.hid (by rw [HMV.out, if_pos rfl]; unfold isKindB; rw [hk1, hk2]; cases (kind.toList == [84]) <;> rfl)
              go_wp2_with fail
              refine (hgm _).mono ?_
              rintro e1 w1 ⟨rfl, hb1⟩
              have y1 := b_old hb1 z1
              have y2 := b_old hb1 z2
              have y3 := b_old hb1 z3
              have y4 := b_old hb1 z4
              have HB1 := Lib.hid (b_then HB.out hb1)
              have k2 : ∀ x : KeptW w1, x.v.cell? ⟨b, off + k * 5 + 2, none⟩ = some (.int .i64 length) := fun x => x.cell y2
              have k3 : ∀ x : KeptW w1, x.v.cell? ⟨b, off + k * 5 + 3, none⟩ = some (.int .i64 step) := fun x => x.cell y3
              have k4 : ∀ x : KeptW w1, x.v.cell? ⟨b, off + k * 5 + 4, none⟩ = some (.int .i64 most) := fun x => x.cell y4
              have hne : Nonempty (KeptW w1) := ⟨⟨w1, Below.refl _ _⟩⟩
              clear z0 z1 z2 z3 z4 y2 y3 y4 hb1 hgm
              go_upto_region 9 with fail
              refine tail_kept 24 (by kernel_rfl) (by kernel_rfl) ?_
              simp only [List.take_succ_cons, List.take_zero, List.drop_succ_cons, List.drop_zero]
              iterate 6 (go_big_quiet_step (fail))
              go_big_quiet_step (exact KeptW.calls_same (gRange_any _ _ _ _))
              iterate 10 (go_big_quiet_step (fail))
              go_big_quiet_step (exact KeptW.calls_same (gRange_any _ _ _ _))
              iterate 5 (go_big_quiet_step (fail))
              go_big_quiet_step (exact KeptW.calls_same (gRange_any _ _ _ _))
              refine wpQuiet_nil ?_
              rintro _ ⟨y, rfl⟩
              have HB3 := Lib.hid (b_then HB1.out y.below)
              clear k2 k3 k4 hne
              go_wp2_with fail
              refine (gFirst_new [_, _, _, _] _ _ _ _ _ rfl rfl (by simp)).mono ?_
              rintro e2 w3 ⟨rfl, hw3⟩
              have HB4 : Hid (Below w.heap.size w w3) := Lib.hid (by rw [hw3]; exact b_then HB3.out (below_alloc _ _))
              clear hw3
              have HEQ2 : Hid (seatE ⟨terminal, kind, length, step, most⟩ = fst [0, rng length 1 1440, rng step 1 length, rng most 0 999999999]) := Lib.hid (by rw [HEQ.out, HMA.out])
              generalize seatE ⟨terminal, kind, length, step, most⟩ = e at *
              generalize fst [0, rng length 1 1440, rng step 1 length, rng most 0 999999999] = e' at *
              have hEE := HEQ2.out
              subst hEE
              by_cases he : e = 0
              · subst he
                go_wp2_with fail
                go_roundw
                case rel => exact ⟨k + 1, by omega, by go_num, Lib.hid (by rw [HDD.out, if_neg (by simp)]), HB4⟩
                case measure => simp [intOf]; omega
              · have hbe : (e != 0) = true := by simpa using he
                have HE := Lib.hid (show R = e by rw [HDD.out, if_pos he])
                go_wp2_with fail
                go_ret
                exact ⟨by rw [HE.out]; rfl, HB4.out⟩
          · have HMA : Hid (seatA ⟨terminal, kind, length, step, most⟩ = 0) := Lib.hid (by rw [HMV.out, if_pos rfl]; unfold isKindB; rw [hk1]; cases (kind.toList == [84]) <;> rfl)
            go_wp2_with fail
            refine (hgm _).mono ?_
            rintro e1 w1 ⟨rfl, hb1⟩
            have y1 := b_old hb1 z1
            have y2 := b_old hb1 z2
            have y3 := b_old hb1 z3
            have y4 := b_old hb1 z4
            have HB1 := Lib.hid (b_then HB.out hb1)
            have k2 : ∀ x : KeptW w1, x.v.cell? ⟨b, off + k * 5 + 2, none⟩ = some (.int .i64 length) := fun x => x.cell y2
            have k3 : ∀ x : KeptW w1, x.v.cell? ⟨b, off + k * 5 + 3, none⟩ = some (.int .i64 step) := fun x => x.cell y3
            have k4 : ∀ x : KeptW w1, x.v.cell? ⟨b, off + k * 5 + 4, none⟩ = some (.int .i64 most) := fun x => x.cell y4
            have hne : Nonempty (KeptW w1) := ⟨⟨w1, Below.refl _ _⟩⟩
            clear z0 z1 z2 z3 z4 y2 y3 y4 hb1 hgm
            go_upto_region 9 with fail
            refine tail_kept 24 (by kernel_rfl) (by kernel_rfl) ?_
            simp only [List.take_succ_cons, List.take_zero, List.drop_succ_cons, List.drop_zero]
            iterate 6 (go_big_quiet_step (fail))
            go_big_quiet_step (exact KeptW.calls_same (gRange_any _ _ _ _))
            iterate 10 (go_big_quiet_step (fail))
            go_big_quiet_step (exact KeptW.calls_same (gRange_any _ _ _ _))
            iterate 5 (go_big_quiet_step (fail))
            go_big_quiet_step (exact KeptW.calls_same (gRange_any _ _ _ _))
            refine wpQuiet_nil ?_
            rintro _ ⟨y, rfl⟩
            have HB3 := Lib.hid (b_then HB1.out y.below)
            clear k2 k3 k4 hne
            go_wp2_with fail
            refine (gFirst_new [_, _, _, _] _ _ _ _ _ rfl rfl (by simp)).mono ?_
            rintro e2 w3 ⟨rfl, hw3⟩
            have HB4 : Hid (Below w.heap.size w w3) := Lib.hid (by rw [hw3]; exact b_then HB3.out (below_alloc _ _))
            clear hw3
            have HEQ2 : Hid (seatE ⟨terminal, kind, length, step, most⟩ = fst [0, rng length 1 1440, rng step 1 length, rng most 0 999999999]) := Lib.hid (by rw [HEQ.out, HMA.out])
            generalize seatE ⟨terminal, kind, length, step, most⟩ = e at *
            generalize fst [0, rng length 1 1440, rng step 1 length, rng most 0 999999999] = e' at *
            have hEE := HEQ2.out
            subst hEE
            by_cases he : e = 0
            · subst he
              go_wp2_with fail
              go_roundw
              case rel => exact ⟨k + 1, by omega, by go_num, Lib.hid (by rw [HDD.out, if_neg (by simp)]), HB4⟩
              case measure => simp [intOf]; omega
            · have hbe : (e != 0) = true := by simpa using he
              have HE := Lib.hid (show R = e by rw [HDD.out, if_pos he])
              go_wp2_with fail
              go_ret
              exact ⟨by rw [HE.out]; rfl, HB4.out⟩
        · have hab : (a == 0) = false := by simpa using ha
          have HMA : Hid (seatA ⟨terminal, kind, length, step, most⟩ = a) := Lib.hid (by rw [HMV.out, if_neg ha])
          go_wp2_with fail
          refine (hgm _).mono ?_
          rintro e1 w1 ⟨rfl, hb1⟩
          have y1 := b_old hb1 z1
          have y2 := b_old hb1 z2
          have y3 := b_old hb1 z3
          have y4 := b_old hb1 z4
          have HB1 := Lib.hid (b_then HB.out hb1)
          have k2 : ∀ x : KeptW w1, x.v.cell? ⟨b, off + k * 5 + 2, none⟩ = some (.int .i64 length) := fun x => x.cell y2
          have k3 : ∀ x : KeptW w1, x.v.cell? ⟨b, off + k * 5 + 3, none⟩ = some (.int .i64 step) := fun x => x.cell y3
          have k4 : ∀ x : KeptW w1, x.v.cell? ⟨b, off + k * 5 + 4, none⟩ = some (.int .i64 most) := fun x => x.cell y4
          have hne : Nonempty (KeptW w1) := ⟨⟨w1, Below.refl _ _⟩⟩
          clear z0 z1 z2 z3 z4 y2 y3 y4 hb1 hgm
          go_upto_region 9 with fail
          refine tail_kept 24 (by kernel_rfl) (by kernel_rfl) ?_
          simp only [List.take_succ_cons, List.take_zero, List.drop_succ_cons, List.drop_zero]
          iterate 6 (go_big_quiet_step (fail))
          go_big_quiet_step (exact KeptW.calls_same (gRange_any _ _ _ _))
          iterate 10 (go_big_quiet_step (fail))
          go_big_quiet_step (exact KeptW.calls_same (gRange_any _ _ _ _))
          iterate 5 (go_big_quiet_step (fail))
          go_big_quiet_step (exact KeptW.calls_same (gRange_any _ _ _ _))
          refine wpQuiet_nil ?_
          rintro _ ⟨y, rfl⟩
          have HB3 := Lib.hid (b_then HB1.out y.below)
          clear k2 k3 k4 hne
          go_wp2_with fail
          refine (gFirst_new [_, _, _, _] _ _ _ _ _ rfl rfl (by simp)).mono ?_
          rintro e2 w3 ⟨rfl, hw3⟩
          have HB4 : Hid (Below w.heap.size w w3) := Lib.hid (by rw [hw3]; exact b_then HB3.out (below_alloc _ _))
          clear hw3
          have HEQ2 : Hid (seatE ⟨terminal, kind, length, step, most⟩ = fst [a, rng length 1 1440, rng step 1 length, rng most 0 999999999]) := Lib.hid (by rw [HEQ.out, HMA.out])
          generalize seatE ⟨terminal, kind, length, step, most⟩ = e at *
          generalize fst [a, rng length 1 1440, rng step 1 length, rng most 0 999999999] = e' at *
          have hEE := HEQ2.out
          subst hEE
          by_cases he : e = 0
          · subst he
            go_wp2_with fail
            go_roundw
            case rel => exact ⟨k + 1, by omega, by go_num, Lib.hid (by rw [HDD.out, if_neg (by simp)]), HB4⟩
            case measure => simp [intOf]; omega
          · have hbe : (e != 0) = true := by simpa using he
            have HE := Lib.hid (show R = e by rw [HDD.out, if_pos he])
            go_wp2_with fail
            go_ret
            exact ⟨by rw [HE.out]; rfl, HB4.out⟩
      · have HE := Lib.hid (show R = 0 by rw [HD.out, List.drop_eq_nil_of_le (by omega)]; rfl)
        go_wp2_with fail
        go_ret
        exact ⟨by rw [HE.out]; rfl, HB.out⟩
end Go.Proofs.YtkjhnemfebgcnaaGreatDoor
namespace Go.Proofs.YtkjhnemfebgcnaaGreatDoor
open Go Go.RowKit Go.ChangeMaps Go.MapKept
/-- A call that has returned whether a list is short. -/
structure ShSeat (e : Ending) (l : List SeatV) : Prop where
  ex : ∃ bb : Bool, e = .returned (.bool bb) ∧ (bb = true → l.length ≤ 34 ∧ ∀ k, k < l.length → (l.getD k default).kind.size ≤ 60 ∧ (l.getD k default).terminal.size ≤ 60)
set_option maxRecDepth 100000 in
set_option maxHeartbeats 2000000 in
theorem ShortSeats_some (m : Int) (l : List SeatV) (b off cap : Nat) (w : World) (hl : RowsAt SeatV.cells 5 w b off l) (hn : l.length ≤ 140737488355328) :
    Calls Tryz.prog 20 #[.slice (some ⟨b, off, none⟩) l.length cap, .int .i64 m] w fun e w' => ShSeat e l ∧ Below w.heap.size w w' := by
  have HL := Lib.hid hl
  clear hl
  by_cases h1 : m < (l.length : Int)
  · by_cases h2 : (l.length : Int) ≤ 32
    · go_enter Tryz.func20, Tryz.ntmps20
      go_wp2_with fail
      go_ret
      exact ⟨⟨false, rfl, fun h => by cases h⟩, Below.refl _ _⟩
    · by_cases h3 : (34 : Int) < l.length
      · go_enter Tryz.func20, Tryz.ntmps20
        go_wp2_with fail
        go_ret
        exact ⟨⟨false, rfl, fun h => by cases h⟩, Below.refl _ _⟩
      · have hlm : l.length ≤ 34 := by omega
        go_enter Tryz.func20, Tryz.ntmps20
        go_wp2_with fail
        go_loopw [5] (fun v5 wr => ∃ (k : Nat), k ≤ l.length ∧ v5 = .int .i64 k ∧ Hid (∀ j, j < k → (l.getD j default).kind.size ≤ 60 ∧ (l.getD j default).terminal.size ≤ 60) ∧ Hid (Below w.heap.size w wr)) (fun v5 _ => l.length - (intOf v5).toNat)
        case atStart => exact ⟨0, Nat.zero_le _, rfl, Lib.hid (fun j h => by omega), Lib.hid (Below.refl _ _)⟩
        case round =>
          obtain ⟨k, hk, rfl, HA, HB⟩ := hrel
          by_cases hlt : k < l.length
          · have hrow := (HL.out.below HB.out).c k hlt
            have hb0 : (0 : Int) ≤ k := by omega
            have hb1 : (k : Int) < l.length := by omega
            generalize hx : l.getD k default = x at hrow
            have HX := Lib.hid hx
            clear hx
            obtain ⟨terminal, kind, length, step, most⟩ := x
            simp only [SeatV.cells] at hrow
            have z1 := hrow 1 _ rfl
            have z0 := hrow 0 _ rfl
            simp only [Nat.add_zero] at z0
            clear hrow
            by_cases g0 : (60 : Int) < kind.size
            · go_wp2_with fail
              go_ret
              exact ⟨⟨false, rfl, fun h => by cases h⟩, HB.out⟩
            · by_cases g1 : (60 : Int) < terminal.size
              · go_wp2_with fail
                go_ret
                exact ⟨⟨false, rfl, fun h => by cases h⟩, HB.out⟩
              · have HA2 : Hid (∀ j, j < k + 1 → (l.getD j default).kind.size ≤ 60 ∧ (l.getD j default).terminal.size ≤ 60) := Lib.hid fun j hj => by
                  rcases Nat.lt_or_ge j k with h | h
                  · exact HA.out j h
                  · obtain rfl : j = k := by omega
                    rw [HX.out]
                    exact ⟨by show kind.size ≤ 60; omega, by show terminal.size ≤ 60; omega⟩
                go_wp2_with fail
                go_roundw
                case rel => exact ⟨k + 1, by omega, by go_num, HA2, HB⟩
                case measure => simp [intOf]; omega
          · obtain rfl : k = l.length := by omega
            have HLM := Lib.hid hlm
            go_wp2_with fail
            go_ret
            exact ⟨⟨true, rfl, fun _ => ⟨HLM.out, HA.out⟩⟩, HB.out⟩
  · by_cases h3 : (34 : Int) < l.length
    · go_enter Tryz.func20, Tryz.ntmps20
      go_wp2_with fail
      go_ret
      exact ⟨⟨false, rfl, fun h => by cases h⟩, Below.refl _ _⟩
    · have hlm : l.length ≤ 34 := by omega
      go_enter Tryz.func20, Tryz.ntmps20
      go_wp2_with fail
      go_loopw [5] (fun v5 wr => ∃ (k : Nat), k ≤ l.length ∧ v5 = .int .i64 k ∧ Hid (∀ j, j < k → (l.getD j default).kind.size ≤ 60 ∧ (l.getD j default).terminal.size ≤ 60) ∧ Hid (Below w.heap.size w wr)) (fun v5 _ => l.length - (intOf v5).toNat)
      case atStart => exact ⟨0, Nat.zero_le _, rfl, Lib.hid (fun j h => by omega), Lib.hid (Below.refl _ _)⟩
      case round =>
        obtain ⟨k, hk, rfl, HA, HB⟩ := hrel
        by_cases hlt : k < l.length
        · have hrow := (HL.out.below HB.out).c k hlt
          have hb0 : (0 : Int) ≤ k := by omega
          have hb1 : (k : Int) < l.length := by omega
          generalize hx : l.getD k default = x at hrow
          have HX := Lib.hid hx
          clear hx
          obtain ⟨terminal, kind, length, step, most⟩ := x
          simp only [SeatV.cells] at hrow
          have z1 := hrow 1 _ rfl
          have z0 := hrow 0 _ rfl
          simp only [Nat.add_zero] at z0
          clear hrow
          by_cases g0 : (60 : Int) < kind.size
          · go_wp2_with fail
            go_ret
            exact ⟨⟨false, rfl, fun h => by cases h⟩, HB.out⟩
          · by_cases g1 : (60 : Int) < terminal.size
            · go_wp2_with fail
              go_ret
              exact ⟨⟨false, rfl, fun h => by cases h⟩, HB.out⟩
            · have HA2 : Hid (∀ j, j < k + 1 → (l.getD j default).kind.size ≤ 60 ∧ (l.getD j default).terminal.size ≤ 60) := Lib.hid fun j hj => by
                rcases Nat.lt_or_ge j k with h | h
                · exact HA.out j h
                · obtain rfl : j = k := by omega
                  rw [HX.out]
                  exact ⟨by show kind.size ≤ 60; omega, by show terminal.size ≤ 60; omega⟩
              go_wp2_with fail
              go_roundw
              case rel => exact ⟨k + 1, by omega, by go_num, HA2, HB⟩
              case measure => simp [intOf]; omega
        · obtain rfl : k = l.length := by omega
          have HLM := Lib.hid hlm
          go_wp2_with fail
          go_ret
          exact ⟨⟨true, rfl, fun _ => ⟨HLM.out, HA.out⟩⟩, HB.out⟩
set_option maxRecDepth 100000 in
theorem ShortSeats_none (m : Int) (hm : 0 ≤ m) (A : Option Addr) (c : Nat) (w : World) :
    Calls Tryz.prog 20 #[.slice A 0 c, .int .i64 m] w fun e w' => ShSeat e [] ∧ Below w.heap.size w w' := by
  have h1 : ¬ m < 0 := by omega
  go_enter Tryz.func20, Tryz.ntmps20
  go_wp2_with fail
  go_loopw [5] (fun v5 wr => v5 = .int .i64 0 ∧ wr = w) (fun _ _ => 0)
  case atStart => exact ⟨rfl, rfl⟩
  case round =>
    obtain ⟨rfl, rfl⟩ := hrel
    go_wp2_with fail
    go_ret
    exact ⟨⟨true, rfl, fun _ => ⟨by simp, fun k h => by simp at h⟩⟩, Below.refl _ _⟩
theorem ShortSeats_any (m : Int) (hm : 0 ≤ m) (l : List SeatV) (v : Value) (w0 w : World) (hv : SlArg SeatV.cells 5 w0 v l) (hb : Below w0.heap.size w0 w) (hn : l.length ≤ 140737488355328) :
    Calls Tryz.prog 20 #[v, .int .i64 m] w fun e w' => ShSeat e l ∧ Below w.heap.size w w' := by
  rcases hv with ⟨rfl, A, c, rfl⟩ | ⟨h0, b, off, cap, rfl, hl, hc, hs⟩
  · exact ShortSeats_none m hm A c w
  · exact ShortSeats_some m l b off cap w (hl.below hb) hn
set_option maxRecDepth 100000 in
theorem refSeats_none (A : Option Addr) (c : Nat) (w : World) :
    Calls Tryz.prog 29 #[.slice A 0 c] w fun e w' => e = .returned (.int .i64 (seatsErr [])) ∧ Below w.heap.size w w' := by
  have HE : Hid (seatsErr [] = 0) := Lib.hid rfl
  go_enter Tryz.func29, Tryz.ntmps29
  go_wp2_with fail
  go_loopw [3] (fun v3 wr => v3 = .int .i64 0 ∧ wr = w) (fun _ _ => 0)
  case atStart => exact ⟨rfl, rfl⟩
  case round =>
    obtain ⟨rfl, rfl⟩ := hrel
    go_wp2_with fail
    go_ret
    exact ⟨by rw [HE.out]; rfl, Below.refl _ _⟩
theorem refSeats_any (l : List SeatV) (v : Value) (w0 w : World) (hv : SlArg SeatV.cells 5 w0 v l) (hb : Below w0.heap.size w0 w) (hn : l.length ≤ 5000) :
    Calls Tryz.prog 29 #[v] w fun e w' => e = .returned (.int .i64 (seatsErr l)) ∧ Below w.heap.size w w' := by
  rcases hv with ⟨rfl, A, c, rfl⟩ | ⟨h0, b, off, cap, rfl, hl, hc, hs⟩
  · exact refSeats_none A c w
  · exact refSeats_some l b off cap w (hl.below hb) hn
end Go.Proofs.YtkjhnemfebgcnaaGreatDoor
namespace Go.Proofs.YtkjhnemfebgcnaaGreatDoor
open Go Go.RowKit Go.ChangeMaps Go.MapKept
theorem OwnStand_info : ∃ i0, Tryz.prog.info? 67 = some i0 ∧ i0.zero = some (.agg #[.string ⟨#[]⟩, .int .i64 0, .string ⟨#[]⟩]) ∧ i0.size = 3 ∧ i0.bytes = 40 := by
  have h : (Tryz.prog.info? 67).map (fun i => (i.zero, i.size, i.bytes)) = some (some (.agg #[.string ⟨#[]⟩, .int .i64 0, .string ⟨#[]⟩]), 3, 40) := by kernel_rfl
  cases hp : Tryz.prog.info? 67 with
  | none => rw [hp] at h; simp at h
  | some i => rw [hp] at h; simp only [Option.map_some, Option.some.injEq, Prod.mk.injEq] at h; exact ⟨i, rfl, h.1, h.2.1, h.2.2⟩
set_option maxRecDepth 100000 in
set_option maxHeartbeats 4000000 in
theorem OwnStand_some (L : List StandV) (b off cap : Nat) (w : World) (hl : RowsAt StandV.cells 3 w b off L) (hn : L.length * 40 ≤ 140737488355328) :
    Calls Tryz.prog 16 #[.slice (some ⟨b, off, none⟩) L.length cap] w fun e w' => SlR StandV.cells 3 67 e w' w.heap.size L ∧ Below w.heap.size w w' := by
  have HL := Lib.hid hl
  clear hl
  obtain ⟨i0, hi, hz0, hz1, hz2⟩ := OwnStand_info
  go_enter Tryz.func16, Tryz.ntmps16
  go_wp2_with fail
  go_loopw [3, 4, 7] (fun v3 _ i wr => ∃ (k : Nat), k ≤ L.length ∧ i = .int .i64 k ∧ wr.ownsRow w.heap.size 67 3 v3 k (flatG StandV.cells (L.take k)) ∧ Hid (Below w.heap.size w wr)) (fun _ _ i _ => L.length - (intOf i).toNat)
  case atStart => exact ⟨0, Nat.zero_le _, rfl, World.ownsRow_nil _ _ _ _, Lib.hid (Below.refl _ _)⟩
  case round =>
    obtain ⟨k, hk, rfl, hown, HB⟩ := hrel
    by_cases hlt : k < L.length
    · have hrow := (HL.out.below HB.out).c k hlt
      have HT : Hid (flatG StandV.cells (L.take (k + 1)) = flatG StandV.cells (L.take k) ++ (L.getD k default).cells.toList) := Lib.hid (flatG_take L k hlt)
      generalize L.getD k default = l at hrow HT
      obtain ⟨zname, zsize, zterminal⟩ := l
      simp only [StandV.cells] at HT hrow
      have x0 := hrow 0 _ rfl
      have x1 := hrow 1 _ rfl
      have x2 := hrow 2 _ rfl
      clear hrow
      simp only [Nat.add_zero] at x0
      have hlen := flatG_len (f := StandV.cells) (k := 3) (fun _ => rfl) (L.take k)
      rw [List.length_take, Nat.min_eq_left hk] at hlen
      generalize flatG StandV.cells (L.take k) = fl at *
      have hsz := HB.out.size
      have hownB := hown.alloc (.cells #[.string zname, .int .i64 zsize, .string zterminal] 67)
      have HNB : Hid ((wr.alloc (.cells #[.string zname, .int .i64 zsize, .string zterminal] 67)).heap[wr.heap.size]? = some (.cells #[.string zname, .int .i64 zsize, .string zterminal] 67 (0, 0))) := Lib.hid (heap_new wr (.cells #[.string zname, .int .i64 zsize, .string zterminal] 67))
      go_wp2_with (at_builtin; refine Hid.out ?_)
      refine Lib.hid ?_
      refine wpList_append_own _ rfl _ _ 30 rfl w.heap.size 67 i0 (.agg #[.string ⟨#[]⟩, .int .i64 0, .string ⟨#[]⟩]) 3 40 Tryz.underlying30 hi hz0 hz1 hz2 rfl (by decide) _ k _ rfl hownB ⟨wr.heap.size, 0, none⟩ 1 1 [.string zname, .int .i64 zsize, .string zterminal] rfl rfl
        (World.news_of_block (cs := #[.string zname, .int .i64 zsize, .string zterminal]) (t := 67) (fr := (0, 0)) HNB.out) (by simp [Value.oneCell']) (by unfold maxLen; omega) (by omega) (by simp; omega) ?_
      intro v' w4 hown' hgrow _
      have hb4 : Below w.heap.size w w4 := (b_then HB.out (below_alloc wr (.cells #[.string zname, .int .i64 zsize, .string zterminal] 67))).grown hgrow (by simp; omega) (pr_blk hownB)
      clear hgrow hown hownB x0 x1 x2
      rw [show fl ++ [.string zname, .int .i64 zsize, .string zterminal] = flatG StandV.cells (L.take (k + 1)) from HT.out.symm] at hown'
      go_wp2_with fail
      refine ⟨⟨k + 1, by omega, by go_num, by simpa using hown', Lib.hid hb4⟩, by simp [intOf]; omega⟩
    · obtain rfl : k = L.length := by omega
      rw [List.take_length] at hown
      go_wp2_with fail
      go_ret
      exact ⟨⟨_, rfl, hown⟩, HB.out⟩
set_option maxRecDepth 100000 in
theorem OwnStand_zero (A : Option Addr) (c : Nat) (w : World) :
    Calls Tryz.prog 16 #[.slice A 0 c] w fun e w' => SlR StandV.cells 3 67 e w' w.heap.size [] ∧ Below w.heap.size w w' := by
  go_enter Tryz.func16, Tryz.ntmps16
  go_wp2_with fail
  go_loopw [3, 4, 7] (fun v3 _ i wr => v3 = .slice none 0 0 ∧ i = .int .i64 0 ∧ wr = w) (fun _ _ _ _ => 0)
  case atStart => exact ⟨rfl, rfl, rfl⟩
  case round =>
    obtain ⟨rfl, rfl, rfl⟩ := hrel
    go_wp2_with fail
    go_ret
    exact ⟨⟨_, rfl, World.ownsRow_nil _ _ _ _⟩, Below.refl _ _⟩
theorem OwnStand_any (L : List StandV) (v : Value) (w w' : World) (hv : SlArg StandV.cells 3 w v L) (hb : Below w.heap.size w w') (hn : L.length * 40 ≤ 140737488355328) :
    Calls Tryz.prog 16 #[v] w' fun e w'' => SlR StandV.cells 3 67 e w'' w'.heap.size L ∧ Below w'.heap.size w' w'' := by
  rcases hv with ⟨rfl, A, c, rfl⟩ | ⟨h0, b, off, cap, rfl, hl, hc, hs⟩
  · exact OwnStand_zero A c w'
  · exact OwnStand_some L b off cap w' (hl.below hb) hn
end Go.Proofs.YtkjhnemfebgcnaaGreatDoor
namespace Go.Proofs.YtkjhnemfebgcnaaGreatDoor
open Go Go.RowKit Go.ChangeMaps Go.MapKept
theorem OwnTurn_info : ∃ i0, Tryz.prog.info? 61 = some i0 ∧ i0.zero = some (.agg #[.string ⟨#[]⟩, .int .i64 0, .int .i64 0, .int .i64 0, .string ⟨#[]⟩]) ∧ i0.size = 5 ∧ i0.bytes = 56 := by
  have h : (Tryz.prog.info? 61).map (fun i => (i.zero, i.size, i.bytes)) = some (some (.agg #[.string ⟨#[]⟩, .int .i64 0, .int .i64 0, .int .i64 0, .string ⟨#[]⟩]), 5, 56) := by kernel_rfl
  cases hp : Tryz.prog.info? 61 with
  | none => rw [hp] at h; simp at h
  | some i => rw [hp] at h; simp only [Option.map_some, Option.some.injEq, Prod.mk.injEq] at h; exact ⟨i, rfl, h.1, h.2.1, h.2.2⟩
set_option maxRecDepth 100000 in
set_option maxHeartbeats 4000000 in
theorem OwnTurn_some (L : List TurnV) (b off cap : Nat) (w : World) (hl : RowsAt TurnV.cells 5 w b off L) (hn : L.length * 56 ≤ 140737488355328) :
    Calls Tryz.prog 18 #[.slice (some ⟨b, off, none⟩) L.length cap] w fun e w' => SlR TurnV.cells 5 61 e w' w.heap.size L ∧ Below w.heap.size w w' := by
  have HL := Lib.hid hl
  clear hl
  obtain ⟨i0, hi, hz0, hz1, hz2⟩ := OwnTurn_info
  go_enter Tryz.func18, Tryz.ntmps18
  go_wp2_with fail
  go_loopw [3, 4, 7] (fun v3 _ i wr => ∃ (k : Nat), k ≤ L.length ∧ i = .int .i64 k ∧ wr.ownsRow w.heap.size 61 5 v3 k (flatG TurnV.cells (L.take k)) ∧ Hid (Below w.heap.size w wr)) (fun _ _ i _ => L.length - (intOf i).toNat)
  case atStart => exact ⟨0, Nat.zero_le _, rfl, World.ownsRow_nil _ _ _ _, Lib.hid (Below.refl _ _)⟩
  case round =>
    obtain ⟨k, hk, rfl, hown, HB⟩ := hrel
    by_cases hlt : k < L.length
    · have hrow := (HL.out.below HB.out).c k hlt
      have HT : Hid (flatG TurnV.cells (L.take (k + 1)) = flatG TurnV.cells (L.take k) ++ (L.getD k default).cells.toList) := Lib.hid (flatG_take L k hlt)
      generalize L.getD k default = l at hrow HT
      obtain ⟨zname, zstart, zfin, zsize, zterminal⟩ := l
      simp only [TurnV.cells] at HT hrow
      have x0 := hrow 0 _ rfl
      have x1 := hrow 1 _ rfl
      have x2 := hrow 2 _ rfl
      have x3 := hrow 3 _ rfl
      have x4 := hrow 4 _ rfl
      clear hrow
      simp only [Nat.add_zero] at x0
      have hlen := flatG_len (f := TurnV.cells) (k := 5) (fun _ => rfl) (L.take k)
      rw [List.length_take, Nat.min_eq_left hk] at hlen
      generalize flatG TurnV.cells (L.take k) = fl at *
      have hsz := HB.out.size
      have hownB := hown.alloc (.cells #[.string zname, .int .i64 zstart, .int .i64 zfin, .int .i64 zsize, .string zterminal] 61)
      have HNB : Hid ((wr.alloc (.cells #[.string zname, .int .i64 zstart, .int .i64 zfin, .int .i64 zsize, .string zterminal] 61)).heap[wr.heap.size]? = some (.cells #[.string zname, .int .i64 zstart, .int .i64 zfin, .int .i64 zsize, .string zterminal] 61 (0, 0))) := Lib.hid (heap_new wr (.cells #[.string zname, .int .i64 zstart, .int .i64 zfin, .int .i64 zsize, .string zterminal] 61))
      go_wp2_with (at_builtin; refine Hid.out ?_)
      refine Lib.hid ?_
      refine wpList_append_own _ rfl _ _ 33 rfl w.heap.size 61 i0 (.agg #[.string ⟨#[]⟩, .int .i64 0, .int .i64 0, .int .i64 0, .string ⟨#[]⟩]) 5 56 Tryz.underlying33 hi hz0 hz1 hz2 rfl (by decide) _ k _ rfl hownB ⟨wr.heap.size, 0, none⟩ 1 1 [.string zname, .int .i64 zstart, .int .i64 zfin, .int .i64 zsize, .string zterminal] rfl rfl
        (World.news_of_block (cs := #[.string zname, .int .i64 zstart, .int .i64 zfin, .int .i64 zsize, .string zterminal]) (t := 61) (fr := (0, 0)) HNB.out) (by simp [Value.oneCell']) (by unfold maxLen; omega) (by omega) (by simp; omega) ?_
      intro v' w4 hown' hgrow _
      have hb4 : Below w.heap.size w w4 := (b_then HB.out (below_alloc wr (.cells #[.string zname, .int .i64 zstart, .int .i64 zfin, .int .i64 zsize, .string zterminal] 61))).grown hgrow (by simp; omega) (pr_blk hownB)
      clear hgrow hown hownB x0 x1 x2 x3 x4
      rw [show fl ++ [.string zname, .int .i64 zstart, .int .i64 zfin, .int .i64 zsize, .string zterminal] = flatG TurnV.cells (L.take (k + 1)) from HT.out.symm] at hown'
      go_wp2_with fail
      refine ⟨⟨k + 1, by omega, by go_num, by simpa using hown', Lib.hid hb4⟩, by simp [intOf]; omega⟩
    · obtain rfl : k = L.length := by omega
      rw [List.take_length] at hown
      go_wp2_with fail
      go_ret
      exact ⟨⟨_, rfl, hown⟩, HB.out⟩
set_option maxRecDepth 100000 in
theorem OwnTurn_zero (A : Option Addr) (c : Nat) (w : World) :
    Calls Tryz.prog 18 #[.slice A 0 c] w fun e w' => SlR TurnV.cells 5 61 e w' w.heap.size [] ∧ Below w.heap.size w w' := by
  go_enter Tryz.func18, Tryz.ntmps18
  go_wp2_with fail
  go_loopw [3, 4, 7] (fun v3 _ i wr => v3 = .slice none 0 0 ∧ i = .int .i64 0 ∧ wr = w) (fun _ _ _ _ => 0)
  case atStart => exact ⟨rfl, rfl, rfl⟩
  case round =>
    obtain ⟨rfl, rfl, rfl⟩ := hrel
    go_wp2_with fail
    go_ret
    exact ⟨⟨_, rfl, World.ownsRow_nil _ _ _ _⟩, Below.refl _ _⟩
theorem OwnTurn_any (L : List TurnV) (v : Value) (w w' : World) (hv : SlArg TurnV.cells 5 w v L) (hb : Below w.heap.size w w') (hn : L.length * 56 ≤ 140737488355328) :
    Calls Tryz.prog 18 #[v] w' fun e w'' => SlR TurnV.cells 5 61 e w'' w'.heap.size L ∧ Below w'.heap.size w' w'' := by
  rcases hv with ⟨rfl, A, c, rfl⟩ | ⟨h0, b, off, cap, rfl, hl, hc, hs⟩
  · exact OwnTurn_zero A c w'
  · exact OwnTurn_some L b off cap w' (hl.below hb) hn
end Go.Proofs.YtkjhnemfebgcnaaGreatDoor
namespace Go.Proofs.YtkjhnemfebgcnaaGreatDoor
open Go Go.RowKit Go.ChangeMaps Go.MapKept
theorem OwnSeat_info : ∃ i0, Tryz.prog.info? 108 = some i0 ∧ i0.zero = some (.agg #[.string ⟨#[]⟩, .string ⟨#[]⟩, .int .i64 0, .int .i64 0, .int .i64 0]) ∧ i0.size = 5 ∧ i0.bytes = 56 := by
  have h : (Tryz.prog.info? 108).map (fun i => (i.zero, i.size, i.bytes)) = some (some (.agg #[.string ⟨#[]⟩, .string ⟨#[]⟩, .int .i64 0, .int .i64 0, .int .i64 0]), 5, 56) := by kernel_rfl
  cases hp : Tryz.prog.info? 108 with
  | none => rw [hp] at h; simp at h
  | some i => rw [hp] at h; simp only [Option.map_some, Option.some.injEq, Prod.mk.injEq] at h; exact ⟨i, rfl, h.1, h.2.1, h.2.2⟩
set_option maxRecDepth 100000 in
set_option maxHeartbeats 4000000 in
theorem OwnSeat_some (L : List SeatV) (b off cap : Nat) (w : World) (hl : RowsAt SeatV.cells 5 w b off L) (hn : L.length * 56 ≤ 140737488355328) :
    Calls Tryz.prog 21 #[.slice (some ⟨b, off, none⟩) L.length cap] w fun e w' => SlR SeatV.cells 5 108 e w' w.heap.size L ∧ Below w.heap.size w w' := by
  have HL := Lib.hid hl
  clear hl
  obtain ⟨i0, hi, hz0, hz1, hz2⟩ := OwnSeat_info
  go_enter Tryz.func21, Tryz.ntmps21
  go_wp2_with fail
  go_loopw [3, 4, 7] (fun v3 _ i wr => ∃ (k : Nat), k ≤ L.length ∧ i = .int .i64 k ∧ wr.ownsRow w.heap.size 108 5 v3 k (flatG SeatV.cells (L.take k)) ∧ Hid (Below w.heap.size w wr)) (fun _ _ i _ => L.length - (intOf i).toNat)
  case atStart => exact ⟨0, Nat.zero_le _, rfl, World.ownsRow_nil _ _ _ _, Lib.hid (Below.refl _ _)⟩
  case round =>
    obtain ⟨k, hk, rfl, hown, HB⟩ := hrel
    by_cases hlt : k < L.length
    · have hrow := (HL.out.below HB.out).c k hlt
      have HT : Hid (flatG SeatV.cells (L.take (k + 1)) = flatG SeatV.cells (L.take k) ++ (L.getD k default).cells.toList) := Lib.hid (flatG_take L k hlt)
      generalize L.getD k default = l at hrow HT
      obtain ⟨zterminal, zkind, zlength, zstep, zmost⟩ := l
      simp only [SeatV.cells] at HT hrow
      have x0 := hrow 0 _ rfl
      have x1 := hrow 1 _ rfl
      have x2 := hrow 2 _ rfl
      have x3 := hrow 3 _ rfl
      have x4 := hrow 4 _ rfl
      clear hrow
      simp only [Nat.add_zero] at x0
      have hlen := flatG_len (f := SeatV.cells) (k := 5) (fun _ => rfl) (L.take k)
      rw [List.length_take, Nat.min_eq_left hk] at hlen
      generalize flatG SeatV.cells (L.take k) = fl at *
      have hsz := HB.out.size
      have hownB := hown.alloc (.cells #[.string zterminal, .string zkind, .int .i64 zlength, .int .i64 zstep, .int .i64 zmost] 108)
      have HNB : Hid ((wr.alloc (.cells #[.string zterminal, .string zkind, .int .i64 zlength, .int .i64 zstep, .int .i64 zmost] 108)).heap[wr.heap.size]? = some (.cells #[.string zterminal, .string zkind, .int .i64 zlength, .int .i64 zstep, .int .i64 zmost] 108 (0, 0))) := Lib.hid (heap_new wr (.cells #[.string zterminal, .string zkind, .int .i64 zlength, .int .i64 zstep, .int .i64 zmost] 108))
      go_wp2_with (at_builtin; refine Hid.out ?_)
      refine Lib.hid ?_
      refine wpList_append_own _ rfl _ _ 37 rfl w.heap.size 108 i0 (.agg #[.string ⟨#[]⟩, .string ⟨#[]⟩, .int .i64 0, .int .i64 0, .int .i64 0]) 5 56 Tryz.underlying37 hi hz0 hz1 hz2 rfl (by decide) _ k _ rfl hownB ⟨wr.heap.size, 0, none⟩ 1 1 [.string zterminal, .string zkind, .int .i64 zlength, .int .i64 zstep, .int .i64 zmost] rfl rfl
        (World.news_of_block (cs := #[.string zterminal, .string zkind, .int .i64 zlength, .int .i64 zstep, .int .i64 zmost]) (t := 108) (fr := (0, 0)) HNB.out) (by simp [Value.oneCell']) (by unfold maxLen; omega) (by omega) (by simp; omega) ?_
      intro v' w4 hown' hgrow _
      have hb4 : Below w.heap.size w w4 := (b_then HB.out (below_alloc wr (.cells #[.string zterminal, .string zkind, .int .i64 zlength, .int .i64 zstep, .int .i64 zmost] 108))).grown hgrow (by simp; omega) (pr_blk hownB)
      clear hgrow hown hownB x0 x1 x2 x3 x4
      rw [show fl ++ [.string zterminal, .string zkind, .int .i64 zlength, .int .i64 zstep, .int .i64 zmost] = flatG SeatV.cells (L.take (k + 1)) from HT.out.symm] at hown'
      go_wp2_with fail
      refine ⟨⟨k + 1, by omega, by go_num, by simpa using hown', Lib.hid hb4⟩, by simp [intOf]; omega⟩
    · obtain rfl : k = L.length := by omega
      rw [List.take_length] at hown
      go_wp2_with fail
      go_ret
      exact ⟨⟨_, rfl, hown⟩, HB.out⟩
set_option maxRecDepth 100000 in
theorem OwnSeat_zero (A : Option Addr) (c : Nat) (w : World) :
    Calls Tryz.prog 21 #[.slice A 0 c] w fun e w' => SlR SeatV.cells 5 108 e w' w.heap.size [] ∧ Below w.heap.size w w' := by
  go_enter Tryz.func21, Tryz.ntmps21
  go_wp2_with fail
  go_loopw [3, 4, 7] (fun v3 _ i wr => v3 = .slice none 0 0 ∧ i = .int .i64 0 ∧ wr = w) (fun _ _ _ _ => 0)
  case atStart => exact ⟨rfl, rfl, rfl⟩
  case round =>
    obtain ⟨rfl, rfl, rfl⟩ := hrel
    go_wp2_with fail
    go_ret
    exact ⟨⟨_, rfl, World.ownsRow_nil _ _ _ _⟩, Below.refl _ _⟩
theorem OwnSeat_any (L : List SeatV) (v : Value) (w w' : World) (hv : SlArg SeatV.cells 5 w v L) (hb : Below w.heap.size w w') (hn : L.length * 56 ≤ 140737488355328) :
    Calls Tryz.prog 21 #[v] w' fun e w'' => SlR SeatV.cells 5 108 e w'' w'.heap.size L ∧ Below w'.heap.size w' w'' := by
  rcases hv with ⟨rfl, A, c, rfl⟩ | ⟨h0, b, off, cap, rfl, hl, hc, hs⟩
  · exact OwnSeat_zero A c w'
  · exact OwnSeat_some L b off cap w' (hl.below hb) hn
end Go.Proofs.YtkjhnemfebgcnaaGreatDoor
namespace Go.Proofs.YtkjhnemfebgcnaaGreatDoor
open Go Go.RowKit
theorem KpW.trans {w w1 w2 : World} (h : KpW w w1) (k : KpW w1 w2) : KpW w w2 := KpW.iff.2 (b_then (KpW.iff.1 h) (KpW.iff.1 k))
namespace HN
section
variable {P : Program} {ops : Array Oper} {md : Region.Mode} {w0 : World} {hb : Oper → Bool} {S : Oper → Value → World → Prop}
def QuietIn (P : Program) (w0 : World) (x : Sem Next) (u : Value) : Prop := ∀ w, KpW w0 w → Oper.quietUpon P (KpW w) w u (x.run P w)
def heldUpon (P : Program) (w : World) (R : Value → World → Prop) : Result Next → Prop
  | .ok (.value v) w' => KpW w w' ∧ R v w'
  | .ok .skip w' => KpW w w' ∧ R undef w'
  | .ok (.enter f args) w' => KpW w w' ∧ Calls P f args w' (fun e w'' => ∃ v, e = .returned v ∧ KpW w w'' ∧ R v w'')
  | _ => False
def RX (P : Program) (w0 : World) (hb : Oper → Bool) (S : Oper → Value → World → Prop) (o : Oper) (x : Sem Next) (v : Value) (w : World) : Prop := if hb o = true then S o v w else ∀ u, QuietIn P w0 x u → v = u
theorem RX.stay (hS : ∀ o v w w', S o v w → KpW w w' → S o v w') {o : Oper} {x : Sem Next} {v : Value} {w w' : World} (h : RX P w0 hb S o x v w) (hw : KpW w w') : RX P w0 hb S o x v w' := by
  unfold RX at *
  split
  · rename_i e; rw [if_pos e] at h; exact hS _ _ _ _ h hw
  · rename_i e; rw [if_neg e] at h; exact h
theorem heldUpon_enter {w : World} {R : Value → World → Prop} {x : Sem Next} {f : FuncId} {args : Array Value} (hx : x.run P w = .ok (.enter f args) w) (hc : Calls P f args w (fun e w' => ∃ v, e = .returned v ∧ KpW w w' ∧ R v w')) : heldUpon P w R (x.run P w) := by
  rw [hx]; exact ⟨KpW.self _, hc⟩
theorem heldUpon_made {w : World} {R : Value → World → Prop} {x : Sem Next} {o : Obj} {v : Value} (hx : x.run P w = .ok (.value v) (w.alloc o)) (hc : R v (w.alloc o)) : heldUpon P w R (x.run P w) := by
  rw [hx]; exact ⟨KpW.iff.2 (below_alloc w o), hc⟩
structure KOK (w0 : World) (K : World → Prop) : Prop where
  ex : ∃ w, KpW w0 w ∧ K w
  st : ∀ w w', K w → KpW w w' → K w'
def HeldXK (P : Program) (w0 : World) (hb : Oper → Bool) (S : Oper → Value → World → Prop) (K : World → Prop) (o : Oper) (x : Sem Next) : Prop := ∀ w, KpW w0 w → (hb o = true → K w) → heldUpon P w (RX P w0 hb S o x) (x.run P w)
theorem HeldXK.some {K : World → Prop} (hK : KOK w0 K) {o : Oper} {x : Sem Next} (h : HeldXK P w0 hb S K o x) : ∃ v w, KpW w0 w ∧ K w ∧ RX P w0 hb S o x v w := by
  obtain ⟨w, h1, h2⟩ := hK.ex
  have h0 := h w h1 (fun _ => h2)
  generalize x.run P w = r at h0
  cases r with
  | ok n w' =>
    cases n
    case value v => exact ⟨v, w', h1.trans h0.1, hK.st _ _ h2 h0.1, h0.2⟩
    case skip => exact ⟨_, w', h1.trans h0.1, hK.st _ _ h2 h0.1, h0.2⟩
    case enter f args =>
      obtain ⟨e, w'', fr, ⟨v, -, h3, h4⟩, -⟩ := h0.2 []
      exact ⟨v, w'', h1.trans h3, hK.st _ _ h2 h3, h4⟩
    all_goals exact (h0 : False).elim
  | halt y w' => exact absurd h0 (by cases y <;> exact id)
theorem KOK.next {K : World → Prop} (hS : ∀ o v w w', S o v w → KpW w w' → S o v w') (hK : KOK w0 K) {o : Oper} {x : Sem Next} {v : Value} (h : ∃ w, KpW w0 w ∧ K w ∧ RX P w0 hb S o x v w) : KOK w0 (fun w => K w ∧ RX P w0 hb S o x v w) :=
  ⟨by obtain ⟨w, h1, h2, h3⟩ := h; exact ⟨w, h1, h2, h3⟩, fun _ _ hx hy => ⟨hK.st _ _ hx.1 hy, hx.2.stay hS hy⟩⟩
def hOpK (P : Program) (ops : Array Oper) (w0 : World) (hb : Oper → Bool) (S : Oper → Value → World → Prop) (o : Oper) (K : World → Prop) (a : Act) (next : (World → Prop) → Act → Prop) : Prop :=
  if Region.wanted o (yielded ops a.tmps) then HeldXK P w0 hb S K o (execOp a.eval o) ∧ ∀ v, (∃ w, KpW w0 w ∧ K w ∧ RX P w0 hb S o (execOp a.eval o) v w) → next (fun w => K w ∧ RX P w0 hb S o (execOp a.eval o) v w) (a.put o.dst v)
  else next K (a.put o.dst undef)
theorem hOpK.mono (hS : ∀ o v w w', S o v w → KpW w w' → S o v w') {o : Oper} {K : World → Prop} (hK : KOK w0 K) {a : Act} {next next' : (World → Prop) → Act → Prop} (hn : ∀ K a, KOK w0 K → next K a → next' K a) (h : hOpK P ops w0 hb S o K a next) : hOpK P ops w0 hb S o K a next' := by
  unfold hOpK at *
  split
  · rename_i e; rw [if_pos e] at h; exact ⟨h.1, fun v hv => hn _ _ (hK.next hS hv) (h.2 v hv)⟩
  · rename_i e; rw [if_neg e] at h; exact hn _ _ hK h
theorem hOpK.swap {oi oj : Oper} {K : World → Prop} (hK : KOK w0 K) {a : Act} {next : (World → Prop) → Act → Prop} (hap : oi.apart ops oj = true) (hd : hb oi = true → hb oj = true → False) (hsi : ∀ cs b, oi.op ≠ .select cs b) (hsj : ∀ cs b, oj.op ≠ .select cs b)
    (h : hOpK P ops w0 hb S oi K a (fun K' a' => hOpK P ops w0 hb S oj K' a' next)) : hOpK P ops w0 hb S oj K a (fun K' a' => hOpK P ops w0 hb S oi K' a' next) := by
  obtain ⟨p1, p2, p3⟩ := Oper.apart_spec hap
  have ej : ∀ v, execOp (a.put oi.dst v).eval oj = execOp a.eval oj := fun v => execOp_put oj hsj a oi.dst v p1
  have wj : ∀ v, Region.wanted oj (yielded ops (a.put oi.dst v).tmps) = Region.wanted oj (yielded ops a.tmps) := fun v => wanted_put oj a oi.dst v p1
  have ei : ∀ v, execOp (a.put oj.dst v).eval oi = execOp a.eval oi := fun v => execOp_put oi hsi a oj.dst v p3
  have wi : ∀ v, Region.wanted oi (yielded ops (a.put oj.dst v).tmps) = Region.wanted oi (yielded ops a.tmps) := fun v => wanted_put oi a oj.dst v p3
  have hcomm : ∀ v u, (a.put oi.dst v).put oj.dst u = (a.put oj.dst u).put oi.dst v := fun v u => Act.put_comm a v u p2
  simp only [hOpK, ej, wj, ei, wi] at h ⊢
  by_cases hi : Region.wanted oi (yielded ops a.tmps) = true
  · simp only [hi, if_true] at h ⊢
    obtain ⟨hI, hN⟩ := h
    obtain ⟨v0, w1, h1, h2, h3⟩ := hI.some hK
    by_cases hj : Region.wanted oj (yielded ops a.tmps) = true
    · simp only [hj, if_true] at hN ⊢
      refine ⟨fun w hw hk => (hN v0 ⟨w1, h1, h2, h3⟩).1 w hw (fun hbj => ⟨hk hbj, ?_⟩), fun u hu => ⟨fun w hw hk => hI w hw (fun hbi => (hk hbi).1), fun v hv => ?_⟩⟩
      · unfold RX at h3 ⊢
        split
        · rename_i hbi; exact (hd hbi hbj).elim
        · rename_i hbi; rw [if_neg hbi] at h3; exact h3
      · obtain ⟨w, g1, g2, g3⟩ := hv
        have := (hN v ⟨w, g1, g2.1, g3⟩).2 u ⟨w, g1, ⟨g2.1, g3⟩, g2.2⟩
        rw [hcomm] at this
        have e : (fun w => (K w ∧ RX P w0 hb S oi (execOp a.eval oi) v w) ∧ RX P w0 hb S oj (execOp a.eval oj) u w) = (fun w => (K w ∧ RX P w0 hb S oj (execOp a.eval oj) u w) ∧ RX P w0 hb S oi (execOp a.eval oi) v w) := funext fun w => propext ⟨fun h => ⟨⟨h.1.1, h.2⟩, h.1.2⟩, fun h => ⟨⟨h.1.1, h.2⟩, h.1.2⟩⟩
        rw [← e]
        exact this
    · simp only [hj] at hN ⊢
      refine ⟨hI, fun v hv => ?_⟩
      have := hN v hv
      rw [if_neg (by simp)] at this
      rw [hcomm] at this
      exact this
  · simp only [hi] at h ⊢
    rw [if_neg (by simp)] at h
    by_cases hj : Region.wanted oj (yielded ops a.tmps) = true
    · simp only [hj, if_true] at h ⊢
      refine ⟨h.1, fun u hu => ?_⟩
      rw [if_neg (by simp)]
      have := h.2 u hu
      rw [hcomm] at this
      exact this
    · simp only [hj] at h ⊢
      rw [if_neg (by simp)] at h ⊢
      rw [if_neg (by simp)]
      rw [hcomm] at h
      exact h
def HeadK (P : Program) (md : Region.Mode) (ops : Array Oper) (w0 : World) (hb : Oper → Bool) (S : Oper → Value → World → Prop) (n : Nat) (L : Array Bool → (World → Prop) → Act → Prop) (f : Nat) : Array Bool → (World → Prop) → Act → Prop :=
  f.rec L fun _ next listed K a => Region.ready md ops listed ≠ [] ∧ ∀ i ∈ Region.ready md ops listed, i < n ∧ ∃ o, ops[i]? = some o ∧ hOpK P ops w0 hb S o K a (next (listed.setIfInBounds i true))
theorem HeadK.any {n g : Nat} {L : Array Bool → (World → Prop) → Act → Prop} {Q' : Exit → Act → World → Prop} (hS : ∀ o v w w', S o v w → KpW w w' → S o v w')
    (hL : ∀ listed K a w, KpW w0 w → K w → L listed K a → wpAny P md ops Q' g listed a w) (f : Nat) :
    ∀ (listed : Array Bool) (K : World → Prop) (a : Act) (w : World), (∀ w w', K w → KpW w w' → K w') → KpW w0 w → K w → HeadK P md ops w0 hb S n L f listed K a → wpAny P md ops Q' (f + g) listed a w := by
  induction f with
  | zero => intro listed K a w _ hw hk h; rw [Nat.zero_add]; exact hL _ _ _ _ hw hk h
  | succ f ih =>
    intro listed K a w hK hw hk h
    rw [Nat.succ_add]
    refine ⟨fun h0 => absurd h0 h.1, fun i hi => ?_⟩
    obtain ⟨-, o, ho, h2⟩ := h.2 i hi
    unfold wpOp
    simp only [ho]
    unfold hOpK at h2
    split
    · rename_i hwt
      rw [if_pos hwt] at h2
      refine .inl ?_
      have h3 := h2.1 w hw (fun _ => hk)
      unfold Oper.wp
      have hgo : ∀ v w', KpW w w' → RX P w0 hb S o (execOp a.eval o) v w' → wpAny P md ops Q' (f + g) (listed.setIfInBounds i true) (a.put o.dst v) w' := fun v w' h4 h5 =>
        ih _ _ _ w' (fun x y hx hy => ⟨hK _ _ hx.1 hy, hx.2.stay hS hy⟩) (hw.trans h4) ⟨hK _ _ hk h4, h5⟩ (h2.2 v ⟨w', hw.trans h4, hK _ _ hk h4, h5⟩)
      generalize (execOp a.eval o).run P w = r at h3
      cases r with
      | ok nx w' =>
        cases nx
        case value v => exact hgo _ _ h3.1 h3.2
        case skip => exact hgo _ _ h3.1 h3.2
        case enter fn args => exact Calls.mono h3.2 (fun e w'' h => by obtain ⟨v, he, h4, h5⟩ := h; subst he; exact hgo _ _ h4 h5)
        all_goals exact (h3 : False).elim
      | halt y w' => exact absurd h3 (by cases y <;> exact id)
    · rename_i hwt
      rw [if_neg hwt] at h2
      exact ih _ _ _ w hK hw hk h2
theorem hOpK.out {o : Oper} {K : World → Prop} (hK : KOK w0 K) {a : Act} {next : (World → Prop) → Act → Prop} (h : hOpK P ops w0 hb S o K a next) : ∃ K' a', next K' a' := by
  unfold hOpK at h
  split at h
  · obtain ⟨v, w, h1, h2⟩ := h.1.some hK
    exact ⟨_, _, h.2 v ⟨w, h1, h2⟩⟩
  · exact ⟨_, _, h⟩
theorem HeadK.first {n i : Nat} {oi : Oper} {L : Array Bool → (World → Prop) → Act → Prop} (hS : ∀ o v w w', S o v w → KpW w w' → S o v w') (hdep : ∀ (listed : Array Bool) (i j : Nat) (oi oj : Oper), HeadInv md ops n listed → ops[i]? = some oi → ops[j]? = some oj → i ≠ j → i ∈ Region.ready md ops listed → j ∈ Region.ready md ops listed → hb oi = true → hb oj = true → False)
    (hi : ops[i]? = some oi) (hsel : ∀ (j : Nat) (o : Oper) cs b, ops[j]? = some o → o.op ≠ .select cs b)
    (hs : Region.sinkB md ops n = true) (hc : Region.chainB md ops n = true) (hn : n < ops.size) (hin : i < n) (hdone : ∀ listed K a, L listed K a → ∀ j ∈ Region.ready md ops listed, n ≤ j) (f : Nat) :
    ∀ (listed : Array Bool) (K : World → Prop) (a : Act), KOK w0 K → HeadInv md ops n listed →
      (∀ j oj, ops[j]? = some oj → j ≠ i → listed.getD j true = false → (∀ e ∈ oj.after, Region.binds md e = true → e.on ≠ i) → oi.apart ops oj = true) →
      i ∈ Region.ready md ops listed → hOpK P ops w0 hb S oi K a (HeadK P md ops w0 hb S n L f (listed.setIfInBounds i true)) → HeadK P md ops w0 hb S n L (f + 1) listed K a := by
  induction f with
  | zero =>
    intro listed K a hK inv _ hr H
    refine ⟨List.ne_nil_of_mem hr, fun j hj => ?_⟩
    have hjn : j < n := Nat.lt_of_not_le fun h => tail_waits hs hc hn inv _ i rfl hin (mem_ready.1 hr).1 j h hj
    rcases Nat.decEq j i with hji | hji
    · obtain ⟨K', a', hl⟩ := H.out hK
      exact absurd (hdone _ _ _ hl j (ready_mono hj hji)) (by omega)
    · subst hji; exact ⟨hjn, oi, hi, H⟩
  | succ f ih =>
    intro listed K a hK inv hfree hr H
    refine ⟨List.ne_nil_of_mem hr, fun j hj => ?_⟩
    have hjn : j < n := Nat.lt_of_not_le fun h => tail_waits hs hc hn inv _ i rfl hin (mem_ready.1 hr).1 j h hj
    refine ⟨hjn, ?_⟩
    rcases Nat.decEq j i with hji | hji
    · obtain ⟨hun, oj, hoj, hall⟩ := mem_ready.1 hj
      have hnot : ∀ e ∈ oj.after, Region.binds md e = true → e.on ≠ i := fun e he hb heq => by
        have h1 := hall e he hb
        rw [heq, getD_both (mem_ready.1 hr).1] at h1
        cases h1
      have hap := hfree j oj hoj hji hun hnot
      refine ⟨oj, hoj, ?_⟩
      have H2 : hOpK P ops w0 hb S oi K a (fun K' a' => hOpK P ops w0 hb S oj K' a' (HeadK P md ops w0 hb S n L f ((listed.setIfInBounds j true).setIfInBounds i true))) := H.mono hS hK (fun K' a' _ h => by
        obtain ⟨-, o, ho, h3⟩ := h.2 j (ready_mono hj hji)
        rw [hoj] at ho
        cases ho
        rw [Array.setIfInBounds_comm _ _ hji]
        exact h3)
      refine (H2.swap hK hap (hdep listed i j oi oj inv hi hoj (Ne.symm hji) hr hj) (fun cs b => hsel i oi cs b hi) (fun cs b => hsel j oj cs b hoj)).mono hS hK (fun K' a' hK' h => ?_)
      refine ih _ K' a' hK' (inv.set hj hjn) (fun k ok hk hki hk2 hno => hfree k ok hk hki ?_ hno) (ready_mono hr (Ne.symm hji)) h
      rcases Nat.decEq j k with hjk | hjk
      · rwa [getD_set_ne true hjk] at hk2
      · subst hjk; exact hun
    · subst hji; exact ⟨oi, hi, H⟩
def wpHoldK (P : Program) (ops : Array Oper) (w0 : World) (hb : Oper → Bool) (S : Oper → Value → World → Prop) (Q : (World → Prop) → Act → Prop) : List Oper → (World → Prop) → Act → Prop
  | [], K, a => Q K a
  | o :: r, K, a => hOpK P ops w0 hb S o K a (wpHoldK P ops w0 hb S Q r)
theorem HeadK.lex {n g : Nat} {Lq : (World → Prop) → Act → Prop} (hS : ∀ o v w w', S o v w → KpW w w' → S o v w') (hdep : ∀ (listed : Array Bool) (i j : Nat) (oi oj : Oper), HeadInv md ops n listed → ops[i]? = some oi → ops[j]? = some oj → i ≠ j → i ∈ Region.ready md ops listed → j ∈ Region.ready md ops listed → hb oi = true → hb oj = true → False)
    (hsel : Region.noSelect ops = true) (hs : Region.sinkB md ops n = true) (hc : Region.chainB md ops n = true) (hn : n < ops.size) (l : List Oper) :
    ∀ (k : Nat) (listed : Array Bool) (K : World → Prop) (a : Act), KOK w0 K → (∀ j, j < l.length → l[j]? = ops[k + j]?) → k + l.length = n → HeadInv md ops n listed → Region.lexHead md ops g l.length k listed = true → wpHoldK P ops w0 hb S Lq l K a →
    HeadK P md ops w0 hb S n (fun listed' K' a' => Region.seqB md ops g n listed' = true ∧ Lq K' a') l.length listed K a := by
  induction l with
  | nil =>
    intro k listed K a _ _ hk _ hB h
    obtain rfl : k = n := by simpa using hk
    exact ⟨by simpa [Region.lexHead] using hB, h⟩
  | cons o l ih =>
    intro k listed K a hK hl hk inv hB h
    have h0 : ops[k]? = some o := by simpa using (hl 0 (by simp)).symm
    simp only [List.length_cons, Region.lexHead, Bool.and_eq_true, List.contains_iff_mem] at hB
    have hkn : k < n := by simp only [List.length_cons] at hk; omega
    refine HeadK.first hS hdep h0 (Region.noSelect_spec hsel) hs hc hn hkn (fun _ _ _ hL => seqB_ready hL.1) l.length listed K a hK inv (Region.free_spec h0 hB.1.2) hB.1.1 ?_
    exact hOpK.mono hS hK (fun K' a' hK' h' => ih (k + 1) _ K' a' hK' (fun j hj => by have := hl (j + 1) (by simp; omega); simpa [Nat.add_assoc, Nat.add_comm 1 j] using this) (by simp only [List.length_cons] at hk; omega) (inv.set hB.1.1 hkn) hB.2 h') h
/-- The operation j waits for the operation i, or for one that does. -/
def waits (md : Region.Mode) (ops : Array Oper) : Nat → Nat → Nat → Bool
  | 0, _, _ => false
  | f + 1, j, i => match ops[j]? with
    | none => false
    | some oj => oj.after.any fun e => Region.binds md e && (e.on == i || waits md ops f e.on i)
theorem waits_spec {n : Nat} {listed : Array Bool} (inv : HeadInv md ops n listed) (i : Nat) : ∀ (f j : Nat), waits md ops f j i = true → (∀ oj, ops[j]? = some oj → ∀ e ∈ oj.after, Region.binds md e = true → listed.getD e.on false = true) → listed.getD i false = true
  | 0, _, h, _ => by cases h
  | f + 1, j, h, hj => by
    unfold waits at h
    split at h
    · cases h
    · rename_i oj ho
      obtain ⟨e, he, h2⟩ := Array.any_eq_true'.1 h
      simp only [Bool.and_eq_true, Bool.or_eq_true, beq_iff_eq] at h2
      have hl := hj oj ho e he h2.1
      rcases h2.2 with h3 | h3
      · rw [← h3]; exact hl
      · exact waits_spec inv i f e.on h3 (fun ok hk => inv.closed _ ok hk hl)
/-- Of any two operations that make memory one waits for the other. -/
def depB (md : Region.Mode) (ops : Array Oper) (hb : Oper → Bool) : Bool := (List.range ops.size).all fun i => (List.range ops.size).all fun j => match ops[i]?, ops[j]? with
  | some oi, some oj => i == j || !(hb oi && hb oj) || waits md ops ops.size j i || waits md ops ops.size i j
  | _, _ => true
theorem depB_spec (h : depB md ops hb = true) {n : Nat} : ∀ (listed : Array Bool) (i j : Nat) (oi oj : Oper), HeadInv md ops n listed → ops[i]? = some oi → ops[j]? = some oj → i ≠ j → i ∈ Region.ready md ops listed → j ∈ Region.ready md ops listed → hb oi = true → hb oj = true → False := fun listed i j oi oj inv hi hj hne hri hrj h2 h3 => by
  have li := (Array.getElem?_eq_some_iff.1 hi).1
  have lj := (Array.getElem?_eq_some_iff.1 hj).1
  have := List.all_eq_true.1 (List.all_eq_true.1 h i (List.mem_range.2 li)) j (List.mem_range.2 lj)
  rw [hi, hj] at this
  simp only [h2, h3, Bool.and_self, Bool.not_true, Bool.or_false, Bool.or_eq_true, beq_iff_eq] at this
  obtain ⟨ui, oi', hoi, hai⟩ := mem_ready.1 hri
  obtain ⟨uj, oj', hoj, haj⟩ := mem_ready.1 hrj
  rcases this with (h4 | h4) | h4
  · exact hne h4
  · have := waits_spec inv i _ j h4 (fun ok hk e he hb => by rw [hoj] at hk; cases hk; exact haj e he hb)
    rw [getD_both ui] at this; cases this
  · have := waits_spec inv j _ i h4 (fun ok hk e he hb => by rw [hoi] at hk; cases hk; exact hai e he hb)
    rw [getD_both uj] at this; cases this
/-- A way through the operations: each waits for the next one of the list. -/
def pathB (md : Region.Mode) (ops : Array Oper) : List Nat → Bool
  | [] => true
  | a :: r => (match r with
    | [] => true
    | b :: _ => match ops[a]? with
      | none => false
      | some oa => oa.after.any fun e => Region.binds md e && e.on == b) && pathB md ops r
theorem path_all {n : Nat} {listed : Array Bool} (inv : HeadInv md ops n listed) : ∀ (r : List Nat) (a : Nat), pathB md ops (a :: r) = true → (∀ oj, ops[a]? = some oj → ∀ e ∈ oj.after, Region.binds md e = true → listed.getD e.on false = true) → ∀ y ∈ r, listed.getD y false = true
  | [], _, _, _, y, hy => by simp at hy
  | b :: r, a, h, ha, y, hy => by
    unfold pathB at h
    simp only [Bool.and_eq_true] at h
    obtain ⟨h1, h2⟩ := h
    split at h1
    · cases h1
    · rename_i oa ho
      obtain ⟨e, he, h3⟩ := Array.any_eq_true'.1 h1
      simp only [Bool.and_eq_true, beq_iff_eq] at h3
      have hl := ha oa ho e he h3.1
      rw [h3.2] at hl
      rcases List.mem_cons.1 hy with rfl | hy
      · exact hl
      · exact path_all inv r b h2 (fun ok hk => inv.closed _ ok hk hl) y hy
theorem path_two {n : Nat} {listed : Array Bool} (inv : HeadInv md ops n listed) {i j : Nat} (hne : i ≠ j) (hi : i ∈ Region.ready md ops listed) (hj : j ∈ Region.ready md ops listed) : ∀ (p : List Nat), pathB md ops p = true → i ∈ p → j ∈ p → False
  | [], _, h, _ => by simp at h
  | a :: r, h, h1, h2 => by
    obtain ⟨ui, oi, hoi, hai⟩ := mem_ready.1 hi
    obtain ⟨uj, oj, hoj, haj⟩ := mem_ready.1 hj
    rcases List.mem_cons.1 h1 with rfl | m1
    · rcases List.mem_cons.1 h2 with rfl | m2
      · exact hne rfl
      · have := path_all inv r i h (fun ok hk e he hb => by rw [hoi] at hk; cases hk; exact hai e he hb) j m2
        rw [getD_both uj] at this; cases this
    · rcases List.mem_cons.1 h2 with rfl | m2
      · have := path_all inv r j h (fun ok hk e he hb => by rw [hoj] at hk; cases hk; exact haj e he hb) i m1
        rw [getD_both ui] at this; cases this
      · refine path_two inv hne hi hj r ?_ m1 m2
        unfold pathB at h
        simp only [Bool.and_eq_true] at h
        exact h.2
/-- The operations that make memory lie on one way. -/
def wayB (md : Region.Mode) (ops : Array Oper) (hb : Oper → Bool) (p : List Nat) : Bool := pathB md ops p && (List.range ops.size).all fun i => match ops[i]? with
  | some o => !hb o || p.contains i
  | none => true
theorem wayB_spec {p : List Nat} (h : wayB md ops hb p = true) {n : Nat} : ∀ (listed : Array Bool) (i j : Nat) (oi oj : Oper), HeadInv md ops n listed → ops[i]? = some oi → ops[j]? = some oj → i ≠ j → i ∈ Region.ready md ops listed → j ∈ Region.ready md ops listed → hb oi = true → hb oj = true → False := fun listed i j oi oj inv hi hj hne hri hrj h2 h3 => by
  simp only [wayB, Bool.and_eq_true] at h
  have li := (Array.getElem?_eq_some_iff.1 hi).1
  have lj := (Array.getElem?_eq_some_iff.1 hj).1
  have ki := List.all_eq_true.1 h.2 i (List.mem_range.2 li)
  have kj := List.all_eq_true.1 h.2 j (List.mem_range.2 lj)
  rw [hi] at ki
  rw [hj] at kj
  simp only [h2, h3, Bool.not_true, Bool.false_or, List.contains_iff_mem] at ki kj
  exact path_two inv hne hri hrj p h.1 ki kj
theorem heldK_tail {id : Nat} {Q : Exit → Act → World → Prop} {a : Act} {w : World} {l : List Oper} (hb : Oper → Bool) (S : Oper → Value → World → Prop) (n : Nat) (hm : P.follows .mixedOrders = true) (hB : Region.lexTailB .any l.toArray n = true) (hD : depB .any l.toArray hb = true)
    (hS : ∀ o v w w', S o v w → Below w.heap.size w w' → S o v w')
    (h : wpHoldK P l.toArray w hb S (fun K a' => ∀ w', Below w.heap.size w w' → K w' → wpList P l.toArray Q (l.drop n) a' w') (l.take n) (fun _ => True) a) : (Code.region id l.toArray true).wp P Q a w := by
  simp only [Region.lexTailB, Bool.and_eq_true, decide_eq_true_eq] at hB
  obtain ⟨⟨⟨⟨hsel, hn⟩, hs⟩, hc⟩, hlex⟩ := hB
  have hlen : n < l.length := by simpa using hn
  have hln : (l.take n).length = n := by simp; omega
  have hdl : (l.drop n).length = l.toArray.size - n := by simp
  have hS' : ∀ o v x y, S o v x → KpW x y → S o v y := fun o v x y hx hy => hS o v x y hx (KpW.iff.1 hy)
  have inv0 : HeadInv .any l.toArray n (Array.replicate l.toArray.size false) :=
    ⟨by simp, fun j oj _ hl => (by rw [getD_replicate_false] at hl; cases hl), fun t _ ht => getD_in (by simpa using ht) (getD_replicate_false _ _)⟩
  have H := HeadK.lex (md := .any) (g := l.toArray.size - n) hS' (depB_spec hD) hsel hs hc hn (l.take n) 0 _ (fun _ => True) a ⟨⟨w, KpW.self _, trivial⟩, fun _ _ _ _ => trivial⟩ (fun j hj => by
    have hj' : j < n := by rw [hln] at hj; exact hj
    simp [hj']) (by simpa using hln) inv0 (by rw [hln]; exact hlex) h
  have T := HeadK.any (Q' := Q) (g := l.toArray.size - n) hS' (fun listed K' a' w' hw' hk hL => by
    have := wpAny_of_seq (md := .any) (Q' := Q) (l.drop n) n listed a' w' (fun j => by simp [List.getElem?_drop]) (by rw [hdl]; exact hL.1) (hL.2 w' (KpW.iff.1 hw') hk)
    rwa [hdl] at this) _ _ _ a w.drew (fun _ _ _ _ => trivial) (KpW.iff.2 (below_drew w)) trivial H
  rw [hln, Nat.add_sub_cancel' (Nat.le_of_lt hn)] at T
  exact wp_region_any hm T
theorem heldK_way {id : Nat} {Q : Exit → Act → World → Prop} {a : Act} {w : World} {l : List Oper} (hb : Oper → Bool) (S : Oper → Value → World → Prop) (n : Nat) (p : List Nat) (hm : P.follows .mixedOrders = true) (hB : Region.lexTailB .any l.toArray n = true) (hD : wayB .any l.toArray hb p = true)
    (hS : ∀ o v w w', S o v w → Below w.heap.size w w' → S o v w')
    (h : wpHoldK P l.toArray w hb S (fun K a' => ∀ w', Below w.heap.size w w' → K w' → wpList P l.toArray Q (l.drop n) a' w') (l.take n) (fun _ => True) a) : (Code.region id l.toArray true).wp P Q a w := by
  simp only [Region.lexTailB, Bool.and_eq_true, decide_eq_true_eq] at hB
  obtain ⟨⟨⟨⟨hsel, hn⟩, hs⟩, hc⟩, hlex⟩ := hB
  have hlen : n < l.length := by simpa using hn
  have hln : (l.take n).length = n := by simp; omega
  have hdl : (l.drop n).length = l.toArray.size - n := by simp
  have hS' : ∀ o v x y, S o v x → KpW x y → S o v y := fun o v x y hx hy => hS o v x y hx (KpW.iff.1 hy)
  have inv0 : HeadInv .any l.toArray n (Array.replicate l.toArray.size false) :=
    ⟨by simp, fun j oj _ hl => (by rw [getD_replicate_false] at hl; cases hl), fun t _ ht => getD_in (by simpa using ht) (getD_replicate_false _ _)⟩
  have H := HeadK.lex (md := .any) (g := l.toArray.size - n) hS' (wayB_spec hD) hsel hs hc hn (l.take n) 0 _ (fun _ => True) a ⟨⟨w, KpW.self _, trivial⟩, fun _ _ _ _ => trivial⟩ (fun j hj => by
    have hj' : j < n := by rw [hln] at hj; exact hj
    simp [hj']) (by simpa using hln) inv0 (by rw [hln]; exact hlex) h
  have T := HeadK.any (Q' := Q) (g := l.toArray.size - n) hS' (fun listed K' a' w' hw' hk hL => by
    have := wpAny_of_seq (md := .any) (Q' := Q) (l.drop n) n listed a' w' (fun j => by simp [List.getElem?_drop]) (by rw [hdl]; exact hL.1) (hL.2 w' (KpW.iff.1 hw') hk)
    rwa [hdl] at this) _ _ _ a w.drew (fun _ _ _ _ => trivial) (KpW.iff.2 (below_drew w)) trivial H
  rw [hln, Nat.add_sub_cancel' (Nat.le_of_lt hn)] at T
  exact wp_region_any hm T
theorem wpHoldK_append {Q : (World → Prop) → Act → Prop} (l1 l2 : List Oper) : wpHoldK P ops w0 hb S Q (l1 ++ l2) = wpHoldK P ops w0 hb S (wpHoldK P ops w0 hb S Q l2) l1 := by
  induction l1 with
  | nil => rfl
  | cons o l ih =>
    funext K a
    show hOpK P ops w0 hb S o K a (wpHoldK P ops w0 hb S Q (l ++ l2)) = hOpK P ops w0 hb S o K a (wpHoldK P ops w0 hb S (wpHoldK P ops w0 hb S Q l2) l)
    rw [ih]
theorem holdK_quiet {Q : (World → Prop) → Act → Prop} {QQ : Act → Prop} (l : List Oper) (hl : l.all (fun o => !hb o) = true) :
    ∀ (K : World → Prop) (a : Act), (∀ K' a', (∀ w, K' w → K w) → QQ a' → Q K' a') → (∀ w1, KpW w0 w1 → wpQuiet P ops (KpW w1) QQ l a) → wpHoldK P ops w0 hb S Q l K a := by
  induction l with
  | nil => intro K a hQ h; exact hQ _ _ (fun _ h => h) (h w0 (KpW.self _))
  | cons o l ih =>
    intro K a hQ h
    simp only [List.all_cons, Bool.and_eq_true, Bool.not_eq_true'] at hl
    obtain ⟨ho, hl⟩ := hl
    show hOpK P ops w0 hb S o K a (wpHoldK P ops w0 hb S Q l)
    have h' : ∀ w1, KpW w0 w1 → (if Region.wanted o (yielded ops a.tmps) then o.quiet P a (KpW w1) (wpQuiet P ops (KpW w1) QQ l) else wpQuiet P ops (KpW w1) QQ l (a.put o.dst undef)) := h
    unfold hOpK
    split
    · rename_i hw
      simp only [hw, if_true] at h'
      obtain ⟨v0, q0, -⟩ := h' w0 (KpW.self _)
      have hq : ∀ w1, KpW w0 w1 → o.quietAt P a (KpW w1) w1 v0 ∧ wpQuiet P ops (KpW w1) QQ l (a.put o.dst v0) := fun w1 hw1 => by
        obtain ⟨v1, q1, k1⟩ := h' w1 hw1
        obtain rfl : v0 = v1 := OneVal.quietAt_one (q0 w1 hw1) (q1 w1 (KpW.self _))
        exact ⟨q1 w1 (KpW.self _), k1⟩
      have hone : ∀ w, RX P w0 hb S o (execOp a.eval o) v0 w := fun w => by
        unfold RX
        rw [if_neg (by simp [ho])]
        exact fun u hu => OneVal.quietAt_one (hq w0 (KpW.self _)).1 (hu w0 (KpW.self _))
      refine ⟨fun w hw0 _ => ?_, fun v hv => ?_⟩
      · have := (hq w hw0).1
        unfold Oper.quietAt at this
        generalize (execOp a.eval o).run P w = r at this
        cases r with
        | ok n w' =>
          cases n
          case value u => obtain ⟨rfl, rfl⟩ := this; exact ⟨KpW.self _, hone _⟩
          case skip => obtain ⟨rfl, rfl⟩ := this; exact ⟨KpW.self _, hone _⟩
          case enter f args => obtain ⟨rfl, this⟩ := this; exact ⟨KpW.self _, Calls.mono this (fun e w'' h => ⟨v0, h.1, h.2, hone _⟩)⟩
          all_goals exact (this : False).elim
        | halt y w' => exact (this : False).elim
      · obtain ⟨w, hw0, -, hv⟩ := hv
        unfold RX at hv
        rw [if_neg (by simp [ho])] at hv
        obtain rfl : v = v0 := hv v0 (fun w1 hw1 => (hq w1 hw1).1)
        exact ih hl _ _ (fun K' a' hK' ha' => hQ K' a' (fun w h => (hK' w h).1) ha') (fun w1 hw1 => (hq w1 hw1).2)
    · rename_i hw
      simp only [hw] at h'
      refine ih hl _ _ hQ (fun w1 hw1 => ?_)
      have := h' w1 hw1
      rwa [if_neg (by simp)] at this
/-- An operation that makes memory of its own; it may lean on what is known. -/
theorem holdK_at {Q : (World → Prop) → Act → Prop} {o : Oper} {l : List Oper} {K : World → Prop} {a : Act} (ho : hb o = true) (hg : o.guard = none) (hx : ∀ w, KpW w0 w → K w → heldUpon P w (S o) ((execOp a.eval o).run P w))
    (h : ∀ v, (∃ w, KpW w0 w ∧ K w ∧ S o v w) → wpHoldK P ops w0 hb S Q l (fun w => K w ∧ S o v w) (a.put o.dst v)) : wpHoldK P ops w0 hb S Q (o :: l) K a := by
  show hOpK P ops w0 hb S o K a (wpHoldK P ops w0 hb S Q l)
  have e : ∀ v w, RX P w0 hb S o (execOp a.eval o) v w = S o v w := fun v w => by unfold RX; rw [if_pos ho]
  have e2 : RX P w0 hb S o (execOp a.eval o) = S o := funext fun v => funext fun w => e v w
  unfold hOpK
  rw [if_pos (by simp [Region.wanted, hg])]
  unfold HeldXK
  rw [e2]
  exact ⟨fun w hw hk => hx w hw (hk ho), h⟩
/-- A run of operations that yield one value each, then the rest. -/
theorem holdK_run {Q : (World → Prop) → Act → Prop} {l : List Oper} {K : World → Prop} {a : Act} (k : Nat) (hl : (l.take k).all (fun o => !hb o) = true)
    (h : ∀ w1, Below w0.heap.size w0 w1 → wpQuiet P ops (fun w' => ∃ x : KeptW w1, w' = x.v) (fun a' => ∀ K', (∀ w, K' w → K w) → wpHoldK P ops w0 hb S Q (l.drop k) K' a') (l.take k) a) : wpHoldK P ops w0 hb S Q l K a := by
  have e := wpHoldK_append (P := P) (ops := ops) (w0 := w0) (hb := hb) (S := S) (Q := Q) (l.take k) (l.drop k)
  rw [List.take_append_drop] at e
  rw [e]
  exact holdK_quiet _ hl _ _ (fun K' a' hK h => h K' hK) (fun w1 hw1 => h w1 (KpW.iff.1 hw1))
end
end HN
end Go.Proofs.YtkjhnemfebgcnaaGreatDoor
