/- Contracts: the reference's Draw; Draw's error side. -/
import Derived.Test.YtijnabgehlkghaaGreatDoorDraw2
import Derived.Test.YtijnabgehlkghaaGreatDoorUniv
namespace Go.Proofs.YtijnabgehlkghaaGreatDoor
open Go Go.RowKit
def upL (k : Nat) : List Int := (List.range k).map fun (i : Nat) => (i : Int)
theorem upL_succ (k : Nat) : upL (k + 1) = upL k ++ [(k : Int)] := by simp [upL, List.range_succ]
theorem upL_len (k : Nat) : (upL k).length = k := by simp [upL]
theorem upL_get (k i : Nat) (h : i < k) : (upL k).getD i 0 = (i : Int) := by simp [upL, List.getD, h]
def i64L (l : List Int) : List Value := l.map (Value.int .i64)
theorem row_of_own {w W : World} {base g n cap : Nat} {e : TypeId} (h : W.ownsRow base e 1 (.slice (some ⟨g, 0, none⟩) n cap) n (i64L (upL n))) (hb : Below w.heap.size w W) (hlo : w.heap.size ≤ g) : Row w g n upF W :=
  ⟨fun i hi => by
    rw [h.cellAt i (by omega)]
    simp [i64L, upL, hi, upF], fun i _ => h.frozenAt i, hlo, hb⟩
set_option maxRecDepth 100000 in
set_option maxHeartbeats 1000000 in
theorem qDraw_ok (n : Nat) (key : Int) (hn0 : 1 ≤ n) (hn : n ≤ 256) (hk1 : 1 ≤ key) (hk2 : key ≤ 2147483646) (w : World) :
    Calls Tryz.prog 68 #[.int .i64 key, .int .i64 n] w fun r w' => ∃ b cap, r = .returned (.slice (some ⟨b, 0, none⟩) n cap) ∧ Row w b n (drawF key n) w' := by
  obtain ⟨i0, hi, hz0, hz1, hz2⟩ := info_parts infoInt
  have HF : Hid (drawF key n = deal (n - 1) key upF) := Lib.hid rfl
  go_enter Tryz.func68, Tryz.ntmps68
  go_wp2_with fail
  go_loopw [5, 6] (fun v i wr => ∃ k : Nat, k ≤ n ∧ i = .int .i64 k ∧ wr.ownsRow w.heap.size 3 1 v k (i64L (upL k)) ∧ Below w.heap.size w wr) (fun _ i _ => n - (intOf i).toNat)
  case atStart => exact ⟨0, Nat.zero_le _, rfl, World.ownsRow_nil _ _ _ _, Below.refl _ _⟩
  case round =>
    obtain ⟨k, hk, rfl, hown, hbr⟩ := hrel
    by_cases hlt : k < n
    · have HU : Hid (i64L (upL (k + 1)) = i64L (upL k) ++ [.int .i64 k]) := Lib.hid (by rw [upL_succ]; simp [i64L])
      have hsz3 := hbr.size
      have hl1 : k + 1 ≤ maxLen := by unfold maxLen; omega
      go_wp2_with (at_builtin; refine Hid.out ?_)
      refine Lib.hid ?_
      refine wpList_append_own _ rfl _ _ 50 rfl w.heap.size 3 i0 (.int .i64 0) 1 8 Tryz.underlying50 hi hz0 hz1 hz2 rfl (by decide) _ k _ rfl (hown.alloc _) ⟨wr.heap.size, 0, none⟩ 1 1 [.int .i64 k] rfl rfl
        (World.news_of_block (cs := #[.int .i64 k]) (t := 3) (fr := (0, 0)) (heap_alloc_new wr _)) (by simp [Value.oneCell']) hl1 (by omega) (by simp; omega) ?_
      intro v' w4 hown' hgrow _
      have hgrow2 : (wr.alloc (.cells #[.int .i64 k] 3)).grownBy w4 u5.ownBlock := hgrow
      have hb4 : Below w.heap.size w w4 := (hbr.alloc hbr.size _).grown hgrow2 (by simp; omega) (own_block hown)
      have HO := Lib.hid hown'
      clear hgrow hgrow2 hown' hown
      go_wp2_with fail
      go_roundw
      case rel => exact ⟨k + 1, by omega, by go_num, by rw [HU.out]; exact HO.out, hb4⟩
      case measure => simp [intOf]; omega
    · obtain rfl : k = n := by omega
      obtain ⟨j, hj⟩ : ∃ j, k = j + 1 := ⟨k - 1, by omega⟩
      have hown1 : wr.ownsRow w.heap.size 3 1 u5 (j + 1) (i64L (upL k)) := by rw [← hj]; exact hown
      obtain ⟨g, cap, rfl⟩ := ownsRow_succ hown1
      have hg : w.heap.size ≤ g := by
        rcases hown1.2 with ⟨e, _⟩ | ⟨g', cap', cur, e, hle, _⟩
        · cases e
        · cases e; exact hle
      have hown2 : wr.ownsRow w.heap.size 3 1 (.slice (some ⟨g, 0, none⟩) k cap) k (i64L (upL k)) := by subst hj; exact hown1
      have R0 := row_of_own hown2 hbr hg
      have hcap : k ≤ cap := by
        rcases hown2.2 with ⟨e, _⟩ | ⟨g', cap', cur, e, _, _, hle, _⟩
        · cases e
        · cases e; exact hle
      rw [show ((j + 1 : Nat)) = k from hj.symm]
      clear hown hown1 hown2 hj
      go_wp2_with fail
      go_loopw [0, 7, 8] (fun x i _ wr => ∃ (j : Nat) (X : Int) (f : Nat → Int), j ≤ k ∧ i = .int .i64 ((j : Int) - 1) ∧ x = .int .i64 X ∧ 0 ≤ X ∧ X ≤ 2147483646 ∧ Hid (deal (j - 1) X f = drawF key k) ∧ Row w g k f wr) (fun _ i _ _ => (intOf i + 1).toNat)
      case atStart => exact ⟨k, key, upF, Nat.le_refl _, rfl, rfl, by omega, by omega, Lib.hid HF.out.symm, R0⟩
      case round =>
        obtain ⟨j, X, f, hj, rfl, rfl, hX1, hX2, HG, hr⟩ := hrel
        by_cases hlt : 2 ≤ j
        · obtain ⟨m, rfl⟩ : ∃ m, j = m + 2 := ⟨j - 2, by omega⟩
          rw [show ((m + 2 : Nat) : Int) - 1 = (m : Int) + 1 from by omega]
          have hN1 : 0 ≤ nextX X ∧ nextX X ≤ 2147483646 := by unfold nextX; omega
          have hNX : Hid (nextX X = 48271 * X % 2147483647) := Lib.hid rfl
          obtain ⟨i, hi', hkm⟩ : ∃ i : Nat, nextX X % ((m : Int) + 1 + 1) = (i : Int) ∧ i < m + 2 := by
            have h1 := Int.emod_nonneg (nextX X) (show (m : Int) + 1 + 1 ≠ 0 by omega)
            have h2 := Int.emod_lt_of_pos (nextX X) (show 0 < (m : Int) + 1 + 1 by omega)
            exact ⟨(nextX X % ((m : Int) + 1 + 1)).toNat, by omega, by omega⟩
          have ci := hr.c (m + 1) (by omega)
          have fi := hr.f (m + 1) (by omega)
          have ck := hr.c i (by omega)
          have fk := hr.f i (by omega)
          have HG2 : Hid (deal m (nextX X) (swapF f (m + 1) i) = drawF key k) := Lib.hid (by
            have := HG.out
            rw [show m + 2 - 1 = m + 1 from rfl] at this
            rw [← this]
            show _ = deal m (nextX X) (swapF f (m + 1) (nextX X % ((m : Int) + 1 + 1)).toNat)
            rw [hi', Int.toNat_natCast])
          clear HG
          go_wp2_with fail
          rw [← hNX.out, hi']
          have hi1 : m + 1 < k := by omega
          have hk1' : i < k := by omega
          have hr2 := hr.set (m + 1) hi1 (f i)
          have d2 := hr2.c i hk1'; have e2 := hr2.f i hk1'
          have hr3 := hr2.set i hk1' (f (m + 1))
          go_region
          go_wp2_with fail
          go_roundw
          case rel => exact ⟨m + 1, nextX X, swapF f (m + 1) i, by omega, by go_num, rfl, hN1.1, hN1.2, HG2, hr3.more (below_drew _)⟩
          case measure => simp [intOf]; omega
        · have HD : Hid (deal (j - 1) X f = f) := Lib.hid (by rw [show j - 1 = 0 from by omega]; rfl)
          have HG3 : Hid (f = drawF key k) := Lib.hid (by rw [← HG.out, HD.out])
          have hlt' : ¬ (0 : Int) < (j : Int) - 1 := by omega
          go_wp2_with fail
          go_ret
          exact ⟨_, ⟨_, rfl⟩, hr.congr fun i _ => by rw [HG3.out]⟩
set_option maxRecDepth 100000 in
theorem qDraw_nil (key : Int) (w : World) :
    Calls Tryz.prog 68 #[.int .i64 key, .int .i64 0] w fun r w' => r = .returned (.slice none 0 0) ∧ w' = w := by
  go_enter Tryz.func68, Tryz.ntmps68
  go_wp2_with fail
  go_loop [5, 6] (fun v i => v = .slice none 0 0 ∧ i = .int .i64 0) (fun _ i => 0)
  case atStart => exact ⟨rfl, rfl⟩
  case round =>
    obtain ⟨rfl, rfl⟩ := hrel
    go_wp2_with fail
    go_loop [0, 7, 8] (fun x i y => i = .int .i64 (-1)) (fun _ i _ => 0)
    case atStart => rfl
    case round =>
      subst hrel
      go_wp2_with fail
      go_ret
      exact ⟨rfl, rfl⟩
set_option maxRecDepth 100000 in
theorem Draw_bad (n key : Int) (h : ¬ ((1 ≤ key ∧ key ≤ 2147483646) ∧ 0 ≤ n ∧ n ≤ 256)) (w : World) :
    Calls Tryz.prog 66 #[.int .i64 key, .int .i64 n] w fun r w' => r = .returned (.tuple #[.slice none 0 0, .int .i64 3]) ∧ Below w.heap.size w w' := by
  have HF : Hid (fst [rng key 1 2147483646, rng n 0 256] = 3) := Lib.hid (by
    by_cases h1 : 1 ≤ key ∧ key ≤ 2147483646
    · rw [rng_ok h1.1 h1.2, rng_bad (fun h2 => h ⟨h1, h2⟩)]; rfl
    · rw [rng_bad h1]; rfl)
  clear h
  go_enter Tryz.func66, Tryz.ntmps66
  go_wp2_with fail
  refine (checkRange_any _ _ _ _).mono ?_
  rintro e w1 ⟨rfl, hw⟩
  rw [hw]
  clear hw
  go_wp2_with fail
  refine (checkRange_any _ _ _ _).mono ?_
  rintro e w1 ⟨rfl, hw⟩
  rw [hw]
  clear hw
  generalize rng key 1 2147483646 = a at *
  generalize rng n 0 256 = b at *
  go_wp2_with fail
  refine (fe_new [_, _] _ _ _ _ _ rfl rfl (by simp)).mono ?_
  rintro e w2 ⟨rfl, hw⟩
  have hb2 : Below w.heap.size w w2 := by rw [hw]; exact below_alloc _ _
  rw [HF.out]
  clear hw
  go_wp2_with fail
  go_ret2
  exact ⟨rfl, hb2⟩
end Go.Proofs.YtijnabgehlkghaaGreatDoor
