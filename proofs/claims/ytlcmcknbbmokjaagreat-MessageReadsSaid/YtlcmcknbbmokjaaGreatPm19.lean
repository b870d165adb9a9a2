/- The first test of chapter 2 by the evaluator: messages. · The first test of chapter 2 by the evaluator: messages. · The first test of chapter 2 by the evaluator: lists. · The statements' first test: the program returns the results of the examples of chapter 2. -/
import Derived.Test.YtlcmcknbbmokjaaGreatPm9
import Derived.Test.YtlcmcknbbmokjaaGreatPm16
import Derived.Test.YtlcmcknbbmokjaaGreatPm17
import Derived.Test.YtlcmcknbbmokjaaGreatPm18
import Derived.Test.YtlcmcknbbmokjaaGreatPm3
namespace Go.Proofs.YtlcmcknbbmokjaaGreat
open Go Go.RowKit Ev
theorem run_Q : (tblQ.all fun x => runsS Tryz.prog gN2 orcL 300 lst2 x) = true := by kernel_rfl
end Go.Proofs.YtlcmcknbbmokjaaGreat
namespace Go.Proofs.YtlcmcknbbmokjaaGreat
open Go Go.RowKit Ev
theorem run_Q3 : (tblQ3.all fun x => runsS Tryz.prog gN2 orcL 300 lst2 x) = true := by kernel_rfl
end Go.Proofs.YtlcmcknbbmokjaaGreat
namespace Go.Proofs.YtlcmcknbbmokjaaGreat
open Go Go.RowKit Ev
theorem run_T : (tblT.all fun x => runsS Tryz.prog gN2 orcL 300 lst2 x) = true := by kernel_rfl
end Go.Proofs.YtlcmcknbbmokjaaGreat
namespace Go.Proofs.YtlcmcknbbmokjaaGreat
open Go Go.RowKit Ev
theorem takeS_get : ∀ {l : List Value} {xs : List ByteArray}, takeS l = some xs → ∀ (j : Nat) x, xs[j]? = some x → l[j]? = some (.string x)
  | [], xs, h, j, x, hx => by cases h; simp at hx
  | .string s :: l, xs, h, j, x, hx => by
    simp only [takeS, Option.map_eq_some_iff] at h
    obtain ⟨ys, hy, rfl⟩ := h
    cases j with
    | zero => simp at hx; subst hx; rfl
    | succ j => simpa using takeS_get hy j x (by simpa using hx)
  | .bool _ :: _, _, h, _, _, _ | .int _ _ :: _, _, h, _, _, _ | .float _ _ :: _, _, h, _, _, _ | .complex _ _ _ :: _, _, h, _, _, _ | .pointer _ :: _, _, h, _, _, _ | .slice _ _ _ :: _, _, h, _, _, _ | .map _ :: _, _, h, _, _, _ | .chan _ :: _, _, h, _, _, _ | .func _ _ _ :: _, _, h, _, _, _ | .nilFunc :: _, _, h, _, _, _ | .iface _ _ :: _, _, h, _, _, _ | .nilIface :: _, _, h, _, _, _ | .agg _ :: _, _, h, _, _, _ | .tuple _ :: _, _, h, _, _, _ => by simp [takeS] at h
theorem same_two {ρ : Rn} {a b : Value} {args' : Array Value} (ha : flat a = true) (hb : flat b = true) (har : AR ρ #[a, b] args') : args' = #[a, b] := by
  obtain ⟨x, y, rfl, hx, hy⟩ := har.two rfl
  rw [flat_eq ha hx, flat_eq hb hy]
set_option maxRecDepth 100000 in
theorem orcStr_ok : OrcOk Tryz.prog gN2 orcStr := by
  intro h f args v h1 e
  unfold orcStr at e
  cases hj : Nat.beq f 75 with
  | true =>
    rw [hj] at e
    simp only [cond_true] at e
    obtain rfl := Nat.eq_of_beq_eq_true hj
    split at e
    · rename_i k o n c sep
      split at e
      · rename_i cs ty fl hget
        split at e
        · rename_i xs hxs
          cases hc : (Nat.blt 0 n && (Nat.beq xs.length n && (Nat.ble n c && (Nat.ble n 140737488355328 && Nat.ble (Lib.join (xs.map (·.data.toList)) sep.data.toList).length 140737488355328)))) with
          | false => rw [hc] at e; cases e
          | true =>
            rw [hc] at e
            cases e
            simp only [Bool.and_eq_true, Nat.blt_eq, Nat.beq_eq, Nat.ble_eq] at hc
            obtain ⟨c0, c1, c2, c3, c4⟩ := hc
            refine orc_flat rfl fun ρ args' w hr hg har => ?_
            obtain ⟨s', x', rfl, hs, hx⟩ := har.two rfl
            cases hx
            obtain ⟨j, cc, hjk, hO⟩ := hr.obj _ _ hget
            obtain ⟨c', rfl, hcc⟩ : ∃ c', s' = .slice (some ⟨j, o, none⟩) n c' ∧ n ≤ c' := by
              cases hs with
              | sl _ _ _ hq => rw [hjk] at hq; cases hq; exact ⟨_, rfl, c2⟩
              | slL _ _ _ _ hq p1 p2 _ => rw [hjk] at hq; cases hq; exact ⟨_, rfl, by omega⟩
              | slE => omega
            subst c1
            refine (Tryz.strings_Join j o c' xs sep w (fun q x hq => ?_) (hr.lt _ _ _ _ hget hjk) c3 hcc c4).mono ?_
            · have hl := takeS_get hxs q x hq
              have hqn : q < xs.length := (List.getElem?_eq_some_iff.1 hq).1
              rw [List.getElem?_take, if_pos hqn, List.getElem?_drop] at hl
              have hlt : o + q < cs.size := by
                have := (List.getElem?_eq_some_iff.1 hl).1
                simpa using this
              obtain ⟨u, g1, g2⟩ := hO.1 (o + q) hlt
              have hgd : cs.getD (o + q) undef = .string x := by
                rw [Array.getElem?_toList] at hl
                simp [Array.getD, hlt]
                simpa [hlt] using hl
              rw [hgd] at g2
              cases g2
              rw [cell_rd]
              exact g1
            · rintro e w' ⟨rfl, hb⟩
              exact ⟨rfl, hb⟩
        · cases e
      · cases e
    · cases e
  | false =>
    rw [hj] at e
    simp only [cond_false] at e
    cases hi : Nat.beq f 205 with
    | true =>
      rw [hi] at e
      simp only [cond_true] at e
      obtain rfl := Nat.eq_of_beq_eq_true hi
      split at e
      · cases e
        refine orc_flat rfl fun ρ args' w hr hg har => ?_
        rw [same_two rfl rfl har]
        refine (Tryz.strings_IndexByte _ _ _).mono ?_
        rintro e w' ⟨rfl, rfl⟩
        exact ⟨rfl, Below.refl _ _⟩
      · cases e
    | false =>
      rw [hi] at e
      simp only [cond_false] at e
      cases hk : Nat.beq f 214 with
      | true =>
        rw [hk] at e
        simp only [cond_true] at e
        obtain rfl := Nat.eq_of_beq_eq_true hk
        split at e
        · cases e
          refine orc_flat rfl fun ρ args' w hr hg har => ?_
          rw [same_two rfl rfl har]
          refine (Tryz.stringslite_Index_one _ _ _).mono ?_
          rintro e w' ⟨rfl, rfl⟩
          exact ⟨rfl, Below.refl _ _⟩
        · cases e
      | false =>
        rw [hk] at e
        simp only [cond_false] at e
        cases hm : Nat.beq f 118 with
        | true =>
          rw [hm] at e
          simp only [cond_true] at e
          obtain rfl := Nat.eq_of_beq_eq_true hm
          split at e
          · cases e
            refine orc_flat rfl fun ρ args' w hr hg har => ?_
            rw [same_two rfl rfl har]
            refine (Tryz.strings_Count_one _ _ _).mono ?_
            rintro e w' ⟨rfl, rfl⟩
            exact ⟨rfl, Below.refl _ _⟩
          · cases e
        | false => rw [hm] at e; cases e
theorem no_orc : OrcOk Tryz.prog gN2 noOrc := orc_none _ _
theorem known_app {l m : TblS} (hl : ∀ x ∈ l, KnownS Tryz.prog gN2 lst2 x) (hm : ∀ x ∈ m, KnownS Tryz.prog gN2 lst2 x) : ∀ x ∈ l ++ m, KnownS Tryz.prog gN2 lst2 x := fun x hx => by
  rcases List.mem_append.1 hx with h | h
  · exact hl x h
  · exact hm x h
theorem kA : ∀ x ∈ tblA, KnownS Tryz.prog gN2 lst2 x := knownS_all no_orc good_lst2 run_A
theorem kD : ∀ x ∈ tblD, KnownS Tryz.prog gN2 lst2 x := knownS_all no_orc good_lst2 run_D
theorem kN : ∀ x ∈ tblN, KnownS Tryz.prog gN2 lst2 x := knownS_all no_orc good_lst2 run_N
theorem oA : OrcOk Tryz.prog gN2 orcA := memoS_ok good_lst2 (by kernel_rfl) (known_app (known_app kA kD) kN) orcStr_ok
theorem kB : ∀ x ∈ tblB, KnownS Tryz.prog gN2 lst2 x := knownS_all oA good_lst2 run_B
theorem oB : OrcOk Tryz.prog gN2 orcB := memoS_ok good_lst2 (by kernel_rfl) (known_app kB kA) no_orc
theorem kC : ∀ x ∈ tblC, KnownS Tryz.prog gN2 lst2 x := knownS_all oB good_lst2 run_C
theorem kM : ∀ x ∈ tblM, KnownS Tryz.prog gN2 lst2 x := knownS_all oA good_lst2 run_M
theorem oP : OrcOk Tryz.prog gN2 orcP := memoS_ok good_lst2 (by kernel_rfl) (known_app (known_app (known_app (known_app kC kM) kA) kD) kN) orcStr_ok
theorem kP : ∀ x ∈ tblP, KnownS Tryz.prog gN2 lst2 x := knownS_all oP good_lst2 run_P
theorem kR : ∀ x ∈ tblR, KnownS Tryz.prog gN2 lst2 x := knownS_all oP good_lst2 run_R
theorem kH : ∀ x ∈ tblH, KnownS Tryz.prog gN2 lst2 x := knownS_all oA good_lst2 run_H
theorem kL : ∀ x ∈ tblL, KnownS Tryz.prog gN2 lst2 x := known_app (known_app (known_app (known_app (known_app (known_app (known_app (known_app kP kR) kH) kC) kM) kB) kA) kD) kN
theorem oL : OrcOk Tryz.prog gN2 orcL := memoS_ok good_lst2 (by kernel_rfl) kL orcStr_ok
theorem kQ : ∀ x ∈ tblQ, KnownS Tryz.prog gN2 lst2 x := knownS_all oL good_lst2 run_Q
theorem kQ3 : ∀ x ∈ tblQ3, KnownS Tryz.prog gN2 lst2 x := knownS_all oL good_lst2 run_Q3
theorem kT : ∀ x ∈ tblT, KnownS Tryz.prog gN2 lst2 x := knownS_all oL good_lst2 run_T
theorem kG : ∀ x ∈ tblG, KnownS Tryz.prog gN2 lst2 x := known_app (known_app (known_app (known_app (known_app (known_app (known_app (known_app kT kQ) kQ3) kP) kR) kH) kC) kM) kB
theorem oG : OrcOk Tryz.prog gN2 orcG := memoS_ok good_lst2 (by kernel_rfl) (known_app kG kA) orcStr_ok
theorem awake2_true (w : World) : Calls Tryz.prog 15 #[] w fun e w' => e = .returned (.bool true) ∧ Below w.heap.size w w' :=
  (known oG good_lst2 run_awake2).calls w (fun x hx => by cases hx)
end Go.Proofs.YtlcmcknbbmokjaaGreat
