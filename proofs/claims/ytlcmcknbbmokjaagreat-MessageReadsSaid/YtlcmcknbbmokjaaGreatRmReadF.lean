/- Contracts of package message: a word is read into a line. -/
import Derived.Test.YtlcmcknbbmokjaaGreatRmWords
import Derived.Test.YtlcmcknbbmokjaaGreatPm3
import Derived.Test.YtlcmcknbbmokjaaGreatRmRMask
import Derived.Test.YtlcmcknbbmokjaaGreatRmMin3
namespace Go.Proofs.YtlcmcknbbmokjaaGreat
open Go Go.RowKit
/-- A call that has stored a value in a block, and returned true or false. -/
structure ReadR (e : Ending) (w w' : World) (lb o : Nat) (v : Value) (ok : Bool) : Prop where
  ret : e = .returned (.bool ok)
  ex : ∃ w1, Below w.heap.size w w1 ∧ Below w1.heap.size (w1.setCell ⟨lb, o, none⟩ v) w'
theorem size_set (w : World) (a : Addr) (v : Value) : (w.setCell a v).heap.size = w.heap.size := set_size w a v
set_option maxRecDepth 100000 in
set_option maxHeartbeats 1000000 in
theorem textRead (A W : FuncId) (o b c lb : Nat) (t : ByteArray) (ok : Bool) (w : World) (hA : AtF A o) (hWe : Enters W) (hW : ∀ w, Calls Tryz.prog W #[.string t] w fun e w' => e = .returned (.bool ok) ∧ Below w.heap.size w w')
    (hb : w.cell? ⟨b, 0, none⟩ = some (fnV A)) (hc : w.cell? ⟨c, 0, none⟩ = some (fnV W)) (hcl : c ≠ lb) (u : Value) (hu : w.cell? ⟨lb, o, none⟩ = some u) (hf : w.frozen? ⟨lb, o, none⟩ = false) :
    Calls Tryz.prog 184 #[.pointer (some ⟨lb, 0, none⟩), .string t, .pointer (some ⟨b, 0, none⟩), .pointer (some ⟨c, 0, none⟩)] w fun e w' => ReadR e w w' lb o (.string t) ok := by
  have hen := hA.enter
  have hat := hA.call
  unfold Enters at hen hWe
  have hc2 : (w.setCell ⟨lb, o, none⟩ (.string t)).cell? ⟨c, 0, none⟩ = _ := set_other hc (by intro e; cases e; exact hcl rfl)
  clear hA hcl
  simp only [fnV] at *
  go_enter Tryz.func184, Tryz.ntmps184
  go_wp2_with fail
  refine (hat _ _).mono ?_
  rintro e1 w1 ⟨rfl, rfl⟩
  go_wp2_with fail
  refine (hW _).mono ?_
  rintro e2 w2 ⟨rfl, hb2⟩
  rw [size_set] at hb2
  go_wp2_with fail
  go_ret
  exact ⟨rfl, _, Below.refl _ _, hb2⟩
set_option maxRecDepth 100000 in
set_option maxHeartbeats 1000000 in
theorem numRead (A : FuncId) (o b c lb K : Nat) (t : ByteArray) (w : World) (hA : AtF A o) (h1 : 1 ≤ K) (h5 : K ≤ 5)
    (hb : w.cell? ⟨b, 0, none⟩ = some (fnV A)) (hc : w.cell? ⟨c, 0, none⟩ = some (.int .i64 K)) (u : Value) (hu : w.cell? ⟨lb, o, none⟩ = some u) (hf : w.frozen? ⟨lb, o, none⟩ = false) :
    Calls Tryz.prog 187 #[.pointer (some ⟨lb, 0, none⟩), .string t, .pointer (some ⟨c, 0, none⟩), .pointer (some ⟨b, 0, none⟩)] w fun e w' => ReadR e w w' lb o (.int .i64 (if allK t K then nv t K else 0)) (decide (allK t K)) := by
  have hen := hA.enter
  have hat := hA.call
  unfold Enters at hen
  have hn := fun w => numberK_any t K h1 h5 w
  have HO : Hid (numOutK t K = .tuple #[.int .i64 (if allK t K then nv t K else 0), .bool (decide (allK t K))]) := Lib.hid (by unfold numOutK; by_cases h : allK t K <;> simp [h])
  rw [HO.out] at hn
  clear HO hA
  generalize (if allK t K then nv t K else 0) = n at *
  generalize decide (allK t K) = ok at *
  simp only [fnV] at *
  go_enter Tryz.func187, Tryz.ntmps187
  go_wp2_with fail
  refine (hn _).mono ?_
  rintro e1 w1 ⟨rfl, hb1⟩
  have b1 := b_old hb1 hb
  have u1 := b_old hb1 hu
  have f1 := b_frozen hb1 hu hf
  clear hb hc hu hf hn
  go_wp2_with fail
  refine (hat _ _).mono ?_
  rintro e2 w2 ⟨rfl, rfl⟩
  go_wp2_with fail
  go_ret
  exact ⟨rfl, _, hb1, by rw [← size_set w2 ⟨lb, o, none⟩ (.int .i64 n)]; exact Below.refl _ _⟩
set_option maxRecDepth 100000 in
set_option maxHeartbeats 1000000 in
theorem codeRead (A P : FuncId) (o b c lb : Nat) (t : ByteArray) (n er : Int) (w : World) (hA : AtF A o) (hPe : Enters P) (hP : ∀ w, Calls Tryz.prog P #[.string t] w fun e w' => e = .returned (.tuple #[.int .i64 n, .int .i64 er]) ∧ Below w.heap.size w w')
    (hb : w.cell? ⟨b, 0, none⟩ = some (fnV A)) (hc : w.cell? ⟨c, 0, none⟩ = some (fnV P)) (u : Value) (hu : w.cell? ⟨lb, o, none⟩ = some u) (hf : w.frozen? ⟨lb, o, none⟩ = false) :
    Calls Tryz.prog 189 #[.pointer (some ⟨lb, 0, none⟩), .string t, .pointer (some ⟨c, 0, none⟩), .pointer (some ⟨b, 0, none⟩)] w fun e w' => ReadR e w w' lb o (.int .i64 n) (er == 0) := by
  have hen := hA.enter
  have hat := hA.call
  unfold Enters at hen hPe
  clear hA
  simp only [fnV] at *
  go_enter Tryz.func189, Tryz.ntmps189
  go_wp2_with fail
  refine (hP _).mono ?_
  rintro e1 w1 ⟨rfl, hb1⟩
  have b1 := b_old hb1 hb
  have u1 := b_old hb1 hu
  have f1 := b_frozen hb1 hu hf
  clear hb hc hu hf hP
  go_wp2_with fail
  refine (hat _ _).mono ?_
  rintro e2 w2 ⟨rfl, rfl⟩
  go_wp2_with fail
  go_ret
  exact ⟨rfl, _, hb1, by rw [← size_set w2 ⟨lb, o, none⟩ (.int .i64 n)]; exact Below.refl _ _⟩
set_option maxRecDepth 100000 in
set_option maxHeartbeats 1000000 in
theorem optRead (A : FuncId) (o b lb : Nat) (t : ByteArray) (ok : Bool) (w : World) (hA : AtF A o) (hW : ∀ w, Calls Tryz.prog 123 #[.string t] w fun e w' => e = .returned (.bool ok) ∧ Below w.heap.size w w')
    (hb : w.cell? ⟨b, 0, none⟩ = some (fnV A)) (u : Value) (hu : w.cell? ⟨lb, o, none⟩ = some u) (hf : w.frozen? ⟨lb, o, none⟩ = false) (hd : (t.toList == [45]) = false) :
    Calls Tryz.prog 192 #[.pointer (some ⟨lb, 0, none⟩), .string t, .pointer (some ⟨b, 0, none⟩)] w fun e w' => ReadR e w w' lb o (.string t) ok := by
  have hen := hA.enter
  have hat := hA.call
  unfold Enters at hen
  clear hA
  simp only [fnV] at *
  go_enter Tryz.func192, Tryz.ntmps192
  go_wp2_with fail
  refine (hat _ _).mono ?_
  rintro e1 w1 ⟨rfl, rfl⟩
  go_wp2_with fail
  refine (hW _).mono ?_
  rintro e2 w2 ⟨rfl, hb2⟩
  rw [size_set] at hb2
  go_wp2_with fail
  go_ret
  exact ⟨rfl, _, Below.refl _ _, hb2⟩
theorem optDash (b lb : Nat) (t : ByteArray) (w : World) (hd : (t.toList == [45]) = true) :
    Calls Tryz.prog 192 #[.pointer (some ⟨lb, 0, none⟩), .string t, .pointer (some ⟨b, 0, none⟩)] w fun e w' => e = .returned (.bool true) ∧ Below w.heap.size w w' := by
  go_enter Tryz.func192, Tryz.ntmps192
  go_wp2_with fail
  go_ret
  exact ⟨rfl, Below.refl _ _⟩
end Go.Proofs.YtlcmcknbbmokjaaGreat
