/- Contracts of package calendar: the lots (ascending, shuffled). -/
import Derived.Test.YtijnabgehlkghaaGreatDoorSame
import Derived.Test.YtijnabgehlkghaaGreatDoorTail
import Derived.Test.YtijnabgehlkghaaGreatDoorCal2
import Derived.Test.YtijnabgehlkghaaGreatDoorArr3
import Derived.Laws.MakeOwn
import Derived.Laws.CopyRow
namespace Go.Proofs.YtijnabgehlkghaaGreatDoor
open Go Go.RowKit
def swapF (g : Nat → Int) (i k : Nat) : Nat → Int := fun j => if j = k then g i else if j = i then g k else g j
def nextX (x : Int) : Int := 48271 * x % 2147483647
def deal : Nat → Int → (Nat → Int) → Nat → Int
  | 0, _, g => g
  | i + 1, x, g => deal i (nextX x) (swapF g (i + 1) (nextX x % ((i : Int) + 1 + 1)).toNat)
def upF : Nat → Int := fun i => (i : Int)
def drawF (key : Int) (n : Nat) : Nat → Int := deal (n - 1) key upF
/-- A block of n integers that the call has made. -/
structure Row (w : World) (b n : Nat) (g : Nat → Int) (W : World) : Prop where
  c : ∀ i, i < n → W.cell? ⟨b, i, none⟩ = some (.int .i64 (g i))
  f : ∀ i, i < n → W.frozen? ⟨b, i, none⟩ = false
  lo : w.heap.size ≤ b
  below : Below w.heap.size w W
theorem Row.more {w W W' : World} {b n : Nat} {g : Nat → Int} (h : Row w b n g W) (hb : Below W.heap.size W W') : Row w b n g W' :=
  ⟨fun i hi => b_old hb (h.c i hi), fun i hi => b_frozen hb (h.c i hi) (h.f i hi), h.lo, b_then h.below hb⟩
theorem Row.drewN {w W : World} {b n : Nat} {g : Nat → Int} (h : Row w b n g W) (m : Nat) : Row w b n g (W.drewN m) := h.more (b_drewN (Below.refl _ _) m)
theorem Row.set {w W : World} {b n : Nat} {g : Nat → Int} (h : Row w b n g W) (k : Nat) (hk : k < n) (v : Int) : Row w b n (fun i => if i = k then v else g i) (W.setCell ⟨b, k, none⟩ (.int .i64 v)) :=
  ⟨fun i hi => by
    by_cases e : i = k
    · subst e; rw [if_pos rfl]; exact set_same (h.c i hk)
    · rw [if_neg e]; exact set_other (h.c i hi) (by intro e2; cases e2; exact e rfl), fun i hi => by rw [World.frozen?_setCell]; exact h.f i hi, h.lo, h.below.setCell (p := ⟨b, k, none⟩) h.lo (.int .i64 v)⟩
theorem Row.congr {w W : World} {b n : Nat} {g g' : Nat → Int} (h : Row w b n g W) (e : ∀ i, i < n → g i = g' i) : Row w b n g' W :=
  ⟨fun i hi => by rw [← e i hi]; exact h.c i hi, h.f, h.lo, h.below⟩
theorem made_at (n i : Nat) (hi : i < n) : (madeCells #[Value.int .i64 0] n)[i]? = some (.int .i64 0) := by
  simp [madeCells, hi, Nat.mod_one]
theorem Row.made (w : World) (n : Nat) (T : TypeId) : Row w w.heap.size n (fun _ => 0) (w.alloc (.cells (madeCells #[Value.int .i64 0] n) T)) :=
  have hh : (w.alloc (.cells (madeCells #[Value.int .i64 0] n) T)).heap[w.heap.size]? = some (.cells (madeCells #[Value.int .i64 0] n) T (0, 0)) := by show (w.heap.push _)[_]? = _; simp
  have hc : ∀ i, i < n → (w.alloc (.cells (madeCells #[Value.int .i64 0] n) T)).cell? ⟨w.heap.size, i, none⟩ = some (.int .i64 0) := fun i hi => by
    simp only [World.cell?, hh]
    simpa using made_at n i hi
  ⟨hc, fun i hi => by
    unfold World.frozen?
    simp only [hh]
    simp, Nat.le_refl _, below_alloc _ _⟩
theorem run_makeInts (n : Nat) (hn : n ≤ 100000) (w : World) : (Instr.makeSlice 50 (.int .i64 n) (.int .i64 n)).run Tryz.prog w = .ok (.slice (some ⟨w.heap.size, 0, none⟩) n n) (w.alloc (.cells (madeCells #[Value.int .i64 0] n) 3)) := by
  have hi : Tryz.prog.info? 3 = some Tryz.prog.types[3]! := by kernel_rfl
  have := run_make (P := Tryz.prog) w 50 3 Tryz.prog.types[3]! (.int .i64 0) Tryz.underlying50 hi (by kernel_rfl) .i64 .i64 n n (by omega) (Int.le_refl _) (by rw [show (Tryz.prog.types[3]!).bytes = 8 from by kernel_rfl]; omega) (by omega)
  rw [show (Tryz.prog.types[3]!).size = 1 from by kernel_rfl, Nat.mul_one, Int.toNat_natCast] at this
  exact this
set_option maxRecDepth 100000 in
theorem ascending_ok (n : Nat) (hn : n ≤ 256) (w : World) :
    Calls Tryz.prog 108 #[.int .i64 n] w fun r w' => ∃ b, r = .returned (.slice (some ⟨b, 0, none⟩) n n) ∧ Row w b n upF w' := by
  have hmk := run_makeInts n (by omega)
  go_enter Tryz.func108, Tryz.ntmps108
  go_wp2_with fail
  have R0 := Row.made w n 3
  clear hmk
  go_loopw [4, 8] (fun _ i wr => ∃ k : Nat, k ≤ n ∧ i = .int .i64 k ∧ Row w w.heap.size n (fun j => if j < k then upF j else 0) wr) (fun _ i _ => n - (intOf i).toNat)
  case atStart => exact ⟨0, Nat.zero_le _, rfl, R0.congr fun i _ => by simp⟩
  case round =>
    obtain ⟨k, hk, rfl, hr⟩ := hrel
    by_cases hlt : k < n
    · have hc := hr.c k hlt
      have hf := hr.f k hlt
      go_wp2_with fail
      go_roundw
      case rel => exact ⟨k + 1, by omega, by go_num, (hr.set k hlt k).congr fun i hi => by
        by_cases e : i = k
        · subst e; simp [upF]
        · rw [if_neg e]
          by_cases e2 : i < k
          · rw [if_pos e2, if_pos (by omega)]
          · rw [if_neg e2, if_neg (by omega)]⟩
      case measure => simp [intOf]; omega
    · obtain rfl : k = n := by omega
      go_wp2_with fail
      go_ret
      exact ⟨_, rfl, hr.congr fun i hi => by simp [hi]⟩
end Go.Proofs.YtijnabgehlkghaaGreatDoor
