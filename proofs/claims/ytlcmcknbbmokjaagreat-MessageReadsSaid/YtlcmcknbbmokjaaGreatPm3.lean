/- Contracts of package message: the table of the fields of a line. · Contract of message.fields. · Contracts of package calendar: Day, Date, texts of dates. · Contracts of package calendar: Date. · The texts of dates, and their order. · DERIVED: THE SHELF's CONTRACTS AT THIS DUMP, IN PLAIN WORDS (tools/lay-plain.mjs out of 'TryzShelfY.lean', which tools/lay-shelf.mjs wrote): THE SAME DECLARATIONS UNDER THE SAME NAMES: 'import', 'name · Contracts of package calendar: PrintDate. · Contracts of package calendar: PrintDate. · Contracts: the reference's checks of ranges and days; arithmetic of years. · Plain arithmetic: Zeller's congruence; the next date. · Contracts: the reference's months, years and days of dates. · Rows of three integers are compared. · Contracts: the reference's texts of dates. · Contracts: numbers with a width are printed, by package message and by the reference. · Contracts of package message: the words that the fields of a line show. · Contract of lists.Transform at the table of fields, for any function that is a contract at each field. -/
import Derived.Test.YtlcmcknbbmokjaaGreatPm2
import Derived.Deep.MidRow
import Derived.Test.YtlcmcknbbmokjaaGreatPm1
import Derived.Lib.ItoaNum
import Derived.Lib.Repeat
import Derived.Lib.Strings
import Derived.Laws.Concat
import Derived.Sort.Walk0
import Derived.Shelf.Strings.Builder1
import Derived.Shelf.Strings.OnBuilder
import Derived.Shelf.Small.Strs
import Derived.Shelf.Small.Wraps
import Derived.Shelf.Strings.Search1
import Derived.Shelf.Strings.Search2
import Derived.Shelf.Strings.Search3
import Derived.Shelf.Strings.Cut
import Derived.Shelf.Strings.Count
import Derived.Shelf.LaysM
import Derived.Shelf.Strings.Prefix
import Derived.Test.YtlcmcknbbmokjaaGreatProg
import Derived.Deep.RegionHeld3
import Derived.Lib.LaidTab
import Derived.Lib.AppendIntMem
import Derived.Laws.StructEq
import Derived.Laws.IdiomStrings
import Derived.Laws.MakeOwn
namespace Go.Proofs.YtlcmcknbbmokjaaGreat
open Go Go.RowKit
theorem at0_any (b : Nat) (w : World) : Calls Tryz.prog 120 #[.pointer (some ⟨b, 0, none⟩)] w fun e w' => e = .returned (.pointer (some ⟨b, 0, none⟩)) ∧ w' = w := by
  go_enter Tryz.func120, Tryz.ntmps120
  go_wp2_with fail
  go_ret
  exact ⟨rfl, rfl⟩
theorem at1_any (b : Nat) (w : World) : Calls Tryz.prog 122 #[.pointer (some ⟨b, 0, none⟩)] w fun e w' => e = .returned (.pointer (some ⟨b, 2, none⟩)) ∧ w' = w := by
  go_enter Tryz.func122, Tryz.ntmps122
  go_wp2_with fail
  go_ret
  exact ⟨rfl, rfl⟩
theorem at2_any (b : Nat) (w : World) : Calls Tryz.prog 124 #[.pointer (some ⟨b, 0, none⟩)] w fun e w' => e = .returned (.pointer (some ⟨b, 1, none⟩)) ∧ w' = w := by
  go_enter Tryz.func124, Tryz.ntmps124
  go_wp2_with fail
  go_ret
  exact ⟨rfl, rfl⟩
theorem at3_any (b : Nat) (w : World) : Calls Tryz.prog 125 #[.pointer (some ⟨b, 0, none⟩)] w fun e w' => e = .returned (.pointer (some ⟨b, 3, none⟩)) ∧ w' = w := by
  go_enter Tryz.func125, Tryz.ntmps125
  go_wp2_with fail
  go_ret
  exact ⟨rfl, rfl⟩
theorem at4_any (b : Nat) (w : World) : Calls Tryz.prog 127 #[.pointer (some ⟨b, 0, none⟩)] w fun e w' => e = .returned (.pointer (some ⟨b, 5, none⟩)) ∧ w' = w := by
  go_enter Tryz.func127, Tryz.ntmps127
  go_wp2_with fail
  go_ret
  exact ⟨rfl, rfl⟩
theorem at5_any (b : Nat) (w : World) : Calls Tryz.prog 129 #[.pointer (some ⟨b, 0, none⟩)] w fun e w' => e = .returned (.pointer (some ⟨b, 7, none⟩)) ∧ w' = w := by
  go_enter Tryz.func129, Tryz.ntmps129
  go_wp2_with fail
  go_ret
  exact ⟨rfl, rfl⟩
theorem at6_any (b : Nat) (w : World) : Calls Tryz.prog 130 #[.pointer (some ⟨b, 0, none⟩)] w fun e w' => e = .returned (.pointer (some ⟨b, 8, none⟩)) ∧ w' = w := by
  go_enter Tryz.func130, Tryz.ntmps130
  go_wp2_with fail
  go_ret
  exact ⟨rfl, rfl⟩
theorem at7_any (b : Nat) (w : World) : Calls Tryz.prog 132 #[.pointer (some ⟨b, 0, none⟩)] w fun e w' => e = .returned (.pointer (some ⟨b, 9, none⟩)) ∧ w' = w := by
  go_enter Tryz.func132, Tryz.ntmps132
  go_wp2_with fail
  go_ret
  exact ⟨rfl, rfl⟩
theorem at8_any (b : Nat) (w : World) : Calls Tryz.prog 135 #[.pointer (some ⟨b, 0, none⟩)] w fun e w' => e = .returned (.pointer (some ⟨b, 10, none⟩)) ∧ w' = w := by
  go_enter Tryz.func135, Tryz.ntmps135
  go_wp2_with fail
  go_ret
  exact ⟨rfl, rfl⟩
theorem at9_any (b : Nat) (w : World) : Calls Tryz.prog 136 #[.pointer (some ⟨b, 0, none⟩)] w fun e w' => e = .returned (.pointer (some ⟨b, 11, none⟩)) ∧ w' = w := by
  go_enter Tryz.func136, Tryz.ntmps136
  go_wp2_with fail
  go_ret
  exact ⟨rfl, rfl⟩
theorem at10_any (b : Nat) (w : World) : Calls Tryz.prog 137 #[.pointer (some ⟨b, 0, none⟩)] w fun e w' => e = .returned (.pointer (some ⟨b, 12, none⟩)) ∧ w' = w := by
  go_enter Tryz.func137, Tryz.ntmps137
  go_wp2_with fail
  go_ret
  exact ⟨rfl, rfl⟩
theorem at11_any (b : Nat) (w : World) : Calls Tryz.prog 138 #[.pointer (some ⟨b, 0, none⟩)] w fun e w' => e = .returned (.pointer (some ⟨b, 13, none⟩)) ∧ w' = w := by
  go_enter Tryz.func138, Tryz.ntmps138
  go_wp2_with fail
  go_ret
  exact ⟨rfl, rfl⟩
theorem at12_any (b : Nat) (w : World) : Calls Tryz.prog 140 #[.pointer (some ⟨b, 0, none⟩)] w fun e w' => e = .returned (.pointer (some ⟨b, 4, none⟩)) ∧ w' = w := by
  go_enter Tryz.func140, Tryz.ntmps140
  go_wp2_with fail
  go_ret
  exact ⟨rfl, rfl⟩
theorem at13_any (b : Nat) (w : World) : Calls Tryz.prog 141 #[.pointer (some ⟨b, 0, none⟩)] w fun e w' => e = .returned (.pointer (some ⟨b, 6, none⟩)) ∧ w' = w := by
  go_enter Tryz.func141, Tryz.ntmps141
  go_wp2_with fail
  go_ret
  exact ⟨rfl, rfl⟩
/-- The kinds of fields: words that stand as they are, numbers, codes, and names that may be empty. -/
inductive FK where
  | text (A W : FuncId)
  | num (A : FuncId) (k : Nat)
  | code (A S P : FuncId)
  | opt (A : FuncId)
def fnV (A : FuncId) : Value := .func (.func A) #[] #[]
/-- Two values are the functions of a field, whose variables lie from block N on. -/
def FieldW (w : World) (N : Nat) : FK → Value → Value → Prop
  | .text A W, s, r => ∃ b c, N ≤ b ∧ N ≤ c ∧ s = .func (.func 183) #[] #[.pointer (some ⟨b, 0, none⟩)] ∧ r = .func (.func 184) #[] #[.pointer (some ⟨b, 0, none⟩), .pointer (some ⟨c, 0, none⟩)] ∧ w.cell? ⟨b, 0, none⟩ = some (fnV A) ∧ w.cell? ⟨c, 0, none⟩ = some (fnV W)
  | .num A k, s, r => ∃ b c, N ≤ b ∧ N ≤ c ∧ s = .func (.func 186) #[] #[.pointer (some ⟨b, 0, none⟩), .pointer (some ⟨c, 0, none⟩)] ∧ r = .func (.func 187) #[] #[.pointer (some ⟨c, 0, none⟩), .pointer (some ⟨b, 0, none⟩)] ∧ w.cell? ⟨b, 0, none⟩ = some (fnV A) ∧ w.cell? ⟨c, 0, none⟩ = some (.int .i64 k)
  | .code A S P, s, r => ∃ b c d, N ≤ b ∧ N ≤ c ∧ N ≤ d ∧ s = .func (.func 188) #[] #[.pointer (some ⟨c, 0, none⟩), .pointer (some ⟨b, 0, none⟩)] ∧ r = .func (.func 189) #[] #[.pointer (some ⟨d, 0, none⟩), .pointer (some ⟨b, 0, none⟩)] ∧ w.cell? ⟨b, 0, none⟩ = some (fnV A) ∧ w.cell? ⟨c, 0, none⟩ = some (fnV S) ∧ w.cell? ⟨d, 0, none⟩ = some (fnV P)
  | .opt A, s, r => ∃ b, N ≤ b ∧ s = .func (.func 191) #[] #[.pointer (some ⟨b, 0, none⟩)] ∧ r = .func (.func 192) #[] #[.pointer (some ⟨b, 0, none⟩)] ∧ w.cell? ⟨b, 0, none⟩ = some (fnV A)
theorem FieldW.below {w w' : World} {N : Nat} {k : FK} {s r : Value} (h : FieldW w N k s r) (hb : Below w.heap.size w w') : FieldW w' N k s r := by
  cases k with
  | text A W => obtain ⟨b, c, h1, h2, h3, h4, h5, h6⟩ := h; exact ⟨b, c, h1, h2, h3, h4, b_old hb h5, b_old hb h6⟩
  | num A k => obtain ⟨b, c, h1, h2, h3, h4, h5, h6⟩ := h; exact ⟨b, c, h1, h2, h3, h4, b_old hb h5, b_old hb h6⟩
  | code A S P => obtain ⟨b, c, d, h1, h2, h3, h4, h5, h6, h7, h8⟩ := h; exact ⟨b, c, d, h1, h2, h3, h4, h5, b_old hb h6, b_old hb h7, b_old hb h8⟩
  | opt A => obtain ⟨b, h1, h2, h3, h4⟩ := h; exact ⟨b, h1, h2, h3, b_old hb h4⟩
theorem FieldW.down {w : World} {N N' : Nat} {k : FK} {s r : Value} (h : FieldW w N k s r) (hN : N' ≤ N) : FieldW w N' k s r := by
  cases k with
  | text A W => obtain ⟨b, c, h1, h2, h3⟩ := h; exact ⟨b, c, Nat.le_trans hN h1, Nat.le_trans hN h2, h3⟩
  | num A k => obtain ⟨b, c, h1, h2, h3⟩ := h; exact ⟨b, c, Nat.le_trans hN h1, Nat.le_trans hN h2, h3⟩
  | code A S P => obtain ⟨b, c, d, h1, h2, h3, h4⟩ := h; exact ⟨b, c, d, Nat.le_trans hN h1, Nat.le_trans hN h2, Nat.le_trans hN h3, h4⟩
  | opt A => obtain ⟨b, h1, h2⟩ := h; exact ⟨b, Nat.le_trans hN h1, h2⟩
/-- A call that has returned the functions of a field. -/
structure FieldR (e : Ending) (w' : World) (N : Nat) (k : FK) : Prop where
  ex : ∃ s r, e = .returned (.agg #[s, r]) ∧ FieldW w' N k s r
set_option maxRecDepth 100000 in
set_option maxHeartbeats 1000000 in
theorem textField_any (A W : FuncId) (w : World) :
    Calls Tryz.prog 119 #[fnV A, fnV W] w fun e w' => FieldR e w' w.heap.size (.text A W) ∧ Below w.heap.size w w' := by
  unfold fnV
  have hsf := store_func
  have e0 : (w.alloc (.cells #[.func (.func A) #[] #[]] 190)).heap.size = w.heap.size + 1 := by simp
  have y0 := cell_fresh w [.func (.func A) #[] #[]] 190 0 _ rfl
  have e1 : ((w.alloc (.cells #[.func (.func A) #[] #[]] 190)).alloc (.cells #[.func (.func W) #[] #[]] 35)).heap.size = w.heap.size + 1 + 1 := by simp
  have y1 := cell_fresh (w.alloc (.cells #[.func (.func A) #[] #[]] 190)) [.func (.func W) #[] #[]] 35 0 _ rfl
  rw [e0] at y1
  have q0 := cell_fresh ((w.alloc (.cells #[.func (.func A) #[] #[]] 190)).alloc (.cells #[.func (.func W) #[] #[]] 35)) [.func (.func 183) #[] #[.pointer (some ⟨w.heap.size, 0, none⟩)], .func (.func 184) #[] #[.pointer (some ⟨w.heap.size, 0, none⟩), .pointer (some ⟨w.heap.size + 1, 0, none⟩)]] 125 0 _ rfl
  have q1 := cell_fresh ((w.alloc (.cells #[.func (.func A) #[] #[]] 190)).alloc (.cells #[.func (.func W) #[] #[]] 35)) [.func (.func 183) #[] #[.pointer (some ⟨w.heap.size, 0, none⟩)], .func (.func 184) #[] #[.pointer (some ⟨w.heap.size, 0, none⟩), .pointer (some ⟨w.heap.size + 1, 0, none⟩)]] 125 1 _ rfl
  rw [e1] at q0 q1
  have hB0 : Below w.heap.size w (w.alloc (.cells #[.func (.func A) #[] #[]] 190)) := below_alloc _ _
  have hB1 : Below w.heap.size w ((w.alloc (.cells #[.func (.func A) #[] #[]] 190)).alloc (.cells #[.func (.func W) #[] #[]] 35)) := b_then hB0 (below_alloc _ _)
  have hB2 : Below w.heap.size w (((w.alloc (.cells #[.func (.func A) #[] #[]] 190)).alloc (.cells #[.func (.func W) #[] #[]] 35)).alloc (.cells #[.func (.func 183) #[] #[.pointer (some ⟨w.heap.size, 0, none⟩)], .func (.func 184) #[] #[.pointer (some ⟨w.heap.size, 0, none⟩), .pointer (some ⟨w.heap.size + 1, 0, none⟩)]] 125)) := b_then hB1 (below_alloc _ _)
  have z0 : (((w.alloc (.cells #[.func (.func A) #[] #[]] 190)).alloc (.cells #[.func (.func W) #[] #[]] 35)).alloc (.cells #[.func (.func 183) #[] #[.pointer (some ⟨w.heap.size, 0, none⟩)], .func (.func 184) #[] #[.pointer (some ⟨w.heap.size, 0, none⟩), .pointer (some ⟨w.heap.size + 1, 0, none⟩)]] 125)).cell? ⟨w.heap.size, 0, none⟩ = _ := (b_old (below_alloc _ _) (b_old (below_alloc _ _) y0))
  have z1 : (((w.alloc (.cells #[.func (.func A) #[] #[]] 190)).alloc (.cells #[.func (.func W) #[] #[]] 35)).alloc (.cells #[.func (.func 183) #[] #[.pointer (some ⟨w.heap.size, 0, none⟩)], .func (.func 184) #[] #[.pointer (some ⟨w.heap.size, 0, none⟩), .pointer (some ⟨w.heap.size + 1, 0, none⟩)]] 125)).cell? ⟨w.heap.size + 1, 0, none⟩ = _ := (b_old (below_alloc _ _) y1)
  have hR : FieldW (((w.alloc (.cells #[.func (.func A) #[] #[]] 190)).alloc (.cells #[.func (.func W) #[] #[]] 35)).alloc (.cells #[.func (.func 183) #[] #[.pointer (some ⟨w.heap.size, 0, none⟩)], .func (.func 184) #[] #[.pointer (some ⟨w.heap.size, 0, none⟩), .pointer (some ⟨w.heap.size + 1, 0, none⟩)]] 125)) w.heap.size (.text A W) (.func (.func 183) #[] #[.pointer (some ⟨w.heap.size, 0, none⟩)]) (.func (.func 184) #[] #[.pointer (some ⟨w.heap.size, 0, none⟩), .pointer (some ⟨w.heap.size + 1, 0, none⟩)]) := ⟨_, _, Nat.le_refl _, by omega, rfl, rfl, z0, z1⟩
  clear y0 z0 y1 z1
  go_enter Tryz.func119, Tryz.ntmps119
  go_wp2_with fail
  exact bodyPost_ret (v := .agg #[.func (.func 183) #[] #[.pointer (some ⟨w.heap.size, 0, none⟩)], .func (.func 184) #[] #[.pointer (some ⟨w.heap.size, 0, none⟩), .pointer (some ⟨w.heap.size + 1, 0, none⟩)]]) (by simp [results, Tryz.results119, go_sem, q0, q1]) rfl ⟨⟨_, _, rfl, hR⟩, hB2⟩
set_option maxRecDepth 100000 in
set_option maxHeartbeats 1000000 in
theorem numberField_any (A : FuncId) (k : Nat) (w : World) :
    Calls Tryz.prog 128 #[fnV A, .int .i64 k] w fun e w' => FieldR e w' w.heap.size (.num A k) ∧ Below w.heap.size w w' := by
  unfold fnV
  have hsf := store_func
  have e0 : (w.alloc (.cells #[.func (.func A) #[] #[]] 193)).heap.size = w.heap.size + 1 := by simp
  have y0 := cell_fresh w [.func (.func A) #[] #[]] 193 0 _ rfl
  have e1 : ((w.alloc (.cells #[.func (.func A) #[] #[]] 193)).alloc (.cells #[.int .i64 k] 3)).heap.size = w.heap.size + 1 + 1 := by simp
  have y1 := cell_fresh (w.alloc (.cells #[.func (.func A) #[] #[]] 193)) [.int .i64 k] 3 0 _ rfl
  rw [e0] at y1
  have q0 := cell_fresh ((w.alloc (.cells #[.func (.func A) #[] #[]] 193)).alloc (.cells #[.int .i64 k] 3)) [.func (.func 186) #[] #[.pointer (some ⟨w.heap.size, 0, none⟩), .pointer (some ⟨w.heap.size + 1, 0, none⟩)], .func (.func 187) #[] #[.pointer (some ⟨w.heap.size + 1, 0, none⟩), .pointer (some ⟨w.heap.size, 0, none⟩)]] 125 0 _ rfl
  have q1 := cell_fresh ((w.alloc (.cells #[.func (.func A) #[] #[]] 193)).alloc (.cells #[.int .i64 k] 3)) [.func (.func 186) #[] #[.pointer (some ⟨w.heap.size, 0, none⟩), .pointer (some ⟨w.heap.size + 1, 0, none⟩)], .func (.func 187) #[] #[.pointer (some ⟨w.heap.size + 1, 0, none⟩), .pointer (some ⟨w.heap.size, 0, none⟩)]] 125 1 _ rfl
  rw [e1] at q0 q1
  have hB0 : Below w.heap.size w (w.alloc (.cells #[.func (.func A) #[] #[]] 193)) := below_alloc _ _
  have hB1 : Below w.heap.size w ((w.alloc (.cells #[.func (.func A) #[] #[]] 193)).alloc (.cells #[.int .i64 k] 3)) := b_then hB0 (below_alloc _ _)
  have hB2 : Below w.heap.size w (((w.alloc (.cells #[.func (.func A) #[] #[]] 193)).alloc (.cells #[.int .i64 k] 3)).alloc (.cells #[.func (.func 186) #[] #[.pointer (some ⟨w.heap.size, 0, none⟩), .pointer (some ⟨w.heap.size + 1, 0, none⟩)], .func (.func 187) #[] #[.pointer (some ⟨w.heap.size + 1, 0, none⟩), .pointer (some ⟨w.heap.size, 0, none⟩)]] 125)) := b_then hB1 (below_alloc _ _)
  have z0 : (((w.alloc (.cells #[.func (.func A) #[] #[]] 193)).alloc (.cells #[.int .i64 k] 3)).alloc (.cells #[.func (.func 186) #[] #[.pointer (some ⟨w.heap.size, 0, none⟩), .pointer (some ⟨w.heap.size + 1, 0, none⟩)], .func (.func 187) #[] #[.pointer (some ⟨w.heap.size + 1, 0, none⟩), .pointer (some ⟨w.heap.size, 0, none⟩)]] 125)).cell? ⟨w.heap.size, 0, none⟩ = _ := (b_old (below_alloc _ _) (b_old (below_alloc _ _) y0))
  have z1 : (((w.alloc (.cells #[.func (.func A) #[] #[]] 193)).alloc (.cells #[.int .i64 k] 3)).alloc (.cells #[.func (.func 186) #[] #[.pointer (some ⟨w.heap.size, 0, none⟩), .pointer (some ⟨w.heap.size + 1, 0, none⟩)], .func (.func 187) #[] #[.pointer (some ⟨w.heap.size + 1, 0, none⟩), .pointer (some ⟨w.heap.size, 0, none⟩)]] 125)).cell? ⟨w.heap.size + 1, 0, none⟩ = _ := (b_old (below_alloc _ _) y1)
  have hR : FieldW (((w.alloc (.cells #[.func (.func A) #[] #[]] 193)).alloc (.cells #[.int .i64 k] 3)).alloc (.cells #[.func (.func 186) #[] #[.pointer (some ⟨w.heap.size, 0, none⟩), .pointer (some ⟨w.heap.size + 1, 0, none⟩)], .func (.func 187) #[] #[.pointer (some ⟨w.heap.size + 1, 0, none⟩), .pointer (some ⟨w.heap.size, 0, none⟩)]] 125)) w.heap.size (.num A k) (.func (.func 186) #[] #[.pointer (some ⟨w.heap.size, 0, none⟩), .pointer (some ⟨w.heap.size + 1, 0, none⟩)]) (.func (.func 187) #[] #[.pointer (some ⟨w.heap.size + 1, 0, none⟩), .pointer (some ⟨w.heap.size, 0, none⟩)]) := ⟨_, _, Nat.le_refl _, by omega, rfl, rfl, z0, z1⟩
  clear y0 z0 y1 z1
  go_enter Tryz.func128, Tryz.ntmps128
  go_wp2_with fail
  exact bodyPost_ret (v := .agg #[.func (.func 186) #[] #[.pointer (some ⟨w.heap.size, 0, none⟩), .pointer (some ⟨w.heap.size + 1, 0, none⟩)], .func (.func 187) #[] #[.pointer (some ⟨w.heap.size + 1, 0, none⟩), .pointer (some ⟨w.heap.size, 0, none⟩)]]) (by simp [results, Tryz.results128, go_sem, q0, q1]) rfl ⟨⟨_, _, rfl, hR⟩, hB2⟩
set_option maxRecDepth 100000 in
set_option maxHeartbeats 1000000 in
theorem codeField_any (A S P : FuncId) (w : World) :
    Calls Tryz.prog 131 #[fnV A, fnV S, fnV P] w fun e w' => FieldR e w' w.heap.size (.code A S P) ∧ Below w.heap.size w w' := by
  unfold fnV
  have hsf := store_func
  have e0 : (w.alloc (.cells #[.func (.func A) #[] #[]] 193)).heap.size = w.heap.size + 1 := by simp
  have y0 := cell_fresh w [.func (.func A) #[] #[]] 193 0 _ rfl
  have e1 : ((w.alloc (.cells #[.func (.func A) #[] #[]] 193)).alloc (.cells #[.func (.func S) #[] #[]] 105)).heap.size = w.heap.size + 1 + 1 := by simp
  have y1 := cell_fresh (w.alloc (.cells #[.func (.func A) #[] #[]] 193)) [.func (.func S) #[] #[]] 105 0 _ rfl
  rw [e0] at y1
  have e2 : (((w.alloc (.cells #[.func (.func A) #[] #[]] 193)).alloc (.cells #[.func (.func S) #[] #[]] 105)).alloc (.cells #[.func (.func P) #[] #[]] 104)).heap.size = w.heap.size + 1 + 1 + 1 := by simp
  have y2 := cell_fresh ((w.alloc (.cells #[.func (.func A) #[] #[]] 193)).alloc (.cells #[.func (.func S) #[] #[]] 105)) [.func (.func P) #[] #[]] 104 0 _ rfl
  rw [e1] at y2
  have q0 := cell_fresh (((w.alloc (.cells #[.func (.func A) #[] #[]] 193)).alloc (.cells #[.func (.func S) #[] #[]] 105)).alloc (.cells #[.func (.func P) #[] #[]] 104)) [.func (.func 188) #[] #[.pointer (some ⟨w.heap.size + 1, 0, none⟩), .pointer (some ⟨w.heap.size, 0, none⟩)], .func (.func 189) #[] #[.pointer (some ⟨w.heap.size + 1 + 1, 0, none⟩), .pointer (some ⟨w.heap.size, 0, none⟩)]] 125 0 _ rfl
  have q1 := cell_fresh (((w.alloc (.cells #[.func (.func A) #[] #[]] 193)).alloc (.cells #[.func (.func S) #[] #[]] 105)).alloc (.cells #[.func (.func P) #[] #[]] 104)) [.func (.func 188) #[] #[.pointer (some ⟨w.heap.size + 1, 0, none⟩), .pointer (some ⟨w.heap.size, 0, none⟩)], .func (.func 189) #[] #[.pointer (some ⟨w.heap.size + 1 + 1, 0, none⟩), .pointer (some ⟨w.heap.size, 0, none⟩)]] 125 1 _ rfl
  rw [e2] at q0 q1
  have hB0 : Below w.heap.size w (w.alloc (.cells #[.func (.func A) #[] #[]] 193)) := below_alloc _ _
  have hB1 : Below w.heap.size w ((w.alloc (.cells #[.func (.func A) #[] #[]] 193)).alloc (.cells #[.func (.func S) #[] #[]] 105)) := b_then hB0 (below_alloc _ _)
  have hB2 : Below w.heap.size w (((w.alloc (.cells #[.func (.func A) #[] #[]] 193)).alloc (.cells #[.func (.func S) #[] #[]] 105)).alloc (.cells #[.func (.func P) #[] #[]] 104)) := b_then hB1 (below_alloc _ _)
  have hB3 : Below w.heap.size w ((((w.alloc (.cells #[.func (.func A) #[] #[]] 193)).alloc (.cells #[.func (.func S) #[] #[]] 105)).alloc (.cells #[.func (.func P) #[] #[]] 104)).alloc (.cells #[.func (.func 188) #[] #[.pointer (some ⟨w.heap.size + 1, 0, none⟩), .pointer (some ⟨w.heap.size, 0, none⟩)], .func (.func 189) #[] #[.pointer (some ⟨w.heap.size + 1 + 1, 0, none⟩), .pointer (some ⟨w.heap.size, 0, none⟩)]] 125)) := b_then hB2 (below_alloc _ _)
  have z0 : ((((w.alloc (.cells #[.func (.func A) #[] #[]] 193)).alloc (.cells #[.func (.func S) #[] #[]] 105)).alloc (.cells #[.func (.func P) #[] #[]] 104)).alloc (.cells #[.func (.func 188) #[] #[.pointer (some ⟨w.heap.size + 1, 0, none⟩), .pointer (some ⟨w.heap.size, 0, none⟩)], .func (.func 189) #[] #[.pointer (some ⟨w.heap.size + 1 + 1, 0, none⟩), .pointer (some ⟨w.heap.size, 0, none⟩)]] 125)).cell? ⟨w.heap.size, 0, none⟩ = _ := (b_old (below_alloc _ _) (b_old (below_alloc _ _) (b_old (below_alloc _ _) y0)))
  have z1 : ((((w.alloc (.cells #[.func (.func A) #[] #[]] 193)).alloc (.cells #[.func (.func S) #[] #[]] 105)).alloc (.cells #[.func (.func P) #[] #[]] 104)).alloc (.cells #[.func (.func 188) #[] #[.pointer (some ⟨w.heap.size + 1, 0, none⟩), .pointer (some ⟨w.heap.size, 0, none⟩)], .func (.func 189) #[] #[.pointer (some ⟨w.heap.size + 1 + 1, 0, none⟩), .pointer (some ⟨w.heap.size, 0, none⟩)]] 125)).cell? ⟨w.heap.size + 1, 0, none⟩ = _ := (b_old (below_alloc _ _) (b_old (below_alloc _ _) y1))
  have z2 : ((((w.alloc (.cells #[.func (.func A) #[] #[]] 193)).alloc (.cells #[.func (.func S) #[] #[]] 105)).alloc (.cells #[.func (.func P) #[] #[]] 104)).alloc (.cells #[.func (.func 188) #[] #[.pointer (some ⟨w.heap.size + 1, 0, none⟩), .pointer (some ⟨w.heap.size, 0, none⟩)], .func (.func 189) #[] #[.pointer (some ⟨w.heap.size + 1 + 1, 0, none⟩), .pointer (some ⟨w.heap.size, 0, none⟩)]] 125)).cell? ⟨w.heap.size + 1 + 1, 0, none⟩ = _ := (b_old (below_alloc _ _) y2)
  have hR : FieldW ((((w.alloc (.cells #[.func (.func A) #[] #[]] 193)).alloc (.cells #[.func (.func S) #[] #[]] 105)).alloc (.cells #[.func (.func P) #[] #[]] 104)).alloc (.cells #[.func (.func 188) #[] #[.pointer (some ⟨w.heap.size + 1, 0, none⟩), .pointer (some ⟨w.heap.size, 0, none⟩)], .func (.func 189) #[] #[.pointer (some ⟨w.heap.size + 1 + 1, 0, none⟩), .pointer (some ⟨w.heap.size, 0, none⟩)]] 125)) w.heap.size (.code A S P) (.func (.func 188) #[] #[.pointer (some ⟨w.heap.size + 1, 0, none⟩), .pointer (some ⟨w.heap.size, 0, none⟩)]) (.func (.func 189) #[] #[.pointer (some ⟨w.heap.size + 1 + 1, 0, none⟩), .pointer (some ⟨w.heap.size, 0, none⟩)]) := ⟨_, _, _, Nat.le_refl _, by omega, by omega, rfl, rfl, z0, z1, z2⟩
  clear y0 z0 y1 z1 y2 z2
  go_enter Tryz.func131, Tryz.ntmps131
  go_wp2_with fail
  exact bodyPost_ret (v := .agg #[.func (.func 188) #[] #[.pointer (some ⟨w.heap.size + 1, 0, none⟩), .pointer (some ⟨w.heap.size, 0, none⟩)], .func (.func 189) #[] #[.pointer (some ⟨w.heap.size + 1 + 1, 0, none⟩), .pointer (some ⟨w.heap.size, 0, none⟩)]]) (by simp [results, Tryz.results131, go_sem, q0, q1]) rfl ⟨⟨_, _, rfl, hR⟩, hB3⟩
set_option maxRecDepth 100000 in
set_option maxHeartbeats 1000000 in
theorem optionalField_any (A : FuncId) (w : World) :
    Calls Tryz.prog 139 #[fnV A] w fun e w' => FieldR e w' w.heap.size (.opt A) ∧ Below w.heap.size w w' := by
  unfold fnV
  have hsf := store_func
  have e0 : (w.alloc (.cells #[.func (.func A) #[] #[]] 190)).heap.size = w.heap.size + 1 := by simp
  have y0 := cell_fresh w [.func (.func A) #[] #[]] 190 0 _ rfl
  have q0 := cell_fresh (w.alloc (.cells #[.func (.func A) #[] #[]] 190)) [.func (.func 191) #[] #[.pointer (some ⟨w.heap.size, 0, none⟩)], .func (.func 192) #[] #[.pointer (some ⟨w.heap.size, 0, none⟩)]] 125 0 _ rfl
  have q1 := cell_fresh (w.alloc (.cells #[.func (.func A) #[] #[]] 190)) [.func (.func 191) #[] #[.pointer (some ⟨w.heap.size, 0, none⟩)], .func (.func 192) #[] #[.pointer (some ⟨w.heap.size, 0, none⟩)]] 125 1 _ rfl
  rw [e0] at q0 q1
  have hB0 : Below w.heap.size w (w.alloc (.cells #[.func (.func A) #[] #[]] 190)) := below_alloc _ _
  have hB1 : Below w.heap.size w ((w.alloc (.cells #[.func (.func A) #[] #[]] 190)).alloc (.cells #[.func (.func 191) #[] #[.pointer (some ⟨w.heap.size, 0, none⟩)], .func (.func 192) #[] #[.pointer (some ⟨w.heap.size, 0, none⟩)]] 125)) := b_then hB0 (below_alloc _ _)
  have z0 : ((w.alloc (.cells #[.func (.func A) #[] #[]] 190)).alloc (.cells #[.func (.func 191) #[] #[.pointer (some ⟨w.heap.size, 0, none⟩)], .func (.func 192) #[] #[.pointer (some ⟨w.heap.size, 0, none⟩)]] 125)).cell? ⟨w.heap.size, 0, none⟩ = _ := (b_old (below_alloc _ _) y0)
  have hR : FieldW ((w.alloc (.cells #[.func (.func A) #[] #[]] 190)).alloc (.cells #[.func (.func 191) #[] #[.pointer (some ⟨w.heap.size, 0, none⟩)], .func (.func 192) #[] #[.pointer (some ⟨w.heap.size, 0, none⟩)]] 125)) w.heap.size (.opt A) (.func (.func 191) #[] #[.pointer (some ⟨w.heap.size, 0, none⟩)]) (.func (.func 192) #[] #[.pointer (some ⟨w.heap.size, 0, none⟩)]) := ⟨_, Nat.le_refl _, rfl, rfl, z0⟩
  clear y0 z0
  go_enter Tryz.func139, Tryz.ntmps139
  go_wp2_with fail
  exact bodyPost_ret (v := .agg #[.func (.func 191) #[] #[.pointer (some ⟨w.heap.size, 0, none⟩)], .func (.func 192) #[] #[.pointer (some ⟨w.heap.size, 0, none⟩)]]) (by simp [results, Tryz.results139, go_sem, q0, q1]) rfl ⟨⟨_, _, rfl, hR⟩, hB1⟩
end Go.Proofs.YtlcmcknbbmokjaaGreat
namespace Go.Proofs.YtlcmcknbbmokjaaGreat
open Go Go.RowKit
/-- A block of n cells that the call may write. -/
structure RowV (N b n : Nat) (g : Nat → Value) (w W : World) : Prop where
  c : ∀ i, i < n → W.cell? ⟨b, i, none⟩ = some (g i)
  f : ∀ i, i < n → W.frozen? ⟨b, i, none⟩ = false
  lo : N ≤ b
  below : Below N w W
theorem RowV.more {N b n : Nat} {g : Nat → Value} {w W W' : World} (h : RowV N b n g w W) (hN : N ≤ W.heap.size) (hb : Below W.heap.size W W') : RowV N b n g w W' :=
  ⟨fun i hi => b_old hb (h.c i hi), fun i hi => b_frozen hb (h.c i hi) (h.f i hi), h.lo, h.below.trans (hb.mono hN)⟩
theorem RowV.set {N b n : Nat} {g : Nat → Value} {w W : World} (h : RowV N b n g w W) (k : Nat) (hk : k < n) (v : Value) : RowV N b n (fun i => if i = k then v else g i) w (W.setCell ⟨b, k, none⟩ v) :=
  ⟨fun i hi => by
    by_cases e : i = k
    · subst e; rw [if_pos rfl]; exact set_same (h.c i hk)
    · rw [if_neg e]; exact set_other (h.c i hi) (by intro e2; cases e2; exact e rfl), fun i hi => by rw [World.frozen?_setCell]; exact h.f i hi, h.lo, h.below.setCell (p := ⟨b, k, none⟩) h.lo v⟩
theorem RowV.new (w : World) (L : List Value) (T : TypeId) : RowV w.heap.size w.heap.size L.length (fun i => L.getD i undef) w (w.alloc (.cells L.toArray T)) :=
  have hh : (w.alloc (.cells L.toArray T)).heap[w.heap.size]? = some (.cells L.toArray T (0, 0)) := by show (w.heap.push _)[_]? = _; simp
  ⟨fun i hi => cell_fresh w L T i _ (by simp [List.getD_eq_getElem?_getD, List.getElem?_eq_getElem hi]), fun i hi => by
    unfold World.frozen?
    simp only [hh]
    simp, Nat.le_refl _, below_alloc _ _⟩
/-- A world that differs from another one in a block alone. -/
def Off (m : Nat) (w w' : World) : Prop := ∀ (a : Addr) (v : Value), a.block ≠ m → w.cell? a = some v → w'.cell? a = some v
theorem below_cells (w : World) (m o : Nat) (vs : List Value) : Below m w (w.setCells m o vs) := by
  induction vs generalizing o w with
  | nil => exact Below.refl _ _
  | cons v r ih => exact ((Below.refl m w).setCell (p := ⟨m, o, none⟩) (Nat.le_refl _) v).trans (ih _ _)
theorem Off.setCells (m o : Nat) (w : World) (vs : List Value) : Off m w (w.setCells m o vs) := fun a v ha h => by
  rw [World.cell?_setCells_out m vs o w a (fun e _ => absurd e ha)]; exact h
/-- The kinds of the fields of a line. -/
def fkAt : Nat → FK
  | 0 => .text 120 121
  | 1 => .text 122 123
  | 2 => .text 124 123
  | 3 => .text 125 126
  | 4 => .text 127 123
  | 5 => .num 129 5
  | 6 => .num 130 5
  | 7 => .code 132 133 134
  | 8 => .code 135 55 54
  | 9 => .num 136 3
  | 10 => .num 137 1
  | 11 => .num 138 2
  | 12 => .opt 140
  | _ => .opt 141
/-- The functions of the first fields. -/
structure FieldsUp (w : World) (N : Nat) (l : List (Value × Value)) : Prop where
  at_ : ∀ k, k < l.length → FieldW w N (fkAt k) (l.getD k (undef, undef)).1 (l.getD k (undef, undef)).2
theorem FieldsUp.below {w w' : World} {N : Nat} {l : List (Value × Value)} (h : FieldsUp w N l) (hb : Below w.heap.size w w') : FieldsUp w' N l := ⟨fun k hk => (h.at_ k hk).below hb⟩
theorem FieldsUp.snoc {w w' : World} {N : Nat} {l : List (Value × Value)} {s r : Value} (h : FieldsUp w N l) (hb : Below w.heap.size w w') (hf : FieldW w' N (fkAt l.length) s r) : FieldsUp w' N (l ++ [(s, r)]) :=
  ⟨fun k hk => by
    rcases Nat.lt_or_ge k l.length with h1 | h1
    · have := (h.at_ k h1).below hb
      rwa [show (l ++ [(s, r)]).getD k (undef, undef) = l.getD k (undef, undef) by simp [List.getD_eq_getElem?_getD, List.getElem?_append_left h1]]
    · obtain rfl : k = l.length := by simp at hk; omega
      rw [show (l ++ [(s, r)]).getD l.length (undef, undef) = (s, r) by simp [List.getD_eq_getElem?_getD]]
      exact hf⟩
theorem FieldW.off {w w' : World} {N m : Nat} {k : FK} {s r : Value} (h : FieldW w N k s r) (hb : Off m w w') (hm : m < N) : FieldW w' N k s r := by
  cases k with
  | text A W => obtain ⟨b, c, h1, h2, h3, h4, h5, h6⟩ := h; exact ⟨b, c, h1, h2, h3, h4, hb _ _ (by show b ≠ m; omega) h5, hb _ _ (by show c ≠ m; omega) h6⟩
  | num A k => obtain ⟨b, c, h1, h2, h3, h4, h5, h6⟩ := h; exact ⟨b, c, h1, h2, h3, h4, hb _ _ (by show b ≠ m; omega) h5, hb _ _ (by show c ≠ m; omega) h6⟩
  | code A S P => obtain ⟨b, c, d, h1, h2, h3, h4, h5, h6, h7, h8⟩ := h; exact ⟨b, c, d, h1, h2, h3, h4, h5, hb _ _ (by show b ≠ m; omega) h6, hb _ _ (by show c ≠ m; omega) h7, hb _ _ (by show d ≠ m; omega) h8⟩
  | opt A => obtain ⟨b, h1, h2, h3, h4⟩ := h; exact ⟨b, h1, h2, h3, hb _ _ (by show b ≠ m; omega) h4⟩
def pairFlat (l : List (Value × Value)) : List Value := l.flatMap fun x => [x.1, x.2]
/-- A call that has returned the table of the fields. -/
structure FieldsR (e : Ending) (w' : World) (N : Nat) : Prop where
  ex : ∃ l : List (Value × Value), l.length = 14 ∧ e = .returned (.agg (pairFlat l).toArray) ∧ FieldsUp w' N l ∧ ∀ x ∈ l, (∃ f c, x.1 = .func f #[] c) ∧ (∃ f c, x.2 = .func f #[] c)
set_option maxRecDepth 100000 in
set_option maxHeartbeats 4000000 in
theorem fields_any (w : World) : Calls Tryz.prog 60 #[] w fun e w' => FieldsR e w' w.heap.size ∧ Below w.heap.size w w' := by
  have hsf := store_func
  obtain ⟨W, HW, R0, hWs⟩ : ∃ W, Hid (w.alloc (.cells #[.nilFunc, .nilFunc, .nilFunc, .nilFunc, .nilFunc, .nilFunc, .nilFunc, .nilFunc, .nilFunc, .nilFunc, .nilFunc, .nilFunc, .nilFunc, .nilFunc, .nilFunc, .nilFunc, .nilFunc, .nilFunc, .nilFunc, .nilFunc, .nilFunc, .nilFunc, .nilFunc, .nilFunc, .nilFunc, .nilFunc, .nilFunc, .nilFunc] 126) = W) ∧ RowV w.heap.size w.heap.size 28 (fun i => (List.replicate 28 Value.nilFunc).getD i undef) w W ∧ W.heap.size = w.heap.size + 1 := ⟨_, Lib.hid rfl, RowV.new w (List.replicate 28 .nilFunc) _, by simp⟩
  have HR0 := Lib.hid R0
  have HG0 : Hid (FieldsUp W W.heap.size []) := Lib.hid ⟨fun k hk => by simp at hk⟩
  have hup : W.heap.size ≤ W.heap.size := Nat.le_refl _
  have hNW := R0.below.size
  have HS := Lib.hid hWs
  clear hWs
  clear R0
  go_enter Tryz.func60, Tryz.ntmps60
  go_wp2_with fail
  rw [HW.out]
  clear HW
  refine (textField_any 120 121 _).mono ?_
  rintro e w1 ⟨⟨_, _, rfl, b0, c0, p, q, rfl, rfl, y, z⟩, hb⟩
  have HG1 : Hid (FieldsUp w1 W.heap.size [(.func (.func 183) #[] #[.pointer (some ⟨b0, 0, none⟩)], .func (.func 184) #[] #[.pointer (some ⟨b0, 0, none⟩), .pointer (some ⟨c0, 0, none⟩)])]) := Lib.hid (HG0.out.snoc hb ⟨_, _, Nat.le_trans hup p, Nat.le_trans hup q, rfl, rfl, y, z⟩)
  have HR1 := Lib.hid (HR0.out.more (Nat.le_trans hNW hup) hb)
  replace hup := Nat.le_trans hup hb.size
  clear p q y z hb HG0 HR0
  go_wp2_with fail
  refine (textField_any 122 123 _).mono ?_
  rintro e w2 ⟨⟨_, _, rfl, b1, c1, p, q, rfl, rfl, y, z⟩, hb⟩
  have HG2 : Hid (FieldsUp w2 W.heap.size [(.func (.func 183) #[] #[.pointer (some ⟨b0, 0, none⟩)], .func (.func 184) #[] #[.pointer (some ⟨b0, 0, none⟩), .pointer (some ⟨c0, 0, none⟩)]), (.func (.func 183) #[] #[.pointer (some ⟨b1, 0, none⟩)], .func (.func 184) #[] #[.pointer (some ⟨b1, 0, none⟩), .pointer (some ⟨c1, 0, none⟩)])]) := Lib.hid (HG1.out.snoc hb ⟨_, _, Nat.le_trans hup p, Nat.le_trans hup q, rfl, rfl, y, z⟩)
  have HR2 := Lib.hid (HR1.out.more (Nat.le_trans hNW hup) hb)
  replace hup := Nat.le_trans hup hb.size
  clear p q y z hb HG1 HR1
  go_wp2_with fail
  refine (textField_any 124 123 _).mono ?_
  rintro e w3 ⟨⟨_, _, rfl, b2, c2, p, q, rfl, rfl, y, z⟩, hb⟩
  have HG3 : Hid (FieldsUp w3 W.heap.size [(.func (.func 183) #[] #[.pointer (some ⟨b0, 0, none⟩)], .func (.func 184) #[] #[.pointer (some ⟨b0, 0, none⟩), .pointer (some ⟨c0, 0, none⟩)]), (.func (.func 183) #[] #[.pointer (some ⟨b1, 0, none⟩)], .func (.func 184) #[] #[.pointer (some ⟨b1, 0, none⟩), .pointer (some ⟨c1, 0, none⟩)]), (.func (.func 183) #[] #[.pointer (some ⟨b2, 0, none⟩)], .func (.func 184) #[] #[.pointer (some ⟨b2, 0, none⟩), .pointer (some ⟨c2, 0, none⟩)])]) := Lib.hid (HG2.out.snoc hb ⟨_, _, Nat.le_trans hup p, Nat.le_trans hup q, rfl, rfl, y, z⟩)
  have HR3 := Lib.hid (HR2.out.more (Nat.le_trans hNW hup) hb)
  replace hup := Nat.le_trans hup hb.size
  clear p q y z hb HG2 HR2
  go_wp2_with fail
  refine (textField_any 125 126 _).mono ?_
  rintro e w4 ⟨⟨_, _, rfl, b3, c3, p, q, rfl, rfl, y, z⟩, hb⟩
  have HG4 : Hid (FieldsUp w4 W.heap.size [(.func (.func 183) #[] #[.pointer (some ⟨b0, 0, none⟩)], .func (.func 184) #[] #[.pointer (some ⟨b0, 0, none⟩), .pointer (some ⟨c0, 0, none⟩)]), (.func (.func 183) #[] #[.pointer (some ⟨b1, 0, none⟩)], .func (.func 184) #[] #[.pointer (some ⟨b1, 0, none⟩), .pointer (some ⟨c1, 0, none⟩)]), (.func (.func 183) #[] #[.pointer (some ⟨b2, 0, none⟩)], .func (.func 184) #[] #[.pointer (some ⟨b2, 0, none⟩), .pointer (some ⟨c2, 0, none⟩)]), (.func (.func 183) #[] #[.pointer (some ⟨b3, 0, none⟩)], .func (.func 184) #[] #[.pointer (some ⟨b3, 0, none⟩), .pointer (some ⟨c3, 0, none⟩)])]) := Lib.hid (HG3.out.snoc hb ⟨_, _, Nat.le_trans hup p, Nat.le_trans hup q, rfl, rfl, y, z⟩)
  have HR4 := Lib.hid (HR3.out.more (Nat.le_trans hNW hup) hb)
  replace hup := Nat.le_trans hup hb.size
  clear p q y z hb HG3 HR3
  go_wp2_with fail
  refine (textField_any 127 123 _).mono ?_
  rintro e w5 ⟨⟨_, _, rfl, b4, c4, p, q, rfl, rfl, y, z⟩, hb⟩
  have HG5 : Hid (FieldsUp w5 W.heap.size [(.func (.func 183) #[] #[.pointer (some ⟨b0, 0, none⟩)], .func (.func 184) #[] #[.pointer (some ⟨b0, 0, none⟩), .pointer (some ⟨c0, 0, none⟩)]), (.func (.func 183) #[] #[.pointer (some ⟨b1, 0, none⟩)], .func (.func 184) #[] #[.pointer (some ⟨b1, 0, none⟩), .pointer (some ⟨c1, 0, none⟩)]), (.func (.func 183) #[] #[.pointer (some ⟨b2, 0, none⟩)], .func (.func 184) #[] #[.pointer (some ⟨b2, 0, none⟩), .pointer (some ⟨c2, 0, none⟩)]), (.func (.func 183) #[] #[.pointer (some ⟨b3, 0, none⟩)], .func (.func 184) #[] #[.pointer (some ⟨b3, 0, none⟩), .pointer (some ⟨c3, 0, none⟩)]), (.func (.func 183) #[] #[.pointer (some ⟨b4, 0, none⟩)], .func (.func 184) #[] #[.pointer (some ⟨b4, 0, none⟩), .pointer (some ⟨c4, 0, none⟩)])]) := Lib.hid (HG4.out.snoc hb ⟨_, _, Nat.le_trans hup p, Nat.le_trans hup q, rfl, rfl, y, z⟩)
  have HR5 := Lib.hid (HR4.out.more (Nat.le_trans hNW hup) hb)
  replace hup := Nat.le_trans hup hb.size
  clear p q y z hb HG4 HR4
  go_wp2_with fail
  refine (numberField_any 129 5 _).mono ?_
  rintro e w6 ⟨⟨_, _, rfl, b5, c5, p, q, rfl, rfl, y, z⟩, hb⟩
  have HG6 : Hid (FieldsUp w6 W.heap.size [(.func (.func 183) #[] #[.pointer (some ⟨b0, 0, none⟩)], .func (.func 184) #[] #[.pointer (some ⟨b0, 0, none⟩), .pointer (some ⟨c0, 0, none⟩)]), (.func (.func 183) #[] #[.pointer (some ⟨b1, 0, none⟩)], .func (.func 184) #[] #[.pointer (some ⟨b1, 0, none⟩), .pointer (some ⟨c1, 0, none⟩)]), (.func (.func 183) #[] #[.pointer (some ⟨b2, 0, none⟩)], .func (.func 184) #[] #[.pointer (some ⟨b2, 0, none⟩), .pointer (some ⟨c2, 0, none⟩)]), (.func (.func 183) #[] #[.pointer (some ⟨b3, 0, none⟩)], .func (.func 184) #[] #[.pointer (some ⟨b3, 0, none⟩), .pointer (some ⟨c3, 0, none⟩)]), (.func (.func 183) #[] #[.pointer (some ⟨b4, 0, none⟩)], .func (.func 184) #[] #[.pointer (some ⟨b4, 0, none⟩), .pointer (some ⟨c4, 0, none⟩)]), (.func (.func 186) #[] #[.pointer (some ⟨b5, 0, none⟩), .pointer (some ⟨c5, 0, none⟩)], .func (.func 187) #[] #[.pointer (some ⟨c5, 0, none⟩), .pointer (some ⟨b5, 0, none⟩)])]) := Lib.hid (HG5.out.snoc hb ⟨_, _, Nat.le_trans hup p, Nat.le_trans hup q, rfl, rfl, y, z⟩)
  have HR6 := Lib.hid (HR5.out.more (Nat.le_trans hNW hup) hb)
  replace hup := Nat.le_trans hup hb.size
  clear p q y z hb HG5 HR5
  go_wp2_with fail
  refine (numberField_any 130 5 _).mono ?_
  rintro e w7 ⟨⟨_, _, rfl, b6, c6, p, q, rfl, rfl, y, z⟩, hb⟩
  have HG7 : Hid (FieldsUp w7 W.heap.size [(.func (.func 183) #[] #[.pointer (some ⟨b0, 0, none⟩)], .func (.func 184) #[] #[.pointer (some ⟨b0, 0, none⟩), .pointer (some ⟨c0, 0, none⟩)]), (.func (.func 183) #[] #[.pointer (some ⟨b1, 0, none⟩)], .func (.func 184) #[] #[.pointer (some ⟨b1, 0, none⟩), .pointer (some ⟨c1, 0, none⟩)]), (.func (.func 183) #[] #[.pointer (some ⟨b2, 0, none⟩)], .func (.func 184) #[] #[.pointer (some ⟨b2, 0, none⟩), .pointer (some ⟨c2, 0, none⟩)]), (.func (.func 183) #[] #[.pointer (some ⟨b3, 0, none⟩)], .func (.func 184) #[] #[.pointer (some ⟨b3, 0, none⟩), .pointer (some ⟨c3, 0, none⟩)]), (.func (.func 183) #[] #[.pointer (some ⟨b4, 0, none⟩)], .func (.func 184) #[] #[.pointer (some ⟨b4, 0, none⟩), .pointer (some ⟨c4, 0, none⟩)]), (.func (.func 186) #[] #[.pointer (some ⟨b5, 0, none⟩), .pointer (some ⟨c5, 0, none⟩)], .func (.func 187) #[] #[.pointer (some ⟨c5, 0, none⟩), .pointer (some ⟨b5, 0, none⟩)]), (.func (.func 186) #[] #[.pointer (some ⟨b6, 0, none⟩), .pointer (some ⟨c6, 0, none⟩)], .func (.func 187) #[] #[.pointer (some ⟨c6, 0, none⟩), .pointer (some ⟨b6, 0, none⟩)])]) := Lib.hid (HG6.out.snoc hb ⟨_, _, Nat.le_trans hup p, Nat.le_trans hup q, rfl, rfl, y, z⟩)
  have HR7 := Lib.hid (HR6.out.more (Nat.le_trans hNW hup) hb)
  replace hup := Nat.le_trans hup hb.size
  clear p q y z hb HG6 HR6
  go_wp2_with fail
  refine (codeField_any 132 133 134 _).mono ?_
  rintro e w8 ⟨⟨_, _, rfl, b7, c7, d7, p, q, q2, rfl, rfl, y, z, z2⟩, hb⟩
  have HG8 : Hid (FieldsUp w8 W.heap.size [(.func (.func 183) #[] #[.pointer (some ⟨b0, 0, none⟩)], .func (.func 184) #[] #[.pointer (some ⟨b0, 0, none⟩), .pointer (some ⟨c0, 0, none⟩)]), (.func (.func 183) #[] #[.pointer (some ⟨b1, 0, none⟩)], .func (.func 184) #[] #[.pointer (some ⟨b1, 0, none⟩), .pointer (some ⟨c1, 0, none⟩)]), (.func (.func 183) #[] #[.pointer (some ⟨b2, 0, none⟩)], .func (.func 184) #[] #[.pointer (some ⟨b2, 0, none⟩), .pointer (some ⟨c2, 0, none⟩)]), (.func (.func 183) #[] #[.pointer (some ⟨b3, 0, none⟩)], .func (.func 184) #[] #[.pointer (some ⟨b3, 0, none⟩), .pointer (some ⟨c3, 0, none⟩)]), (.func (.func 183) #[] #[.pointer (some ⟨b4, 0, none⟩)], .func (.func 184) #[] #[.pointer (some ⟨b4, 0, none⟩), .pointer (some ⟨c4, 0, none⟩)]), (.func (.func 186) #[] #[.pointer (some ⟨b5, 0, none⟩), .pointer (some ⟨c5, 0, none⟩)], .func (.func 187) #[] #[.pointer (some ⟨c5, 0, none⟩), .pointer (some ⟨b5, 0, none⟩)]), (.func (.func 186) #[] #[.pointer (some ⟨b6, 0, none⟩), .pointer (some ⟨c6, 0, none⟩)], .func (.func 187) #[] #[.pointer (some ⟨c6, 0, none⟩), .pointer (some ⟨b6, 0, none⟩)]), (.func (.func 188) #[] #[.pointer (some ⟨c7, 0, none⟩), .pointer (some ⟨b7, 0, none⟩)], .func (.func 189) #[] #[.pointer (some ⟨d7, 0, none⟩), .pointer (some ⟨b7, 0, none⟩)])]) := Lib.hid (HG7.out.snoc hb ⟨_, _, _, Nat.le_trans hup p, Nat.le_trans hup q, Nat.le_trans hup q2, rfl, rfl, y, z, z2⟩)
  have HR8 := Lib.hid (HR7.out.more (Nat.le_trans hNW hup) hb)
  replace hup := Nat.le_trans hup hb.size
  clear p q q2 y z z2 hb HG7 HR7
  go_wp2_with fail
  refine (codeField_any 135 55 54 _).mono ?_
  rintro e w9 ⟨⟨_, _, rfl, b8, c8, d8, p, q, q2, rfl, rfl, y, z, z2⟩, hb⟩
  have HG9 : Hid (FieldsUp w9 W.heap.size [(.func (.func 183) #[] #[.pointer (some ⟨b0, 0, none⟩)], .func (.func 184) #[] #[.pointer (some ⟨b0, 0, none⟩), .pointer (some ⟨c0, 0, none⟩)]), (.func (.func 183) #[] #[.pointer (some ⟨b1, 0, none⟩)], .func (.func 184) #[] #[.pointer (some ⟨b1, 0, none⟩), .pointer (some ⟨c1, 0, none⟩)]), (.func (.func 183) #[] #[.pointer (some ⟨b2, 0, none⟩)], .func (.func 184) #[] #[.pointer (some ⟨b2, 0, none⟩), .pointer (some ⟨c2, 0, none⟩)]), (.func (.func 183) #[] #[.pointer (some ⟨b3, 0, none⟩)], .func (.func 184) #[] #[.pointer (some ⟨b3, 0, none⟩), .pointer (some ⟨c3, 0, none⟩)]), (.func (.func 183) #[] #[.pointer (some ⟨b4, 0, none⟩)], .func (.func 184) #[] #[.pointer (some ⟨b4, 0, none⟩), .pointer (some ⟨c4, 0, none⟩)]), (.func (.func 186) #[] #[.pointer (some ⟨b5, 0, none⟩), .pointer (some ⟨c5, 0, none⟩)], .func (.func 187) #[] #[.pointer (some ⟨c5, 0, none⟩), .pointer (some ⟨b5, 0, none⟩)]), (.func (.func 186) #[] #[.pointer (some ⟨b6, 0, none⟩), .pointer (some ⟨c6, 0, none⟩)], .func (.func 187) #[] #[.pointer (some ⟨c6, 0, none⟩), .pointer (some ⟨b6, 0, none⟩)]), (.func (.func 188) #[] #[.pointer (some ⟨c7, 0, none⟩), .pointer (some ⟨b7, 0, none⟩)], .func (.func 189) #[] #[.pointer (some ⟨d7, 0, none⟩), .pointer (some ⟨b7, 0, none⟩)]), (.func (.func 188) #[] #[.pointer (some ⟨c8, 0, none⟩), .pointer (some ⟨b8, 0, none⟩)], .func (.func 189) #[] #[.pointer (some ⟨d8, 0, none⟩), .pointer (some ⟨b8, 0, none⟩)])]) := Lib.hid (HG8.out.snoc hb ⟨_, _, _, Nat.le_trans hup p, Nat.le_trans hup q, Nat.le_trans hup q2, rfl, rfl, y, z, z2⟩)
  have HR9 := Lib.hid (HR8.out.more (Nat.le_trans hNW hup) hb)
  replace hup := Nat.le_trans hup hb.size
  clear p q q2 y z z2 hb HG8 HR8
  go_wp2_with fail
  refine (numberField_any 136 3 _).mono ?_
  rintro e w10 ⟨⟨_, _, rfl, b9, c9, p, q, rfl, rfl, y, z⟩, hb⟩
  have HG10 : Hid (FieldsUp w10 W.heap.size [(.func (.func 183) #[] #[.pointer (some ⟨b0, 0, none⟩)], .func (.func 184) #[] #[.pointer (some ⟨b0, 0, none⟩), .pointer (some ⟨c0, 0, none⟩)]), (.func (.func 183) #[] #[.pointer (some ⟨b1, 0, none⟩)], .func (.func 184) #[] #[.pointer (some ⟨b1, 0, none⟩), .pointer (some ⟨c1, 0, none⟩)]), (.func (.func 183) #[] #[.pointer (some ⟨b2, 0, none⟩)], .func (.func 184) #[] #[.pointer (some ⟨b2, 0, none⟩), .pointer (some ⟨c2, 0, none⟩)]), (.func (.func 183) #[] #[.pointer (some ⟨b3, 0, none⟩)], .func (.func 184) #[] #[.pointer (some ⟨b3, 0, none⟩), .pointer (some ⟨c3, 0, none⟩)]), (.func (.func 183) #[] #[.pointer (some ⟨b4, 0, none⟩)], .func (.func 184) #[] #[.pointer (some ⟨b4, 0, none⟩), .pointer (some ⟨c4, 0, none⟩)]), (.func (.func 186) #[] #[.pointer (some ⟨b5, 0, none⟩), .pointer (some ⟨c5, 0, none⟩)], .func (.func 187) #[] #[.pointer (some ⟨c5, 0, none⟩), .pointer (some ⟨b5, 0, none⟩)]), (.func (.func 186) #[] #[.pointer (some ⟨b6, 0, none⟩), .pointer (some ⟨c6, 0, none⟩)], .func (.func 187) #[] #[.pointer (some ⟨c6, 0, none⟩), .pointer (some ⟨b6, 0, none⟩)]), (.func (.func 188) #[] #[.pointer (some ⟨c7, 0, none⟩), .pointer (some ⟨b7, 0, none⟩)], .func (.func 189) #[] #[.pointer (some ⟨d7, 0, none⟩), .pointer (some ⟨b7, 0, none⟩)]), (.func (.func 188) #[] #[.pointer (some ⟨c8, 0, none⟩), .pointer (some ⟨b8, 0, none⟩)], .func (.func 189) #[] #[.pointer (some ⟨d8, 0, none⟩), .pointer (some ⟨b8, 0, none⟩)]), (.func (.func 186) #[] #[.pointer (some ⟨b9, 0, none⟩), .pointer (some ⟨c9, 0, none⟩)], .func (.func 187) #[] #[.pointer (some ⟨c9, 0, none⟩), .pointer (some ⟨b9, 0, none⟩)])]) := Lib.hid (HG9.out.snoc hb ⟨_, _, Nat.le_trans hup p, Nat.le_trans hup q, rfl, rfl, y, z⟩)
  have HR10 := Lib.hid (HR9.out.more (Nat.le_trans hNW hup) hb)
  replace hup := Nat.le_trans hup hb.size
  clear p q y z hb HG9 HR9
  go_wp2_with fail
  refine (numberField_any 137 1 _).mono ?_
  rintro e w11 ⟨⟨_, _, rfl, b10, c10, p, q, rfl, rfl, y, z⟩, hb⟩
  have HG11 : Hid (FieldsUp w11 W.heap.size [(.func (.func 183) #[] #[.pointer (some ⟨b0, 0, none⟩)], .func (.func 184) #[] #[.pointer (some ⟨b0, 0, none⟩), .pointer (some ⟨c0, 0, none⟩)]), (.func (.func 183) #[] #[.pointer (some ⟨b1, 0, none⟩)], .func (.func 184) #[] #[.pointer (some ⟨b1, 0, none⟩), .pointer (some ⟨c1, 0, none⟩)]), (.func (.func 183) #[] #[.pointer (some ⟨b2, 0, none⟩)], .func (.func 184) #[] #[.pointer (some ⟨b2, 0, none⟩), .pointer (some ⟨c2, 0, none⟩)]), (.func (.func 183) #[] #[.pointer (some ⟨b3, 0, none⟩)], .func (.func 184) #[] #[.pointer (some ⟨b3, 0, none⟩), .pointer (some ⟨c3, 0, none⟩)]), (.func (.func 183) #[] #[.pointer (some ⟨b4, 0, none⟩)], .func (.func 184) #[] #[.pointer (some ⟨b4, 0, none⟩), .pointer (some ⟨c4, 0, none⟩)]), (.func (.func 186) #[] #[.pointer (some ⟨b5, 0, none⟩), .pointer (some ⟨c5, 0, none⟩)], .func (.func 187) #[] #[.pointer (some ⟨c5, 0, none⟩), .pointer (some ⟨b5, 0, none⟩)]), (.func (.func 186) #[] #[.pointer (some ⟨b6, 0, none⟩), .pointer (some ⟨c6, 0, none⟩)], .func (.func 187) #[] #[.pointer (some ⟨c6, 0, none⟩), .pointer (some ⟨b6, 0, none⟩)]), (.func (.func 188) #[] #[.pointer (some ⟨c7, 0, none⟩), .pointer (some ⟨b7, 0, none⟩)], .func (.func 189) #[] #[.pointer (some ⟨d7, 0, none⟩), .pointer (some ⟨b7, 0, none⟩)]), (.func (.func 188) #[] #[.pointer (some ⟨c8, 0, none⟩), .pointer (some ⟨b8, 0, none⟩)], .func (.func 189) #[] #[.pointer (some ⟨d8, 0, none⟩), .pointer (some ⟨b8, 0, none⟩)]), (.func (.func 186) #[] #[.pointer (some ⟨b9, 0, none⟩), .pointer (some ⟨c9, 0, none⟩)], .func (.func 187) #[] #[.pointer (some ⟨c9, 0, none⟩), .pointer (some ⟨b9, 0, none⟩)]), (.func (.func 186) #[] #[.pointer (some ⟨b10, 0, none⟩), .pointer (some ⟨c10, 0, none⟩)], .func (.func 187) #[] #[.pointer (some ⟨c10, 0, none⟩), .pointer (some ⟨b10, 0, none⟩)])]) := Lib.hid (HG10.out.snoc hb ⟨_, _, Nat.le_trans hup p, Nat.le_trans hup q, rfl, rfl, y, z⟩)
  have HR11 := Lib.hid (HR10.out.more (Nat.le_trans hNW hup) hb)
  replace hup := Nat.le_trans hup hb.size
  clear p q y z hb HG10 HR10
  go_wp2_with fail
  refine (numberField_any 138 2 _).mono ?_
  rintro e w12 ⟨⟨_, _, rfl, b11, c11, p, q, rfl, rfl, y, z⟩, hb⟩
  have HG12 : Hid (FieldsUp w12 W.heap.size [(.func (.func 183) #[] #[.pointer (some ⟨b0, 0, none⟩)], .func (.func 184) #[] #[.pointer (some ⟨b0, 0, none⟩), .pointer (some ⟨c0, 0, none⟩)]), (.func (.func 183) #[] #[.pointer (some ⟨b1, 0, none⟩)], .func (.func 184) #[] #[.pointer (some ⟨b1, 0, none⟩), .pointer (some ⟨c1, 0, none⟩)]), (.func (.func 183) #[] #[.pointer (some ⟨b2, 0, none⟩)], .func (.func 184) #[] #[.pointer (some ⟨b2, 0, none⟩), .pointer (some ⟨c2, 0, none⟩)]), (.func (.func 183) #[] #[.pointer (some ⟨b3, 0, none⟩)], .func (.func 184) #[] #[.pointer (some ⟨b3, 0, none⟩), .pointer (some ⟨c3, 0, none⟩)]), (.func (.func 183) #[] #[.pointer (some ⟨b4, 0, none⟩)], .func (.func 184) #[] #[.pointer (some ⟨b4, 0, none⟩), .pointer (some ⟨c4, 0, none⟩)]), (.func (.func 186) #[] #[.pointer (some ⟨b5, 0, none⟩), .pointer (some ⟨c5, 0, none⟩)], .func (.func 187) #[] #[.pointer (some ⟨c5, 0, none⟩), .pointer (some ⟨b5, 0, none⟩)]), (.func (.func 186) #[] #[.pointer (some ⟨b6, 0, none⟩), .pointer (some ⟨c6, 0, none⟩)], .func (.func 187) #[] #[.pointer (some ⟨c6, 0, none⟩), .pointer (some ⟨b6, 0, none⟩)]), (.func (.func 188) #[] #[.pointer (some ⟨c7, 0, none⟩), .pointer (some ⟨b7, 0, none⟩)], .func (.func 189) #[] #[.pointer (some ⟨d7, 0, none⟩), .pointer (some ⟨b7, 0, none⟩)]), (.func (.func 188) #[] #[.pointer (some ⟨c8, 0, none⟩), .pointer (some ⟨b8, 0, none⟩)], .func (.func 189) #[] #[.pointer (some ⟨d8, 0, none⟩), .pointer (some ⟨b8, 0, none⟩)]), (.func (.func 186) #[] #[.pointer (some ⟨b9, 0, none⟩), .pointer (some ⟨c9, 0, none⟩)], .func (.func 187) #[] #[.pointer (some ⟨c9, 0, none⟩), .pointer (some ⟨b9, 0, none⟩)]), (.func (.func 186) #[] #[.pointer (some ⟨b10, 0, none⟩), .pointer (some ⟨c10, 0, none⟩)], .func (.func 187) #[] #[.pointer (some ⟨c10, 0, none⟩), .pointer (some ⟨b10, 0, none⟩)]), (.func (.func 186) #[] #[.pointer (some ⟨b11, 0, none⟩), .pointer (some ⟨c11, 0, none⟩)], .func (.func 187) #[] #[.pointer (some ⟨c11, 0, none⟩), .pointer (some ⟨b11, 0, none⟩)])]) := Lib.hid (HG11.out.snoc hb ⟨_, _, Nat.le_trans hup p, Nat.le_trans hup q, rfl, rfl, y, z⟩)
  have HR12 := Lib.hid (HR11.out.more (Nat.le_trans hNW hup) hb)
  replace hup := Nat.le_trans hup hb.size
  clear p q y z hb HG11 HR11
  go_wp2_with fail
  refine (optionalField_any 140 _).mono ?_
  rintro e w13 ⟨⟨_, _, rfl, b12, p, rfl, rfl, y⟩, hb⟩
  have HG13 : Hid (FieldsUp w13 W.heap.size [(.func (.func 183) #[] #[.pointer (some ⟨b0, 0, none⟩)], .func (.func 184) #[] #[.pointer (some ⟨b0, 0, none⟩), .pointer (some ⟨c0, 0, none⟩)]), (.func (.func 183) #[] #[.pointer (some ⟨b1, 0, none⟩)], .func (.func 184) #[] #[.pointer (some ⟨b1, 0, none⟩), .pointer (some ⟨c1, 0, none⟩)]), (.func (.func 183) #[] #[.pointer (some ⟨b2, 0, none⟩)], .func (.func 184) #[] #[.pointer (some ⟨b2, 0, none⟩), .pointer (some ⟨c2, 0, none⟩)]), (.func (.func 183) #[] #[.pointer (some ⟨b3, 0, none⟩)], .func (.func 184) #[] #[.pointer (some ⟨b3, 0, none⟩), .pointer (some ⟨c3, 0, none⟩)]), (.func (.func 183) #[] #[.pointer (some ⟨b4, 0, none⟩)], .func (.func 184) #[] #[.pointer (some ⟨b4, 0, none⟩), .pointer (some ⟨c4, 0, none⟩)]), (.func (.func 186) #[] #[.pointer (some ⟨b5, 0, none⟩), .pointer (some ⟨c5, 0, none⟩)], .func (.func 187) #[] #[.pointer (some ⟨c5, 0, none⟩), .pointer (some ⟨b5, 0, none⟩)]), (.func (.func 186) #[] #[.pointer (some ⟨b6, 0, none⟩), .pointer (some ⟨c6, 0, none⟩)], .func (.func 187) #[] #[.pointer (some ⟨c6, 0, none⟩), .pointer (some ⟨b6, 0, none⟩)]), (.func (.func 188) #[] #[.pointer (some ⟨c7, 0, none⟩), .pointer (some ⟨b7, 0, none⟩)], .func (.func 189) #[] #[.pointer (some ⟨d7, 0, none⟩), .pointer (some ⟨b7, 0, none⟩)]), (.func (.func 188) #[] #[.pointer (some ⟨c8, 0, none⟩), .pointer (some ⟨b8, 0, none⟩)], .func (.func 189) #[] #[.pointer (some ⟨d8, 0, none⟩), .pointer (some ⟨b8, 0, none⟩)]), (.func (.func 186) #[] #[.pointer (some ⟨b9, 0, none⟩), .pointer (some ⟨c9, 0, none⟩)], .func (.func 187) #[] #[.pointer (some ⟨c9, 0, none⟩), .pointer (some ⟨b9, 0, none⟩)]), (.func (.func 186) #[] #[.pointer (some ⟨b10, 0, none⟩), .pointer (some ⟨c10, 0, none⟩)], .func (.func 187) #[] #[.pointer (some ⟨c10, 0, none⟩), .pointer (some ⟨b10, 0, none⟩)]), (.func (.func 186) #[] #[.pointer (some ⟨b11, 0, none⟩), .pointer (some ⟨c11, 0, none⟩)], .func (.func 187) #[] #[.pointer (some ⟨c11, 0, none⟩), .pointer (some ⟨b11, 0, none⟩)]), (.func (.func 191) #[] #[.pointer (some ⟨b12, 0, none⟩)], .func (.func 192) #[] #[.pointer (some ⟨b12, 0, none⟩)])]) := Lib.hid (HG12.out.snoc hb ⟨_, Nat.le_trans hup p, rfl, rfl, y⟩)
  have HR13 := Lib.hid (HR12.out.more (Nat.le_trans hNW hup) hb)
  replace hup := Nat.le_trans hup hb.size
  clear p y hb HG12 HR12
  go_wp2_with fail
  refine (optionalField_any 141 _).mono ?_
  rintro e w14 ⟨⟨_, _, rfl, b13, p, rfl, rfl, y⟩, hb⟩
  have HG14 : Hid (FieldsUp w14 W.heap.size [(.func (.func 183) #[] #[.pointer (some ⟨b0, 0, none⟩)], .func (.func 184) #[] #[.pointer (some ⟨b0, 0, none⟩), .pointer (some ⟨c0, 0, none⟩)]), (.func (.func 183) #[] #[.pointer (some ⟨b1, 0, none⟩)], .func (.func 184) #[] #[.pointer (some ⟨b1, 0, none⟩), .pointer (some ⟨c1, 0, none⟩)]), (.func (.func 183) #[] #[.pointer (some ⟨b2, 0, none⟩)], .func (.func 184) #[] #[.pointer (some ⟨b2, 0, none⟩), .pointer (some ⟨c2, 0, none⟩)]), (.func (.func 183) #[] #[.pointer (some ⟨b3, 0, none⟩)], .func (.func 184) #[] #[.pointer (some ⟨b3, 0, none⟩), .pointer (some ⟨c3, 0, none⟩)]), (.func (.func 183) #[] #[.pointer (some ⟨b4, 0, none⟩)], .func (.func 184) #[] #[.pointer (some ⟨b4, 0, none⟩), .pointer (some ⟨c4, 0, none⟩)]), (.func (.func 186) #[] #[.pointer (some ⟨b5, 0, none⟩), .pointer (some ⟨c5, 0, none⟩)], .func (.func 187) #[] #[.pointer (some ⟨c5, 0, none⟩), .pointer (some ⟨b5, 0, none⟩)]), (.func (.func 186) #[] #[.pointer (some ⟨b6, 0, none⟩), .pointer (some ⟨c6, 0, none⟩)], .func (.func 187) #[] #[.pointer (some ⟨c6, 0, none⟩), .pointer (some ⟨b6, 0, none⟩)]), (.func (.func 188) #[] #[.pointer (some ⟨c7, 0, none⟩), .pointer (some ⟨b7, 0, none⟩)], .func (.func 189) #[] #[.pointer (some ⟨d7, 0, none⟩), .pointer (some ⟨b7, 0, none⟩)]), (.func (.func 188) #[] #[.pointer (some ⟨c8, 0, none⟩), .pointer (some ⟨b8, 0, none⟩)], .func (.func 189) #[] #[.pointer (some ⟨d8, 0, none⟩), .pointer (some ⟨b8, 0, none⟩)]), (.func (.func 186) #[] #[.pointer (some ⟨b9, 0, none⟩), .pointer (some ⟨c9, 0, none⟩)], .func (.func 187) #[] #[.pointer (some ⟨c9, 0, none⟩), .pointer (some ⟨b9, 0, none⟩)]), (.func (.func 186) #[] #[.pointer (some ⟨b10, 0, none⟩), .pointer (some ⟨c10, 0, none⟩)], .func (.func 187) #[] #[.pointer (some ⟨c10, 0, none⟩), .pointer (some ⟨b10, 0, none⟩)]), (.func (.func 186) #[] #[.pointer (some ⟨b11, 0, none⟩), .pointer (some ⟨c11, 0, none⟩)], .func (.func 187) #[] #[.pointer (some ⟨c11, 0, none⟩), .pointer (some ⟨b11, 0, none⟩)]), (.func (.func 191) #[] #[.pointer (some ⟨b12, 0, none⟩)], .func (.func 192) #[] #[.pointer (some ⟨b12, 0, none⟩)]), (.func (.func 191) #[] #[.pointer (some ⟨b13, 0, none⟩)], .func (.func 192) #[] #[.pointer (some ⟨b13, 0, none⟩)])]) := Lib.hid (HG13.out.snoc hb ⟨_, Nat.le_trans hup p, rfl, rfl, y⟩)
  have HR14 := Lib.hid (HR13.out.more (Nat.le_trans hNW hup) hb)
  replace hup := Nat.le_trans hup hb.size
  clear p y hb HG13 HR13
  have hth : w14.there w.heap.size 0 28 := fun j hj => ⟨by rw [Nat.zero_add, HR14.out.c j hj]; rfl, by rw [Nat.zero_add]; exact HR14.out.f j hj⟩
  have HBS : Hid (Below w.heap.size w w14) := Lib.hid HR14.out.below
  have HO1 : Hid ((#[.func (.func 183) #[] #[.pointer (some ⟨b0, 0, none⟩)], .func (.func 184) #[] #[.pointer (some ⟨b0, 0, none⟩), .pointer (some ⟨c0, 0, none⟩)], .func (.func 183) #[] #[.pointer (some ⟨b1, 0, none⟩)], .func (.func 184) #[] #[.pointer (some ⟨b1, 0, none⟩), .pointer (some ⟨c1, 0, none⟩)], .func (.func 183) #[] #[.pointer (some ⟨b2, 0, none⟩)], .func (.func 184) #[] #[.pointer (some ⟨b2, 0, none⟩), .pointer (some ⟨c2, 0, none⟩)], .func (.func 183) #[] #[.pointer (some ⟨b3, 0, none⟩)], .func (.func 184) #[] #[.pointer (some ⟨b3, 0, none⟩), .pointer (some ⟨c3, 0, none⟩)], .func (.func 183) #[] #[.pointer (some ⟨b4, 0, none⟩)], .func (.func 184) #[] #[.pointer (some ⟨b4, 0, none⟩), .pointer (some ⟨c4, 0, none⟩)], .func (.func 186) #[] #[.pointer (some ⟨b5, 0, none⟩), .pointer (some ⟨c5, 0, none⟩)], .func (.func 187) #[] #[.pointer (some ⟨c5, 0, none⟩), .pointer (some ⟨b5, 0, none⟩)], .func (.func 186) #[] #[.pointer (some ⟨b6, 0, none⟩), .pointer (some ⟨c6, 0, none⟩)], .func (.func 187) #[] #[.pointer (some ⟨c6, 0, none⟩), .pointer (some ⟨b6, 0, none⟩)], .func (.func 188) #[] #[.pointer (some ⟨c7, 0, none⟩), .pointer (some ⟨b7, 0, none⟩)], .func (.func 189) #[] #[.pointer (some ⟨d7, 0, none⟩), .pointer (some ⟨b7, 0, none⟩)], .func (.func 188) #[] #[.pointer (some ⟨c8, 0, none⟩), .pointer (some ⟨b8, 0, none⟩)], .func (.func 189) #[] #[.pointer (some ⟨d8, 0, none⟩), .pointer (some ⟨b8, 0, none⟩)], .func (.func 186) #[] #[.pointer (some ⟨b9, 0, none⟩), .pointer (some ⟨c9, 0, none⟩)], .func (.func 187) #[] #[.pointer (some ⟨c9, 0, none⟩), .pointer (some ⟨b9, 0, none⟩)], .func (.func 186) #[] #[.pointer (some ⟨b10, 0, none⟩), .pointer (some ⟨c10, 0, none⟩)], .func (.func 187) #[] #[.pointer (some ⟨c10, 0, none⟩), .pointer (some ⟨b10, 0, none⟩)], .func (.func 186) #[] #[.pointer (some ⟨b11, 0, none⟩), .pointer (some ⟨c11, 0, none⟩)], .func (.func 187) #[] #[.pointer (some ⟨c11, 0, none⟩), .pointer (some ⟨b11, 0, none⟩)], .func (.func 191) #[] #[.pointer (some ⟨b12, 0, none⟩)], .func (.func 192) #[] #[.pointer (some ⟨b12, 0, none⟩)], .func (.func 191) #[] #[.pointer (some ⟨b13, 0, none⟩)], .func (.func 192) #[] #[.pointer (some ⟨b13, 0, none⟩)]] : Array Value).all (·.oneCell') = true) := Lib.hid (by simp [Value.oneCell'])
  have HTH := Lib.hid hth
  clear hth
  go_wp2_with (refine wpList_store_mid rfl 126 _ _ rfl w.heap.size 0 #[.func (.func 183) #[] #[.pointer (some ⟨b0, 0, none⟩)], .func (.func 184) #[] #[.pointer (some ⟨b0, 0, none⟩), .pointer (some ⟨c0, 0, none⟩)], .func (.func 183) #[] #[.pointer (some ⟨b1, 0, none⟩)], .func (.func 184) #[] #[.pointer (some ⟨b1, 0, none⟩), .pointer (some ⟨c1, 0, none⟩)], .func (.func 183) #[] #[.pointer (some ⟨b2, 0, none⟩)], .func (.func 184) #[] #[.pointer (some ⟨b2, 0, none⟩), .pointer (some ⟨c2, 0, none⟩)], .func (.func 183) #[] #[.pointer (some ⟨b3, 0, none⟩)], .func (.func 184) #[] #[.pointer (some ⟨b3, 0, none⟩), .pointer (some ⟨c3, 0, none⟩)], .func (.func 183) #[] #[.pointer (some ⟨b4, 0, none⟩)], .func (.func 184) #[] #[.pointer (some ⟨b4, 0, none⟩), .pointer (some ⟨c4, 0, none⟩)], .func (.func 186) #[] #[.pointer (some ⟨b5, 0, none⟩), .pointer (some ⟨c5, 0, none⟩)], .func (.func 187) #[] #[.pointer (some ⟨c5, 0, none⟩), .pointer (some ⟨b5, 0, none⟩)], .func (.func 186) #[] #[.pointer (some ⟨b6, 0, none⟩), .pointer (some ⟨c6, 0, none⟩)], .func (.func 187) #[] #[.pointer (some ⟨c6, 0, none⟩), .pointer (some ⟨b6, 0, none⟩)], .func (.func 188) #[] #[.pointer (some ⟨c7, 0, none⟩), .pointer (some ⟨b7, 0, none⟩)], .func (.func 189) #[] #[.pointer (some ⟨d7, 0, none⟩), .pointer (some ⟨b7, 0, none⟩)], .func (.func 188) #[] #[.pointer (some ⟨c8, 0, none⟩), .pointer (some ⟨b8, 0, none⟩)], .func (.func 189) #[] #[.pointer (some ⟨d8, 0, none⟩), .pointer (some ⟨b8, 0, none⟩)], .func (.func 186) #[] #[.pointer (some ⟨b9, 0, none⟩), .pointer (some ⟨c9, 0, none⟩)], .func (.func 187) #[] #[.pointer (some ⟨c9, 0, none⟩), .pointer (some ⟨b9, 0, none⟩)], .func (.func 186) #[] #[.pointer (some ⟨b10, 0, none⟩), .pointer (some ⟨c10, 0, none⟩)], .func (.func 187) #[] #[.pointer (some ⟨c10, 0, none⟩), .pointer (some ⟨b10, 0, none⟩)], .func (.func 186) #[] #[.pointer (some ⟨b11, 0, none⟩), .pointer (some ⟨c11, 0, none⟩)], .func (.func 187) #[] #[.pointer (some ⟨c11, 0, none⟩), .pointer (some ⟨b11, 0, none⟩)], .func (.func 191) #[] #[.pointer (some ⟨b12, 0, none⟩)], .func (.func 192) #[] #[.pointer (some ⟨b12, 0, none⟩)], .func (.func 191) #[] #[.pointer (some ⟨b13, 0, none⟩)], .func (.func 192) #[] #[.pointer (some ⟨b13, 0, none⟩)]] rfl rfl HTH.out (by kernel_rfl) HO1.out ?_)
  obtain ⟨WF, HWF, HLD, HGF, HBF⟩ : ∃ WF, Hid (w14.setCells w.heap.size 0 [.func (.func 183) #[] #[.pointer (some ⟨b0, 0, none⟩)], .func (.func 184) #[] #[.pointer (some ⟨b0, 0, none⟩), .pointer (some ⟨c0, 0, none⟩)], .func (.func 183) #[] #[.pointer (some ⟨b1, 0, none⟩)], .func (.func 184) #[] #[.pointer (some ⟨b1, 0, none⟩), .pointer (some ⟨c1, 0, none⟩)], .func (.func 183) #[] #[.pointer (some ⟨b2, 0, none⟩)], .func (.func 184) #[] #[.pointer (some ⟨b2, 0, none⟩), .pointer (some ⟨c2, 0, none⟩)], .func (.func 183) #[] #[.pointer (some ⟨b3, 0, none⟩)], .func (.func 184) #[] #[.pointer (some ⟨b3, 0, none⟩), .pointer (some ⟨c3, 0, none⟩)], .func (.func 183) #[] #[.pointer (some ⟨b4, 0, none⟩)], .func (.func 184) #[] #[.pointer (some ⟨b4, 0, none⟩), .pointer (some ⟨c4, 0, none⟩)], .func (.func 186) #[] #[.pointer (some ⟨b5, 0, none⟩), .pointer (some ⟨c5, 0, none⟩)], .func (.func 187) #[] #[.pointer (some ⟨c5, 0, none⟩), .pointer (some ⟨b5, 0, none⟩)], .func (.func 186) #[] #[.pointer (some ⟨b6, 0, none⟩), .pointer (some ⟨c6, 0, none⟩)], .func (.func 187) #[] #[.pointer (some ⟨c6, 0, none⟩), .pointer (some ⟨b6, 0, none⟩)], .func (.func 188) #[] #[.pointer (some ⟨c7, 0, none⟩), .pointer (some ⟨b7, 0, none⟩)], .func (.func 189) #[] #[.pointer (some ⟨d7, 0, none⟩), .pointer (some ⟨b7, 0, none⟩)], .func (.func 188) #[] #[.pointer (some ⟨c8, 0, none⟩), .pointer (some ⟨b8, 0, none⟩)], .func (.func 189) #[] #[.pointer (some ⟨d8, 0, none⟩), .pointer (some ⟨b8, 0, none⟩)], .func (.func 186) #[] #[.pointer (some ⟨b9, 0, none⟩), .pointer (some ⟨c9, 0, none⟩)], .func (.func 187) #[] #[.pointer (some ⟨c9, 0, none⟩), .pointer (some ⟨b9, 0, none⟩)], .func (.func 186) #[] #[.pointer (some ⟨b10, 0, none⟩), .pointer (some ⟨c10, 0, none⟩)], .func (.func 187) #[] #[.pointer (some ⟨c10, 0, none⟩), .pointer (some ⟨b10, 0, none⟩)], .func (.func 186) #[] #[.pointer (some ⟨b11, 0, none⟩), .pointer (some ⟨c11, 0, none⟩)], .func (.func 187) #[] #[.pointer (some ⟨c11, 0, none⟩), .pointer (some ⟨b11, 0, none⟩)], .func (.func 191) #[] #[.pointer (some ⟨b12, 0, none⟩)], .func (.func 192) #[] #[.pointer (some ⟨b12, 0, none⟩)], .func (.func 191) #[] #[.pointer (some ⟨b13, 0, none⟩)], .func (.func 192) #[] #[.pointer (some ⟨b13, 0, none⟩)]] = WF) ∧
      Hid ((loadVar 126 ⟨w.heap.size, 0, none⟩).run Tryz.prog WF = .ok (.agg #[.func (.func 183) #[] #[.pointer (some ⟨b0, 0, none⟩)], .func (.func 184) #[] #[.pointer (some ⟨b0, 0, none⟩), .pointer (some ⟨c0, 0, none⟩)], .func (.func 183) #[] #[.pointer (some ⟨b1, 0, none⟩)], .func (.func 184) #[] #[.pointer (some ⟨b1, 0, none⟩), .pointer (some ⟨c1, 0, none⟩)], .func (.func 183) #[] #[.pointer (some ⟨b2, 0, none⟩)], .func (.func 184) #[] #[.pointer (some ⟨b2, 0, none⟩), .pointer (some ⟨c2, 0, none⟩)], .func (.func 183) #[] #[.pointer (some ⟨b3, 0, none⟩)], .func (.func 184) #[] #[.pointer (some ⟨b3, 0, none⟩), .pointer (some ⟨c3, 0, none⟩)], .func (.func 183) #[] #[.pointer (some ⟨b4, 0, none⟩)], .func (.func 184) #[] #[.pointer (some ⟨b4, 0, none⟩), .pointer (some ⟨c4, 0, none⟩)], .func (.func 186) #[] #[.pointer (some ⟨b5, 0, none⟩), .pointer (some ⟨c5, 0, none⟩)], .func (.func 187) #[] #[.pointer (some ⟨c5, 0, none⟩), .pointer (some ⟨b5, 0, none⟩)], .func (.func 186) #[] #[.pointer (some ⟨b6, 0, none⟩), .pointer (some ⟨c6, 0, none⟩)], .func (.func 187) #[] #[.pointer (some ⟨c6, 0, none⟩), .pointer (some ⟨b6, 0, none⟩)], .func (.func 188) #[] #[.pointer (some ⟨c7, 0, none⟩), .pointer (some ⟨b7, 0, none⟩)], .func (.func 189) #[] #[.pointer (some ⟨d7, 0, none⟩), .pointer (some ⟨b7, 0, none⟩)], .func (.func 188) #[] #[.pointer (some ⟨c8, 0, none⟩), .pointer (some ⟨b8, 0, none⟩)], .func (.func 189) #[] #[.pointer (some ⟨d8, 0, none⟩), .pointer (some ⟨b8, 0, none⟩)], .func (.func 186) #[] #[.pointer (some ⟨b9, 0, none⟩), .pointer (some ⟨c9, 0, none⟩)], .func (.func 187) #[] #[.pointer (some ⟨c9, 0, none⟩), .pointer (some ⟨b9, 0, none⟩)], .func (.func 186) #[] #[.pointer (some ⟨b10, 0, none⟩), .pointer (some ⟨c10, 0, none⟩)], .func (.func 187) #[] #[.pointer (some ⟨c10, 0, none⟩), .pointer (some ⟨b10, 0, none⟩)], .func (.func 186) #[] #[.pointer (some ⟨b11, 0, none⟩), .pointer (some ⟨c11, 0, none⟩)], .func (.func 187) #[] #[.pointer (some ⟨c11, 0, none⟩), .pointer (some ⟨b11, 0, none⟩)], .func (.func 191) #[] #[.pointer (some ⟨b12, 0, none⟩)], .func (.func 192) #[] #[.pointer (some ⟨b12, 0, none⟩)], .func (.func 191) #[] #[.pointer (some ⟨b13, 0, none⟩)], .func (.func 192) #[] #[.pointer (some ⟨b13, 0, none⟩)]]) WF) ∧ Hid (FieldsUp WF w.heap.size [(.func (.func 183) #[] #[.pointer (some ⟨b0, 0, none⟩)], .func (.func 184) #[] #[.pointer (some ⟨b0, 0, none⟩), .pointer (some ⟨c0, 0, none⟩)]), (.func (.func 183) #[] #[.pointer (some ⟨b1, 0, none⟩)], .func (.func 184) #[] #[.pointer (some ⟨b1, 0, none⟩), .pointer (some ⟨c1, 0, none⟩)]), (.func (.func 183) #[] #[.pointer (some ⟨b2, 0, none⟩)], .func (.func 184) #[] #[.pointer (some ⟨b2, 0, none⟩), .pointer (some ⟨c2, 0, none⟩)]), (.func (.func 183) #[] #[.pointer (some ⟨b3, 0, none⟩)], .func (.func 184) #[] #[.pointer (some ⟨b3, 0, none⟩), .pointer (some ⟨c3, 0, none⟩)]), (.func (.func 183) #[] #[.pointer (some ⟨b4, 0, none⟩)], .func (.func 184) #[] #[.pointer (some ⟨b4, 0, none⟩), .pointer (some ⟨c4, 0, none⟩)]), (.func (.func 186) #[] #[.pointer (some ⟨b5, 0, none⟩), .pointer (some ⟨c5, 0, none⟩)], .func (.func 187) #[] #[.pointer (some ⟨c5, 0, none⟩), .pointer (some ⟨b5, 0, none⟩)]), (.func (.func 186) #[] #[.pointer (some ⟨b6, 0, none⟩), .pointer (some ⟨c6, 0, none⟩)], .func (.func 187) #[] #[.pointer (some ⟨c6, 0, none⟩), .pointer (some ⟨b6, 0, none⟩)]), (.func (.func 188) #[] #[.pointer (some ⟨c7, 0, none⟩), .pointer (some ⟨b7, 0, none⟩)], .func (.func 189) #[] #[.pointer (some ⟨d7, 0, none⟩), .pointer (some ⟨b7, 0, none⟩)]), (.func (.func 188) #[] #[.pointer (some ⟨c8, 0, none⟩), .pointer (some ⟨b8, 0, none⟩)], .func (.func 189) #[] #[.pointer (some ⟨d8, 0, none⟩), .pointer (some ⟨b8, 0, none⟩)]), (.func (.func 186) #[] #[.pointer (some ⟨b9, 0, none⟩), .pointer (some ⟨c9, 0, none⟩)], .func (.func 187) #[] #[.pointer (some ⟨c9, 0, none⟩), .pointer (some ⟨b9, 0, none⟩)]), (.func (.func 186) #[] #[.pointer (some ⟨b10, 0, none⟩), .pointer (some ⟨c10, 0, none⟩)], .func (.func 187) #[] #[.pointer (some ⟨c10, 0, none⟩), .pointer (some ⟨b10, 0, none⟩)]), (.func (.func 186) #[] #[.pointer (some ⟨b11, 0, none⟩), .pointer (some ⟨c11, 0, none⟩)], .func (.func 187) #[] #[.pointer (some ⟨c11, 0, none⟩), .pointer (some ⟨b11, 0, none⟩)]), (.func (.func 191) #[] #[.pointer (some ⟨b12, 0, none⟩)], .func (.func 192) #[] #[.pointer (some ⟨b12, 0, none⟩)]), (.func (.func 191) #[] #[.pointer (some ⟨b13, 0, none⟩)], .func (.func 192) #[] #[.pointer (some ⟨b13, 0, none⟩)])]) ∧ Hid (Below w.heap.size w WF) :=
    ⟨_, Lib.hid rfl,
     Lib.hid (run_loadVar_mid (P := Tryz.prog) _ w.heap.size 0 126 [.func (.func 183) #[] #[.pointer (some ⟨b0, 0, none⟩)], .func (.func 184) #[] #[.pointer (some ⟨b0, 0, none⟩), .pointer (some ⟨c0, 0, none⟩)], .func (.func 183) #[] #[.pointer (some ⟨b1, 0, none⟩)], .func (.func 184) #[] #[.pointer (some ⟨b1, 0, none⟩), .pointer (some ⟨c1, 0, none⟩)], .func (.func 183) #[] #[.pointer (some ⟨b2, 0, none⟩)], .func (.func 184) #[] #[.pointer (some ⟨b2, 0, none⟩), .pointer (some ⟨c2, 0, none⟩)], .func (.func 183) #[] #[.pointer (some ⟨b3, 0, none⟩)], .func (.func 184) #[] #[.pointer (some ⟨b3, 0, none⟩), .pointer (some ⟨c3, 0, none⟩)], .func (.func 183) #[] #[.pointer (some ⟨b4, 0, none⟩)], .func (.func 184) #[] #[.pointer (some ⟨b4, 0, none⟩), .pointer (some ⟨c4, 0, none⟩)], .func (.func 186) #[] #[.pointer (some ⟨b5, 0, none⟩), .pointer (some ⟨c5, 0, none⟩)], .func (.func 187) #[] #[.pointer (some ⟨c5, 0, none⟩), .pointer (some ⟨b5, 0, none⟩)], .func (.func 186) #[] #[.pointer (some ⟨b6, 0, none⟩), .pointer (some ⟨c6, 0, none⟩)], .func (.func 187) #[] #[.pointer (some ⟨c6, 0, none⟩), .pointer (some ⟨b6, 0, none⟩)], .func (.func 188) #[] #[.pointer (some ⟨c7, 0, none⟩), .pointer (some ⟨b7, 0, none⟩)], .func (.func 189) #[] #[.pointer (some ⟨d7, 0, none⟩), .pointer (some ⟨b7, 0, none⟩)], .func (.func 188) #[] #[.pointer (some ⟨c8, 0, none⟩), .pointer (some ⟨b8, 0, none⟩)], .func (.func 189) #[] #[.pointer (some ⟨d8, 0, none⟩), .pointer (some ⟨b8, 0, none⟩)], .func (.func 186) #[] #[.pointer (some ⟨b9, 0, none⟩), .pointer (some ⟨c9, 0, none⟩)], .func (.func 187) #[] #[.pointer (some ⟨c9, 0, none⟩), .pointer (some ⟨b9, 0, none⟩)], .func (.func 186) #[] #[.pointer (some ⟨b10, 0, none⟩), .pointer (some ⟨c10, 0, none⟩)], .func (.func 187) #[] #[.pointer (some ⟨c10, 0, none⟩), .pointer (some ⟨b10, 0, none⟩)], .func (.func 186) #[] #[.pointer (some ⟨b11, 0, none⟩), .pointer (some ⟨c11, 0, none⟩)], .func (.func 187) #[] #[.pointer (some ⟨c11, 0, none⟩), .pointer (some ⟨b11, 0, none⟩)], .func (.func 191) #[] #[.pointer (some ⟨b12, 0, none⟩)], .func (.func 192) #[] #[.pointer (some ⟨b12, 0, none⟩)], .func (.func 191) #[] #[.pointer (some ⟨b13, 0, none⟩)], .func (.func 192) #[] #[.pointer (some ⟨b13, 0, none⟩)]] _ (World.rangeAt_setCells_same _ _ _ _ HTH.out) Tryz.underlying126 rfl (by kernel_rfl)),
     Lib.hid ⟨fun k hk => ((HG14.out.at_ k hk).off (Off.setCells _ _ _ _) (by rw [HS.out]; omega)).down hNW⟩, Lib.hid (HBS.out.trans (below_cells w14 w.heap.size 0 _))⟩
  clear HTH HR14 HG14 HBS HO1
  rw [HWF.out]
  clear HWF
  go_wp2_with fail
  have hld := HLD.out
  exact bodyPost_ret (v := .agg #[.func (.func 183) #[] #[.pointer (some ⟨b0, 0, none⟩)], .func (.func 184) #[] #[.pointer (some ⟨b0, 0, none⟩), .pointer (some ⟨c0, 0, none⟩)], .func (.func 183) #[] #[.pointer (some ⟨b1, 0, none⟩)], .func (.func 184) #[] #[.pointer (some ⟨b1, 0, none⟩), .pointer (some ⟨c1, 0, none⟩)], .func (.func 183) #[] #[.pointer (some ⟨b2, 0, none⟩)], .func (.func 184) #[] #[.pointer (some ⟨b2, 0, none⟩), .pointer (some ⟨c2, 0, none⟩)], .func (.func 183) #[] #[.pointer (some ⟨b3, 0, none⟩)], .func (.func 184) #[] #[.pointer (some ⟨b3, 0, none⟩), .pointer (some ⟨c3, 0, none⟩)], .func (.func 183) #[] #[.pointer (some ⟨b4, 0, none⟩)], .func (.func 184) #[] #[.pointer (some ⟨b4, 0, none⟩), .pointer (some ⟨c4, 0, none⟩)], .func (.func 186) #[] #[.pointer (some ⟨b5, 0, none⟩), .pointer (some ⟨c5, 0, none⟩)], .func (.func 187) #[] #[.pointer (some ⟨c5, 0, none⟩), .pointer (some ⟨b5, 0, none⟩)], .func (.func 186) #[] #[.pointer (some ⟨b6, 0, none⟩), .pointer (some ⟨c6, 0, none⟩)], .func (.func 187) #[] #[.pointer (some ⟨c6, 0, none⟩), .pointer (some ⟨b6, 0, none⟩)], .func (.func 188) #[] #[.pointer (some ⟨c7, 0, none⟩), .pointer (some ⟨b7, 0, none⟩)], .func (.func 189) #[] #[.pointer (some ⟨d7, 0, none⟩), .pointer (some ⟨b7, 0, none⟩)], .func (.func 188) #[] #[.pointer (some ⟨c8, 0, none⟩), .pointer (some ⟨b8, 0, none⟩)], .func (.func 189) #[] #[.pointer (some ⟨d8, 0, none⟩), .pointer (some ⟨b8, 0, none⟩)], .func (.func 186) #[] #[.pointer (some ⟨b9, 0, none⟩), .pointer (some ⟨c9, 0, none⟩)], .func (.func 187) #[] #[.pointer (some ⟨c9, 0, none⟩), .pointer (some ⟨b9, 0, none⟩)], .func (.func 186) #[] #[.pointer (some ⟨b10, 0, none⟩), .pointer (some ⟨c10, 0, none⟩)], .func (.func 187) #[] #[.pointer (some ⟨c10, 0, none⟩), .pointer (some ⟨b10, 0, none⟩)], .func (.func 186) #[] #[.pointer (some ⟨b11, 0, none⟩), .pointer (some ⟨c11, 0, none⟩)], .func (.func 187) #[] #[.pointer (some ⟨c11, 0, none⟩), .pointer (some ⟨b11, 0, none⟩)], .func (.func 191) #[] #[.pointer (some ⟨b12, 0, none⟩)], .func (.func 192) #[] #[.pointer (some ⟨b12, 0, none⟩)], .func (.func 191) #[] #[.pointer (some ⟨b13, 0, none⟩)], .func (.func 192) #[] #[.pointer (some ⟨b13, 0, none⟩)]]) (by simp [results, Tryz.results60, Act.put, asAddr, hld]) rfl ⟨⟨[(.func (.func 183) #[] #[.pointer (some ⟨b0, 0, none⟩)], .func (.func 184) #[] #[.pointer (some ⟨b0, 0, none⟩), .pointer (some ⟨c0, 0, none⟩)]), (.func (.func 183) #[] #[.pointer (some ⟨b1, 0, none⟩)], .func (.func 184) #[] #[.pointer (some ⟨b1, 0, none⟩), .pointer (some ⟨c1, 0, none⟩)]), (.func (.func 183) #[] #[.pointer (some ⟨b2, 0, none⟩)], .func (.func 184) #[] #[.pointer (some ⟨b2, 0, none⟩), .pointer (some ⟨c2, 0, none⟩)]), (.func (.func 183) #[] #[.pointer (some ⟨b3, 0, none⟩)], .func (.func 184) #[] #[.pointer (some ⟨b3, 0, none⟩), .pointer (some ⟨c3, 0, none⟩)]), (.func (.func 183) #[] #[.pointer (some ⟨b4, 0, none⟩)], .func (.func 184) #[] #[.pointer (some ⟨b4, 0, none⟩), .pointer (some ⟨c4, 0, none⟩)]), (.func (.func 186) #[] #[.pointer (some ⟨b5, 0, none⟩), .pointer (some ⟨c5, 0, none⟩)], .func (.func 187) #[] #[.pointer (some ⟨c5, 0, none⟩), .pointer (some ⟨b5, 0, none⟩)]), (.func (.func 186) #[] #[.pointer (some ⟨b6, 0, none⟩), .pointer (some ⟨c6, 0, none⟩)], .func (.func 187) #[] #[.pointer (some ⟨c6, 0, none⟩), .pointer (some ⟨b6, 0, none⟩)]), (.func (.func 188) #[] #[.pointer (some ⟨c7, 0, none⟩), .pointer (some ⟨b7, 0, none⟩)], .func (.func 189) #[] #[.pointer (some ⟨d7, 0, none⟩), .pointer (some ⟨b7, 0, none⟩)]), (.func (.func 188) #[] #[.pointer (some ⟨c8, 0, none⟩), .pointer (some ⟨b8, 0, none⟩)], .func (.func 189) #[] #[.pointer (some ⟨d8, 0, none⟩), .pointer (some ⟨b8, 0, none⟩)]), (.func (.func 186) #[] #[.pointer (some ⟨b9, 0, none⟩), .pointer (some ⟨c9, 0, none⟩)], .func (.func 187) #[] #[.pointer (some ⟨c9, 0, none⟩), .pointer (some ⟨b9, 0, none⟩)]), (.func (.func 186) #[] #[.pointer (some ⟨b10, 0, none⟩), .pointer (some ⟨c10, 0, none⟩)], .func (.func 187) #[] #[.pointer (some ⟨c10, 0, none⟩), .pointer (some ⟨b10, 0, none⟩)]), (.func (.func 186) #[] #[.pointer (some ⟨b11, 0, none⟩), .pointer (some ⟨c11, 0, none⟩)], .func (.func 187) #[] #[.pointer (some ⟨c11, 0, none⟩), .pointer (some ⟨b11, 0, none⟩)]), (.func (.func 191) #[] #[.pointer (some ⟨b12, 0, none⟩)], .func (.func 192) #[] #[.pointer (some ⟨b12, 0, none⟩)]), (.func (.func 191) #[] #[.pointer (some ⟨b13, 0, none⟩)], .func (.func 192) #[] #[.pointer (some ⟨b13, 0, none⟩)])], rfl, rfl, HGF.out, by simp⟩, HBF.out⟩
end Go.Proofs.YtlcmcknbbmokjaaGreat
namespace Go.Proofs.YtlcmcknbbmokjaaGreat
open Go.RowKit
def dayIn (y m d : Int) : Int := fst [rng y 2000 2273, rng m 1 12, rng d 1 31]
def dayErr (y m d : Int) : Int :=
  if dayIn y m d ≠ 0 then dayIn y m d
  else if Cal.ml y m.toNat < d ∨ 99999 < Cal.dn y m.toNat d then 7 else 0
theorem rng_zero {n a b : Int} (h : rng n a b = 0) : a ≤ n ∧ n ≤ b := by
  unfold rng at h; split at h
  · assumption
  · omega
theorem fst_cons_zero {x : Int} {l : List Int} (h : fst (x :: l) = 0) : x = 0 ∧ fst l = 0 := by
  by_cases e : x = 0
  · simp [fst, e] at h; exact ⟨e, h⟩
  · simp [fst, e] at h
theorem dayIn_zero {y m d : Int} (h : dayIn y m d = 0) : (2000 ≤ y ∧ y ≤ 2273) ∧ (1 ≤ m ∧ m ≤ 12) ∧ (1 ≤ d ∧ d ≤ 31) := by
  obtain ⟨h1, h⟩ := fst_cons_zero h
  obtain ⟨h2, h⟩ := fst_cons_zero h
  obtain ⟨h3, h⟩ := fst_cons_zero h
  exact ⟨rng_zero h1, rng_zero h2, rng_zero h3⟩

end Go.Proofs.YtlcmcknbbmokjaaGreat
namespace Go.Proofs.YtlcmcknbbmokjaaGreat
open Go.RowKit
theorem cum_le (y : Int) (j k : Nat) (h : j ≤ k) (hk : k ≤ 12) : Cal.cum y j ≤ Cal.cum y k := by
  induction k with
  | zero => obtain rfl : j = 0 := by omega
            exact Int.le_refl _
  | succ n ih =>
    by_cases e : j = n + 1
    · subst e; exact Int.le_refl _
    · have := ih (by omega) (by omega)
      have hm := Cal.ml_bd y (n + 1) (by omega) hk
      rw [Cal.cum]; omega
/-- The year, the month and the day of a day, as facts. -/
structure IsDate (d y : Int) (m : Nat) (t : Int) : Prop where
  y1 : 2000 ≤ y
  y2 : y ≤ 2273
  d1 : Cal.db y ≤ d
  d2 : d < Cal.db (y + 1)
  m1 : 1 ≤ m
  m2 : m ≤ 12
  r1 : Cal.cum y (m - 1) ≤ d - Cal.db y
  r2 : d - Cal.db y < Cal.cum y m
  t0 : t = d - Cal.db y - Cal.cum y (m - 1) + 1
theorem date_ex (d : Int) (h0 : 0 ≤ d) (h1 : d ≤ 99999) : ∃ y m t, IsDate d y m t := by
  obtain ⟨y, y1, y2, d1, d2⟩ := Cal.year_ex d h0 h1
  have hs := Cal.db_succ y
  obtain ⟨m, m1, m2, r1, r2⟩ := Cal.month_ex y (d - Cal.db y) (by omega) (by omega)
  exact ⟨y, m, _, y1, y2, d1, d2, m1, m2, r1, r2, rfl⟩
def dateVal (y : Int) (m : Nat) (t : Int) : Value := .agg #[.int .i64 y, .int .i64 m, .int .i64 t]
theorem res3 (w : World) (a b c : Int) (T : TypeId) : Res 3 w.heap.size (w.alloc (.cells #[.int .i64 a, .int .i64 b, .int .i64 c] T)) (w.alloc (.cells #[.int .i64 a, .int .i64 b, .int .i64 c] T)) :=
  ⟨fun i hi => by
    match i, hi with
    | 0, _ => exact ⟨.int .i64 a, by simp⟩
    | 1, _ => exact ⟨.int .i64 b, by simp⟩
    | 2, _ => exact ⟨.int .i64 c, by simp⟩, fun i hi => by
    match i, hi with
    | 0, _ => simp
    | 1, _ => simp
    | 2, _ => simp, Below.refl _ _⟩
end Go.Proofs.YtlcmcknbbmokjaaGreat
namespace Go.Proofs.YtlcmcknbbmokjaaGreat
def dig (n : Nat) : UInt8 := UInt8.ofNat (48 + n)
def pad2 (n : Nat) : List UInt8 := [dig (n / 10), dig (n % 10)]
def pad4 (y : Nat) : List UInt8 := pad2 (y / 100) ++ pad2 (y % 100)
def dateL (y m t : Nat) : List UInt8 := pad4 y ++ 45 :: (pad2 m ++ 45 :: pad2 t)
theorem dec1 (n : Nat) (h : n < 10) : Lib.decDigits n = [dig n] := by rw [Lib.decDigits, dif_pos h]; rfl
theorem dec2 (n : Nat) (h1 : 10 ≤ n) (h : n < 100) : Lib.decDigits n = pad2 n := by
  rw [Lib.decDigits, dif_neg (by omega), dec1 _ (by omega)]; rfl
theorem dec4 (n : Nat) (h1 : 1000 ≤ n) (h : n < 10000) : Lib.decDigits n = pad4 n := by
  rw [Lib.decDigits, dif_neg (by omega), Lib.decDigits, dif_neg (by omega), dec2 _ (by omega) (by omega)]
  have e1 : n / 10 / 10 = n / 100 := by omega
  have e2 : n / 10 % 10 = n % 100 / 10 := by omega
  have e3 : n % 10 = n % 100 % 10 := by omega
  rw [e1, e2, e3]
  rfl
theorem dig_toNat (a : Nat) (h : a < 10) : (dig a).toNat = 48 + a := by
  unfold dig
  rw [UInt8.toNat_ofNat']
  omega
theorem dig_lt (a b : Nat) (ha : a < 10) (hb : b < 10) : dig a < dig b ↔ a < b := by
  rw [UInt8.lt_iff_toNat_lt, dig_toNat a ha, dig_toNat b hb]; omega
theorem dig_eq (a b : Nat) (ha : a < 10) (hb : b < 10) : dig a = dig b ↔ a = b := by
  rw [← UInt8.toNat_inj, dig_toNat a ha, dig_toNat b hb]; omega
theorem pad2_lt (a b : Nat) (l r : List UInt8) (ha : a < 100) (hb : b < 100) : pad2 a ++ l < pad2 b ++ r ↔ a < b ∨ a = b ∧ l < r := by
  unfold pad2
  simp only [List.cons_append, List.nil_append, List.cons_lt_cons_iff]
  rw [dig_lt _ _ (by omega) (by omega), dig_lt _ _ (by omega) (by omega), dig_eq _ _ (by omega) (by omega), dig_eq _ _ (by omega) (by omega)]
  constructor
  · rintro (h | ⟨h1, h | ⟨h2, h3⟩⟩)
    · left; omega
    · left; omega
    · right; exact ⟨by omega, h3⟩
  · rintro (h | ⟨h1, h3⟩)
    · by_cases e : a / 10 = b / 10
      · right; exact ⟨e, .inl (by omega)⟩
      · left; omega
    · subst h1; right; exact ⟨rfl, .inr ⟨rfl, h3⟩⟩
theorem cons_lt (x : UInt8) (l r : List UInt8) : x :: l < x :: r ↔ l < r := by
  rw [List.cons_lt_cons_iff]
  constructor
  · rintro (h | h)
    · exact absurd h (by simp)
    · exact h.2
  · exact fun h => .inr ⟨rfl, h⟩
theorem pad2_lt' (a b : Nat) (ha : a < 100) (hb : b < 100) : pad2 a < pad2 b ↔ a < b := by
  have := pad2_lt a b [] [] ha hb
  simp only [List.append_nil] at this
  rw [this]
  constructor
  · rintro (h | h)
    · exact h
    · exact absurd h.2 (by simp)
  · exact .inl
theorem dateL_lt (y m t y' m' t' : Nat) (hy : y < 10000) (hm : m < 100) (ht : t < 100) (hy' : y' < 10000) (hm' : m' < 100) (ht' : t' < 100) :
    dateL y m t < dateL y' m' t' ↔ y < y' ∨ y = y' ∧ (m < m' ∨ m = m' ∧ t < t') := by
  unfold dateL pad4
  rw [List.append_assoc, List.append_assoc, pad2_lt _ _ _ _ (by omega) (by omega), pad2_lt _ _ _ _ (by omega) (by omega), cons_lt, pad2_lt _ _ _ _ hm hm', cons_lt, pad2_lt' _ _ ht ht']
  omega
theorem dateL_inj (y m t y' m' t' : Nat) (hy : y < 10000) (hm : m < 100) (ht : t < 100) (hy' : y' < 10000) (hm' : m' < 100) (ht' : t' < 100) :
    dateL y m t = dateL y' m' t' ↔ y = y' ∧ m = m' ∧ t = t' := by
  constructor
  · intro h
    have a := not_congr (dateL_lt y m t y' m' t' hy hm ht hy' hm' ht')
    have b := not_congr (dateL_lt y' m' t' y m t hy' hm' ht' hy hm ht)
    rw [h] at a
    rw [← h] at b
    have irr : ∀ l : List UInt8, ¬ l < l := fun l => List.lt_irrefl l
    have a' := a.1 (irr _)
    have b' := b.1 (irr _)
    omega
  · rintro ⟨rfl, rfl, rfl⟩; rfl
theorem db_step (a b : Int) (h : a < b) : Cal.db (a + 1) ≤ Cal.db b := Cal.db_mono _ _ (by omega)
theorem date_t {d y t : Int} {m : Nat} (h : IsDate d y m t) : 1 ≤ t ∧ t ≤ 31 := by
  obtain ⟨y1, y2, d1, d2, m1, m2, r1, r2, t0⟩ := h
  obtain ⟨k, rfl⟩ : ∃ k, m = k + 1 := ⟨m - 1, by omega⟩
  have := Cal.ml_bd y (k + 1) (by omega) m2
  simp only [Nat.add_sub_cancel] at *
  rw [Cal.cum] at r2
  omega
theorem date_lt {d y t d' y' t' : Int} {m m' : Nat} (h : IsDate d y m t) (h' : IsDate d' y' m' t') (hl : y < y' ∨ y = y' ∧ (m < m' ∨ m = m' ∧ t < t')) : d < d' := by
  obtain ⟨y1, y2, d1, d2, m1, m2, r1, r2, t0⟩ := h
  obtain ⟨y1', y2', d1', d2', m1', m2', r1', r2', t0'⟩ := h'
  rcases hl with h | ⟨rfl, h | ⟨rfl, h⟩⟩
  · have := db_step y y' h; omega
  · have := cum_le y m (m' - 1) (by omega) (by omega); omega
  · omega
theorem date_lt_iff {d y t d' y' t' : Int} {m m' : Nat} (h : IsDate d y m t) (h' : IsDate d' y' m' t') : (y < y' ∨ y = y' ∧ (m < m' ∨ m = m' ∧ t < t')) ↔ d < d' := by
  constructor
  · exact date_lt h h'
  · intro hd
    by_cases e : y' < y ∨ y' = y ∧ (m' < m ∨ m' = m ∧ t' < t)
    · have := date_lt h' h e; omega
    · by_cases e2 : y = y' ∧ m = m' ∧ t = t'
      · obtain ⟨rfl, rfl, rfl⟩ := e2
        have := h.t0; have := h'.t0; omega
      · omega
theorem date_eq_iff {d y t d' y' t' : Int} {m m' : Nat} (h : IsDate d y m t) (h' : IsDate d' y' m' t') : (y = y' ∧ m = m' ∧ t = t') ↔ d = d' := by
  constructor
  · rintro ⟨rfl, rfl, rfl⟩
    have := h.t0; have := h'.t0; omega
  · rintro rfl
    have a := (not_congr (date_lt_iff h h')).2 (by omega)
    have b := (not_congr (date_lt_iff h' h)).2 (by omega)
    omega
/-- The text of a date. -/
def dateT (y : Int) (m : Nat) (t : Int) : ByteArray := ⟨(dateL y.toNat m t.toNat).toArray⟩
theorem dateT_less {d y t d' y' t' : Int} {m m' : Nat} (h : IsDate d y m t) (h' : IsDate d' y' m' t') : Op.bytesLess (dateT y m t).toList (dateT y' m' t').toList = decide (d < d') := by
  rw [bytesLess_eq, Lib.toList_data, Lib.toList_data]
  have a := date_t h
  have b := date_t h'
  have := h.y1; have := h.y2; have := h.m2; have := h'.y1; have := h'.y2; have := h'.m2
  have e : dateL y.toNat m t.toNat < dateL y'.toNat m' t'.toNat ↔ d < d' := by
    rw [dateL_lt _ _ _ _ _ _ (by omega) (by omega) (by omega) (by omega) (by omega) (by omega), ← date_lt_iff h h']
    omega
  exact decide_eq_decide.2 e
theorem dateT_same {d y t d' y' t' : Int} {m m' : Nat} (h : IsDate d y m t) (h' : IsDate d' y' m' t') : ((dateT y m t).toList == (dateT y' m' t').toList) = decide (d = d') := by
  rw [Lib.toList_data, Lib.toList_data]
  have a := date_t h
  have b := date_t h'
  have := h.y1; have := h.y2; have := h.m2; have := h'.y1; have := h'.y2; have := h'.m2
  have e : dateL y.toNat m t.toNat = dateL y'.toNat m' t'.toNat ↔ d = d' := by
    rw [dateL_inj _ _ _ _ _ _ (by omega) (by omega) (by omega) (by omega) (by omega) (by omega), ← date_eq_iff h h']
    omega
  rw [Bool.eq_iff_iff, beq_iff_eq, decide_eq_true_eq]
  exact e
end Go.Proofs.YtlcmcknbbmokjaaGreat
namespace Go.Proofs
open Go.Shelf
def Tryz.lays156_ren : Go.Shelf.Ren := ⟨fun | 156 => 75 | 165 => 150 | 166 => 151 | 169 => 152 | 240 => 200 | 241 => 201 | 276 => 217 | 277 => 218 | n => n, fun | 31 => 133 | 9 => 9 | 3 => 3 | 4 => 4 | 0 => 0 | 20 => 20 | 72 => 206 | 76 => 210 | 70 => 203 | 37 => 204 | 75 => 209 | 127 => 245 | 164 => 251 | 5 => 5 | 80 => 212 | n => n, fun | n => n⟩
theorem Tryz.lays156 : Go.Proofs.Lays.n156 Tryz.prog Tryz.lays156_ren := {
  mixed := by kernel_rfl
  f156 := Tryz.func75.trans (congrArg some (by kernel_rfl))
  f165 := Tryz.func150.trans (congrArg some (by kernel_rfl))
  f166 := Tryz.func151.trans (congrArg some (by kernel_rfl))
  f169 := Tryz.func152.trans (congrArg some (by kernel_rfl))
  f240 := Tryz.func200.trans (congrArg some (by kernel_rfl))
  f241 := Tryz.func201.trans (congrArg some (by kernel_rfl))
  f276 := Tryz.func217.trans (congrArg some (by kernel_rfl))
  f277 := Tryz.func218.trans (congrArg some (by kernel_rfl))
  t0 := Tryz.underlying0
  a0 := Tryz.isAgg0
  z0 := Tryz.sizeOf0
  v0 := Tryz.zeroValue0
  t3 := Tryz.underlying3
  a3 := Tryz.isAgg3
  z3 := Tryz.sizeOf3
  v3 := Tryz.zeroValue3
  t4 := Tryz.underlying4
  a4 := Tryz.isAgg4
  z4 := Tryz.sizeOf4
  v4 := Tryz.zeroValue4
  t9 := Tryz.underlying9
  a9 := Tryz.isAgg9
  z9 := Tryz.sizeOf9
  v9 := Tryz.zeroValue9
  t20 := Tryz.underlying20
  a20 := Tryz.isAgg20
  z20 := Tryz.sizeOf20
  v20 := Tryz.zeroValue20
  t31 := Tryz.underlying133
  a31 := Tryz.isAgg133
  z31 := Tryz.sizeOf133
  v31 := Tryz.zeroValue133
  t37 := Tryz.underlying204
  a37 := Tryz.isAgg204
  z37 := Tryz.sizeOf204
  v37 := Tryz.zeroValue204
  t70 := Tryz.underlying203
  a70 := Tryz.isAgg203
  z70 := Tryz.sizeOf203
  v70 := Tryz.zeroValue203
  t72 := Tryz.underlying206
  a72 := Tryz.isAgg206
  z72 := Tryz.sizeOf206
  v72 := Tryz.zeroValue206
  t75 := Tryz.underlying209
  a75 := Tryz.isAgg209
  z75 := Tryz.sizeOf209
  v75 := Tryz.zeroValue209
  t76 := Tryz.underlying210
  a76 := Tryz.isAgg210
  z76 := Tryz.sizeOf210
  v76 := Tryz.zeroValue210
  t127 := Tryz.underlying245
  a127 := Tryz.isAgg245
  z127 := Tryz.sizeOf245
  v127 := Tryz.zeroValue245
  t164 := Tryz.underlying251
  a164 := Tryz.isAgg251
  z164 := Tryz.sizeOf251
  v164 := Tryz.zeroValue251 }
theorem Tryz.Builder_Extra_156 : Builder.Extra Tryz.prog Tryz.lays156_ren := {
  sizeBuilder := by kernel_rfl
  liesBuilder := by kernel_rfl
  t5 := Tryz.underlying5
  a5 := Tryz.isAgg5
  z5 := Tryz.sizeOf5
  v5 := Tryz.zeroValue5
  infoByte := by kernel_rfl
  cellsByte := by kernel_rfl
  sizeByte := by kernel_rfl
  neB5 := by decide }
open Go.RowKit in
/-- No element: the empty string; the world is as it was. (Whatever the slice's address and capacity: a nil slice too.) (LAID: no walk: one application.) -/
theorem Tryz.strings_Join_none (a : Option Addr) (c : Nat) (sep : ByteArray) (w : World) :
    Calls Tryz.prog 75 #[.slice a 0 c, .string sep] w fun e w' => e = .returned (.string ⟨#[]⟩) ∧ w' = w := Any.strings_Join_none Tryz.lays156 Tryz.Builder_Extra_156 a c sep w
open Go.RowKit in
/-- strings.Join: "Join concatenates the elements of its first argument to create a single string. The separator string sep is placed between elements in the resulting string.": HOWEVER MANY ELEMENTS. Below the heap's end the world is as it was. (LAID: no walk: one application.) -/
theorem Tryz.strings_Join (bk o c : Nat) (xs : List ByteArray) (sep : ByteArray) (w : World) (hcells : ∀ (j : Nat) x, xs[j]? = some x → w.cell? ⟨bk, o + j, none⟩ = some (.string x)) (hbk : bk < w.heap.size) (hN : xs.length ≤ 140737488355328) (hcap : xs.length ≤ c) (hlen : (Lib.join (xs.map (·.data.toList)) sep.data.toList).length ≤ 140737488355328) :
    Calls Tryz.prog 75 #[.slice (some ⟨bk, o, none⟩) xs.length c, .string sep] w fun e w' => e = .returned (.string ⟨(Lib.join (xs.map (·.data.toList)) sep.data.toList).toArray⟩) ∧ Below w.heap.size w w' := Any.strings_Join Tryz.lays156 Tryz.Builder_Extra_156 bk o c xs sep w hcells hbk hN hcap hlen
def Tryz.lays137_ren : Go.Shelf.Ren := ⟨fun | 137 => 205 | 217 => 219 | 266 => 226 | n => n, fun | 9 => 9 | 5 => 5 | 3 => 3 | n => n, fun | n => n⟩
theorem Tryz.lays137 : Go.Proofs.Lays.n137 Tryz.prog Tryz.lays137_ren := {
  mixed := by kernel_rfl
  f137 := Tryz.func205.trans (congrArg some (by kernel_rfl))
  f217 := Tryz.func219.trans (congrArg some (by kernel_rfl))
  f266 := Tryz.func226.trans (congrArg some (by kernel_rfl))
  t3 := Tryz.underlying3
  a3 := Tryz.isAgg3
  z3 := Tryz.sizeOf3
  v3 := Tryz.zeroValue3
  t5 := Tryz.underlying5
  a5 := Tryz.isAgg5
  z5 := Tryz.sizeOf5
  v5 := Tryz.zeroValue5
  t9 := Tryz.underlying9
  a9 := Tryz.isAgg9
  z9 := Tryz.sizeOf9
  v9 := Tryz.zeroValue9 }
open Go.RowKit in
/-- strings.IndexByte: "IndexByte returns the index of the first instance of c in s, or -1 if c is not present in s.": IT RETURNS 'Lib.indexByte s c'; the world is as it was. (LAID: no walk: one application.) -/
theorem Tryz.strings_IndexByte (s : ByteArray) (c : Int) (w : World) :
    Calls Tryz.prog 205 #[.string s, .int .u8 c] w fun e w' => e = .returned (.int .i64 (Lib.indexByte s.data.toList c.toNat.toUInt8)) ∧ w' = w := Any.strings_IndexByte Tryz.lays137 s c w
def Tryz.lays103_ren : Go.Shelf.Ren := ⟨fun | 103 => 207 | 210 => 221 | 206 => 227 | n => n, fun | 9 => 9 | 4 => 4 | 24 => 156 | 3 => 3 | n => n, fun | n => n⟩
theorem Tryz.lays103 : Go.Proofs.Lays.n103 Tryz.prog Tryz.lays103_ren := {
  mixed := by kernel_rfl
  f103 := Tryz.func207.trans (congrArg some (by kernel_rfl))
  f206 := Tryz.func227.trans (congrArg some (by kernel_rfl))
  f210 := Tryz.func221.trans (congrArg some (by kernel_rfl))
  t3 := Tryz.underlying3
  a3 := Tryz.isAgg3
  z3 := Tryz.sizeOf3
  v3 := Tryz.zeroValue3
  t4 := Tryz.underlying4
  a4 := Tryz.isAgg4
  z4 := Tryz.sizeOf4
  v4 := Tryz.zeroValue4
  t9 := Tryz.underlying9
  a9 := Tryz.isAgg9
  z9 := Tryz.sizeOf9
  v9 := Tryz.zeroValue9
  t24 := Tryz.underlying156
  a24 := Tryz.isAgg156
  z24 := Tryz.sizeOf156
  v24 := Tryz.zeroValue156 }
open Go.RowKit in
/-- strings.CutPrefix: "CutPrefix returns s without the provided leading prefix string and reports whether it found the prefix. If s doesn't start with prefix, CutPrefix returns s, false. If prefix is the empty string, CutPrefix returns s, true.": IT RETURNS '(Lib.trimPrefix s p, Lib.hasPrefix s p)'; the world is as it was. (LAID: no walk: one application.) -/
theorem Tryz.strings_CutPrefix (s p : ByteArray) (w : World) :
    Calls Tryz.prog 207 #[.string s, .string p] w fun e w' => e = .returned (.tuple #[.string ⟨(Lib.trimPrefix s.data.toList p.data.toList).toArray⟩, .bool (Lib.hasPrefix s.data.toList p.data.toList)]) ∧ w' = w := Any.strings_CutPrefix Tryz.lays103 s p w
def Tryz.lays104_ren : Go.Shelf.Ren := ⟨fun | 104 => 161 | 211 => 206 | 207 => 220 | n => n, fun | 9 => 9 | 4 => 4 | 24 => 156 | 3 => 3 | n => n, fun | n => n⟩
theorem Tryz.lays104 : Go.Proofs.Lays.n104 Tryz.prog Tryz.lays104_ren := {
  mixed := by kernel_rfl
  f104 := Tryz.func161.trans (congrArg some (by kernel_rfl))
  f207 := Tryz.func220.trans (congrArg some (by kernel_rfl))
  f211 := Tryz.func206.trans (congrArg some (by kernel_rfl))
  t3 := Tryz.underlying3
  a3 := Tryz.isAgg3
  z3 := Tryz.sizeOf3
  v3 := Tryz.zeroValue3
  t4 := Tryz.underlying4
  a4 := Tryz.isAgg4
  z4 := Tryz.sizeOf4
  v4 := Tryz.zeroValue4
  t9 := Tryz.underlying9
  a9 := Tryz.isAgg9
  z9 := Tryz.sizeOf9
  v9 := Tryz.zeroValue9
  t24 := Tryz.underlying156
  a24 := Tryz.isAgg156
  z24 := Tryz.sizeOf156
  v24 := Tryz.zeroValue156 }
open Go.RowKit in
/-- strings.CutSuffix: "CutSuffix returns s without the provided ending suffix string and reports whether it found the suffix. If s doesn't end with suffix, CutSuffix returns s, false. If suffix is the empty string, CutSuffix returns s, true.": IT RETURNS '(Lib.trimSuffix s p, Lib.hasSuffix s p)'; the world is as it was. (LAID: no walk: one application.) -/
theorem Tryz.strings_CutSuffix (s p : ByteArray) (w : World) (hs : s.size ≤ 9223372036854775807) :
    Calls Tryz.prog 161 #[.string s, .string p] w fun e w' => e = .returned (.tuple #[.string ⟨(Lib.trimSuffix s.data.toList p.data.toList).toArray⟩, .bool (Lib.hasSuffix s.data.toList p.data.toList)]) ∧ w' = w := Any.strings_CutSuffix Tryz.lays104 s p w hs
def Tryz.lays217_ren : Go.Shelf.Ren := ⟨fun | 217 => 219 | 266 => 226 | n => n, fun | 9 => 9 | 5 => 5 | 3 => 3 | n => n, fun | n => n⟩
theorem Tryz.lays217 : Go.Proofs.Lays.n217 Tryz.prog Tryz.lays217_ren := {
  mixed := by kernel_rfl
  f217 := Tryz.func219.trans (congrArg some (by kernel_rfl))
  f266 := Tryz.func226.trans (congrArg some (by kernel_rfl))
  t3 := Tryz.underlying3
  a3 := Tryz.isAgg3
  z3 := Tryz.sizeOf3
  v3 := Tryz.zeroValue3
  t5 := Tryz.underlying5
  a5 := Tryz.isAgg5
  z5 := Tryz.sizeOf5
  v5 := Tryz.zeroValue5
  t9 := Tryz.underlying9
  a9 := Tryz.isAgg9
  z9 := Tryz.sizeOf9
  v9 := Tryz.zeroValue9 }
open Go.RowKit Go.Lib in
/-- internal/stringslite.IndexByte (what strings.IndexByte calls): IT RETURNS 'Lib.indexByte s c'; the world is as it was. (LAID: no walk: one application.) -/
theorem Tryz.stringslite_IndexByte (s : ByteArray) (c : Int) (w : World) :
    Calls Tryz.prog 219 #[.string s, .int .u8 c] w fun e w' => e = .returned (.int .i64 (Lib.indexByte s.data.toList c.toNat.toUInt8)) ∧ w' = w := Any.stringslite_IndexByte Tryz.lays217 s c w
def Tryz.lays219_ren : Go.Shelf.Ren := ⟨fun | 219 => 214 | 217 => 219 | 225 => 223 | 224 => 224 | 267 => 225 | 266 => 226 | 314 => 228 | n => n, fun | 9 => 9 | 3 => 3 | 4 => 4 | 5 => 5 | 46 => 256 | 146 => 258 | 51 => 257 | n => n, fun | 1 => 0 | n => n⟩
theorem Tryz.lays219 : Go.Proofs.Lays.n219 Tryz.prog Tryz.lays219_ren := {
  mixed := by kernel_rfl
  f217 := Tryz.func219.trans (congrArg some (by kernel_rfl))
  f219 := Tryz.func214.trans (congrArg some (by kernel_rfl))
  f224 := Tryz.func224.trans (congrArg some (by kernel_rfl))
  f225 := Tryz.func223.trans (congrArg some (by kernel_rfl))
  f266 := Tryz.func226.trans (congrArg some (by kernel_rfl))
  f267 := Tryz.func225.trans (congrArg some (by kernel_rfl))
  f314 := Tryz.func228.trans (congrArg some (by kernel_rfl))
  t3 := Tryz.underlying3
  a3 := Tryz.isAgg3
  z3 := Tryz.sizeOf3
  v3 := Tryz.zeroValue3
  t4 := Tryz.underlying4
  a4 := Tryz.isAgg4
  z4 := Tryz.sizeOf4
  v4 := Tryz.zeroValue4
  t5 := Tryz.underlying5
  a5 := Tryz.isAgg5
  z5 := Tryz.sizeOf5
  v5 := Tryz.zeroValue5
  t9 := Tryz.underlying9
  a9 := Tryz.isAgg9
  z9 := Tryz.sizeOf9
  v9 := Tryz.zeroValue9
  t46 := Tryz.underlying256
  a46 := Tryz.isAgg256
  z46 := Tryz.sizeOf256
  v46 := Tryz.zeroValue256
  t51 := Tryz.underlying257
  a51 := Tryz.isAgg257
  z51 := Tryz.sizeOf257
  v51 := Tryz.zeroValue257
  t146 := Tryz.underlying258
  a146 := Tryz.isAgg258
  z146 := Tryz.sizeOf258
  v146 := Tryz.zeroValue258
  g1 := by kernel_rfl }
open Go.RowKit Go.Lib in
/-- internal/stringslite.Index (what strings.Index calls) AT A substr OF ONE BYTE c: IT RETURNS 'Lib.indexByte s c'; the world is as it was. (LAID: no walk: one application.) -/
theorem Tryz.stringslite_Index_one (s : ByteArray) (c : UInt8) (w : World) :
    Calls Tryz.prog 214 #[.string s, .string ⟨#[c]⟩] w fun e w' => e = .returned (.int .i64 (Lib.indexByte s.data.toList c)) ∧ w' = w := Any.stringslite_Index_one Tryz.lays219 s c w
def Tryz.lays143_ren : Go.Shelf.Ren := ⟨fun | 143 => 182 | 219 => 214 | 217 => 219 | 225 => 223 | 224 => 224 | 267 => 225 | 266 => 226 | 314 => 228 | n => n, fun | 9 => 9 | 3 => 3 | 4 => 4 | 5 => 5 | 46 => 256 | 146 => 258 | 51 => 257 | n => n, fun | 1 => 0 | n => n⟩
theorem Tryz.lays143 : Go.Proofs.Lays.n143 Tryz.prog Tryz.lays143_ren := {
  mixed := by kernel_rfl
  f143 := Tryz.func182.trans (congrArg some (by kernel_rfl))
  f217 := Tryz.func219.trans (congrArg some (by kernel_rfl))
  f219 := Tryz.func214.trans (congrArg some (by kernel_rfl))
  f224 := Tryz.func224.trans (congrArg some (by kernel_rfl))
  f225 := Tryz.func223.trans (congrArg some (by kernel_rfl))
  f266 := Tryz.func226.trans (congrArg some (by kernel_rfl))
  f267 := Tryz.func225.trans (congrArg some (by kernel_rfl))
  f314 := Tryz.func228.trans (congrArg some (by kernel_rfl))
  t3 := Tryz.underlying3
  a3 := Tryz.isAgg3
  z3 := Tryz.sizeOf3
  v3 := Tryz.zeroValue3
  t4 := Tryz.underlying4
  a4 := Tryz.isAgg4
  z4 := Tryz.sizeOf4
  v4 := Tryz.zeroValue4
  t5 := Tryz.underlying5
  a5 := Tryz.isAgg5
  z5 := Tryz.sizeOf5
  v5 := Tryz.zeroValue5
  t9 := Tryz.underlying9
  a9 := Tryz.isAgg9
  z9 := Tryz.sizeOf9
  v9 := Tryz.zeroValue9
  t46 := Tryz.underlying256
  a46 := Tryz.isAgg256
  z46 := Tryz.sizeOf256
  v46 := Tryz.zeroValue256
  t51 := Tryz.underlying257
  a51 := Tryz.isAgg257
  z51 := Tryz.sizeOf257
  v51 := Tryz.zeroValue257
  t146 := Tryz.underlying258
  a146 := Tryz.isAgg258
  z146 := Tryz.sizeOf258
  v146 := Tryz.zeroValue258
  g1 := by kernel_rfl }
open Go.RowKit Go.Lib in
/-- strings.Index: "Index returns the index of the first instance of substr in s, or -1 if substr is not present in s.": AT A substr OF ONE BYTE c: IT RETURNS 'Lib.indexByte s c'; the world is as it was. (LAID: no walk: one application.) -/
theorem Tryz.strings_Index_one (s : ByteArray) (c : UInt8) (w : World) :
    Calls Tryz.prog 182 #[.string s, .string ⟨#[c]⟩] w fun e w' => e = .returned (.int .i64 (Lib.indexByte s.data.toList c)) ∧ w' = w := Any.strings_Index_one Tryz.lays143 s c w
def Tryz.lays145_ren : Go.Shelf.Ren := ⟨fun | 145 => 143 | 220 => 193 | 219 => 214 | 217 => 219 | 225 => 223 | 224 => 224 | 267 => 225 | 266 => 226 | 314 => 228 | n => n, fun | 9 => 9 | 4 => 4 | 59 => 196 | 3 => 3 | 5 => 5 | 46 => 256 | 146 => 258 | 51 => 257 | n => n, fun | 1 => 0 | n => n⟩
theorem Tryz.lays145 : Go.Proofs.Lays.n145 Tryz.prog Tryz.lays145_ren := {
  mixed := by kernel_rfl
  f145 := Tryz.func143.trans (congrArg some (by kernel_rfl))
  f217 := Tryz.func219.trans (congrArg some (by kernel_rfl))
  f219 := Tryz.func214.trans (congrArg some (by kernel_rfl))
  f220 := Tryz.func193.trans (congrArg some (by kernel_rfl))
  f224 := Tryz.func224.trans (congrArg some (by kernel_rfl))
  f225 := Tryz.func223.trans (congrArg some (by kernel_rfl))
  f266 := Tryz.func226.trans (congrArg some (by kernel_rfl))
  f267 := Tryz.func225.trans (congrArg some (by kernel_rfl))
  f314 := Tryz.func228.trans (congrArg some (by kernel_rfl))
  t3 := Tryz.underlying3
  a3 := Tryz.isAgg3
  z3 := Tryz.sizeOf3
  v3 := Tryz.zeroValue3
  t4 := Tryz.underlying4
  a4 := Tryz.isAgg4
  z4 := Tryz.sizeOf4
  v4 := Tryz.zeroValue4
  t5 := Tryz.underlying5
  a5 := Tryz.isAgg5
  z5 := Tryz.sizeOf5
  v5 := Tryz.zeroValue5
  t9 := Tryz.underlying9
  a9 := Tryz.isAgg9
  z9 := Tryz.sizeOf9
  v9 := Tryz.zeroValue9
  t46 := Tryz.underlying256
  a46 := Tryz.isAgg256
  z46 := Tryz.sizeOf256
  v46 := Tryz.zeroValue256
  t51 := Tryz.underlying257
  a51 := Tryz.isAgg257
  z51 := Tryz.sizeOf257
  v51 := Tryz.zeroValue257
  t59 := Tryz.underlying196
  a59 := Tryz.isAgg196
  z59 := Tryz.sizeOf196
  v59 := Tryz.zeroValue196
  t146 := Tryz.underlying258
  a146 := Tryz.isAgg258
  z146 := Tryz.sizeOf258
  v146 := Tryz.zeroValue258
  g1 := by kernel_rfl }
open Go.RowKit Go.Lib in
/-- strings.Cut: "Cut slices s around the first instance of sep, returning the text before and after sep. The found result reports whether sep appears in s. If sep does not appear in s, cut returns s, "", false.": IT RETURNS 'Lib.cut s sep'; the world is as it was but for the count of draws. (LAID: no walk: one application.) -/
theorem Tryz.strings_Cut (s sep : ByteArray) (m : Int) (w : World) (hs : s.size < 4294967281) (hm : w.cell? ⟨0, 0, none⟩ = some (.int .i64 m)) :
    Calls Tryz.prog 143 #[.string s, .string sep] w fun e w' => e = .returned (.tuple #[.string ⟨(Lib.cut s.data.toList sep.data.toList).1.toArray⟩, .string ⟨(Lib.cut s.data.toList sep.data.toList).2.1.toArray⟩, .bool (Lib.cut s.data.toList sep.data.toList).2.2]) ∧ ∃ n, w' = w.drewN n := Any.strings_Cut Tryz.lays145 s sep m w hs hm
def Tryz.lays138_ren : Go.Shelf.Ren := ⟨fun | 138 => 118 | 195 => 180 | 218 => 181 | 143 => 182 | 219 => 214 | 217 => 219 | 225 => 223 | 224 => 224 | 267 => 225 | 266 => 226 | 314 => 228 | n => n, fun | 9 => 9 | 3 => 3 | 4 => 4 | 5 => 5 | 0 => 0 | 46 => 256 | 146 => 258 | 51 => 257 | n => n, fun | 1 => 0 | n => n⟩
theorem Tryz.lays138 : Go.Proofs.Lays.n138 Tryz.prog Tryz.lays138_ren := {
  mixed := by kernel_rfl
  f138 := Tryz.func118.trans (congrArg some (by kernel_rfl))
  f143 := Tryz.func182.trans (congrArg some (by kernel_rfl))
  f195 := Tryz.func180.trans (congrArg some (by kernel_rfl))
  f217 := Tryz.func219.trans (congrArg some (by kernel_rfl))
  f218 := Tryz.func181.trans (congrArg some (by kernel_rfl))
  f219 := Tryz.func214.trans (congrArg some (by kernel_rfl))
  f224 := Tryz.func224.trans (congrArg some (by kernel_rfl))
  f225 := Tryz.func223.trans (congrArg some (by kernel_rfl))
  f266 := Tryz.func226.trans (congrArg some (by kernel_rfl))
  f267 := Tryz.func225.trans (congrArg some (by kernel_rfl))
  f314 := Tryz.func228.trans (congrArg some (by kernel_rfl))
  t0 := Tryz.underlying0
  a0 := Tryz.isAgg0
  z0 := Tryz.sizeOf0
  v0 := Tryz.zeroValue0
  t3 := Tryz.underlying3
  a3 := Tryz.isAgg3
  z3 := Tryz.sizeOf3
  v3 := Tryz.zeroValue3
  t4 := Tryz.underlying4
  a4 := Tryz.isAgg4
  z4 := Tryz.sizeOf4
  v4 := Tryz.zeroValue4
  t5 := Tryz.underlying5
  a5 := Tryz.isAgg5
  z5 := Tryz.sizeOf5
  v5 := Tryz.zeroValue5
  t9 := Tryz.underlying9
  a9 := Tryz.isAgg9
  z9 := Tryz.sizeOf9
  v9 := Tryz.zeroValue9
  t46 := Tryz.underlying256
  a46 := Tryz.isAgg256
  z46 := Tryz.sizeOf256
  v46 := Tryz.zeroValue256
  t51 := Tryz.underlying257
  a51 := Tryz.isAgg257
  z51 := Tryz.sizeOf257
  v51 := Tryz.zeroValue257
  t146 := Tryz.underlying258
  a146 := Tryz.isAgg258
  z146 := Tryz.sizeOf258
  v146 := Tryz.zeroValue258
  g1 := by kernel_rfl }
open Go.RowKit Go.Lib in
/-- strings.Count AT A substr OF ONE BYTE ('hp'): "Count counts the number of non-overlapping instances of substr in s.": IT RETURNS 'Lib.countByte s (that byte)'; the world is as it was. ✋ NO CONTRACT HERE YET at an empty substr (utf8.RuneCountInString) or at a longer one (a loop over strings.Index). (LAID: no walk: one application.) -/
theorem Tryz.strings_Count_one (s : ByteArray) (c : UInt8) (w : World) :
    Calls Tryz.prog 118 #[.string s, .string ⟨#[c]⟩] w fun e w' => e = .returned (.int .i64 (Lib.countByte s.data.toList c)) ∧ w' = w := Any.strings_Count_one Tryz.lays138 s c w
end Go.Proofs
namespace Go.Proofs.YtlcmcknbbmokjaaGreat
open Go.RowKit
/-- The table of powers that strconv reads. -/
def HeldPow (w : World) : Prop := Lib.TabIs Tryz.prog w "internal/strconv.uint64pow10" .u64 Lib.pow10Tab
theorem cat_lists (x y : List UInt8) : (ByteArray.mk x.toArray ++ ByteArray.mk y.toArray) = ⟨(x ++ y).toArray⟩ := ByteArray.mk_append_mk x y
theorem zero_str : (⟨#[48]⟩ : ByteArray).data.toList = [48] := rfl
end Go.Proofs.YtlcmcknbbmokjaaGreat
namespace Go.Proofs.YtlcmcknbbmokjaaGreat
open Go.RowKit
theorem HeldPow.below {w w' : World} (h : HeldPow w) (hb : Below w.heap.size w w') : HeldPow w' := Lib.tabBelow_of_tabIs h _ hb
end Go.Proofs.YtlcmcknbbmokjaaGreat
namespace Go.Proofs.YtlcmcknbbmokjaaGreat
open Go.RowKit
def IsTrue (w : World) (r : Ending) (w' : World) : Prop := r = .returned (.bool true) ∧ Below w.heap.size w w'
theorem qRange_any (n a b : Int) (w : World) :
    Calls Tryz.prog 175 #[.int .i64 n, .int .i64 a, .int .i64 b] w fun r w' => r = .returned (.int .i64 (rng n a b)) ∧ w' = w := by
  by_cases h1 : n < a
  · have H : Hid (rng n a b = 3) := Lib.hid (by unfold rng; rw [if_neg (by omega)])
    go_enter Tryz.func175, Tryz.ntmps175
    go_wp2_with fail
    go_ret
    exact ⟨by rw [H.out]; rfl, rfl⟩
  · by_cases h2 : b < n
    · have H : Hid (rng n a b = 3) := Lib.hid (by unfold rng; rw [if_neg (by omega)])
      go_enter Tryz.func175, Tryz.ntmps175
      go_wp2_with fail
      go_ret
      exact ⟨by rw [H.out]; rfl, rfl⟩
    · have H : Hid (rng n a b = 0) := Lib.hid (by unfold rng; rw [if_pos (by omega)])
      go_enter Tryz.func175, Tryz.ntmps175
      go_wp2_with fail
      go_ret
      exact ⟨by rw [H.out]; rfl, rfl⟩
theorem qCheckDay_any (d : Int) (w : World) :
    Calls Tryz.prog 108 #[.int .i64 d] w fun r w' => r = .returned (.int .i64 (rng d 0 99999)) ∧ w' = w := by
  go_enter Tryz.func108, Tryz.ntmps108
  go_wp2_with (go_at_call 175; refine (qRange_any _ _ _ _).mono ?_; rintro e w' ⟨rfl, rfl⟩)
  go_ret
  exact ⟨rfl, rfl⟩
theorem db28 (y : Int) (h1 : 2000 ≤ y) (h2 : y ≤ 2071) : Cal.db (y + 28) = Cal.db y + 10227 := by unfold Cal.db Cal.lp; omega
theorem leap28 (y : Int) (h1 : 2000 ≤ y) (h2 : y ≤ 2071) : Cal.leap (y + 28) = Cal.leap y := by
  unfold Cal.leap Cal.lp
  exact decide_eq_decide.2 (by omega)
theorem ml28 (y : Int) (m : Nat) (h1 : 2000 ≤ y) (h2 : y ≤ 2071) : Cal.ml (y + 28) m = Cal.ml y m := by unfold Cal.ml; rw [leap28 y h1 h2]
theorem cum28 (y : Int) (m : Nat) (h1 : 2000 ≤ y) (h2 : y ≤ 2071) : Cal.cum (y + 28) m = Cal.cum y m := by
  induction m with
  | zero => rfl
  | succ n ih => rw [Cal.cum, Cal.cum, ih, ml28 y _ h1 h2]
theorem date_dn {d y t : Int} {m : Nat} (h : IsDate d y m t) : Cal.dn y m t = d := by
  have := h.t0
  unfold Cal.dn; omega
theorem date_ml {d y t : Int} {m : Nat} (h : IsDate d y m t) : t ≤ Cal.ml y m := by
  obtain ⟨y1, y2, d1, d2, m1, m2, r1, r2, t0⟩ := h
  obtain ⟨k, rfl⟩ : ∃ k, m = k + 1 := ⟨m - 1, by omega⟩
  simp only [Nat.add_sub_cancel] at *
  rw [Cal.cum] at r2
  omega
theorem day28 {d y t : Int} {m : Nat} (h : IsDate d y m t) (hy : y ≤ 2071) : dayErr (y + 28) m t = 0 ∧ Cal.dn (y + 28) (m : Int).toNat t = d + 10227 := by
  have h1 := h.y1
  have hm := h.m1; have hm2 := h.m2
  have ht := date_t h
  have e : Cal.dn (y + 28) (m : Int).toNat t = d + 10227 := by
    rw [Int.toNat_natCast, ← date_dn h]
    unfold Cal.dn
    rw [db28 y h1 hy, cum28 y _ h1 hy]; omega
  refine ⟨?_, e⟩
  have hdm := Cal.db_mono (y + 1) 2072 (by omega)
  have h72 : Cal.db 2072 = 26298 := by decide
  have hd2 := h.d2
  unfold dayErr dayIn
  rw [rng_ok (by omega) (by omega), rng_ok (by omega) (by omega), rng_ok (by omega) (by omega), if_neg (by simp [fst]), e, Int.toNat_natCast, ml28 y m h1 hy, if_neg (by have := date_ml h; omega)]
theorem wd28 (d : Int) : Cal.wd (d + 10227) = Cal.wd d := by unfold Cal.wd; omega
theorem dayErr_month (y : Int) (k : Nat) (d : Int) (h1 : 2000 ≤ y) (h2 : y ≤ 2272) (hk1 : 1 ≤ k) (hk2 : k ≤ 12) (hd1 : 28 ≤ d) (hd2 : d ≤ 31) : dayErr y k d = if d ≤ Cal.ml y k then 0 else 7 := by
  have hm := Cal.ml_bd y k hk1 hk2
  unfold dayErr dayIn
  rw [rng_ok (by omega) (by omega), rng_ok (by omega) (by omega), rng_ok (by omega) (by omega), if_neg (by simp [fst]), Int.toNat_natCast]
  by_cases h : d ≤ Cal.ml y k
  · obtain ⟨j, rfl⟩ : ∃ j, k = j + 1 := ⟨k - 1, by omega⟩
    have hc := cum_le y (j + 1) 12 (by omega) (by omega)
    have h12 := Cal.cum_12 y
    have hs := Cal.db_succ y
    have hmo := Cal.db_mono (y + 1) 2273 (by omega)
    have h73 := Cal.db_2273
    have : Cal.dn y (j + 1) d ≤ 99999 := by
      unfold Cal.dn
      rw [Cal.cum] at hc
      simp only [Nat.add_sub_cancel]
      omega
    rw [if_neg (by omega), if_pos h]
  · rw [if_pos (by omega), if_neg h]
theorem err11 (y : Int) (h1 : 2000 ≤ y) (h2 : y ≤ 2273) : dayErr y 1 1 = 0 ∧ Cal.dn y (1 : Int).toNat 1 = Cal.db y := by
  have e : Cal.dn y (1 : Int).toNat 1 = Cal.db y := by
    show Cal.db y + 1 - 1 + Cal.cum y 0 = _
    simp [Cal.cum]
  refine ⟨?_, e⟩
  have hmo := Cal.db_mono y 2273 h2
  have h73 := Cal.db_2273
  have hm : Cal.ml y (1 : Int).toNat = 31 := by rw [show (1 : Int).toNat = 1 from rfl, Cal.ml_ne y 1 (by decide)]; rfl
  unfold dayErr dayIn
  rw [rng_ok (by omega) (by omega), rng_ok (by omega) (by omega), rng_ok (by omega) (by omega), if_neg (by simp [fst]), hm, e, if_neg (by omega)]
def lastOf (l : Int) (j : Nat) : Int := if j = 28 then 0 else if (j : Int) - 1 ≤ l then (j : Int) - 1 else l
theorem lastOf_28 (l : Int) : lastOf l 28 = 0 := by unfold lastOf; rw [if_pos rfl]
theorem lastOf_ok (l : Int) (j : Nat) (h : 28 ≤ j) (h2 : (j : Int) ≤ l) : lastOf l (j + 1) = j := by
  unfold lastOf; rw [if_neg (by omega), if_pos (by omega)]; omega
theorem lastOf_no (l : Int) (j : Nat) (h : 28 ≤ j) (hl : 28 ≤ l) (h2 : l < j) : lastOf l (j + 1) = lastOf l j := by
  unfold lastOf
  rw [if_neg (by omega), if_neg (by omega), if_neg (by omega)]
  by_cases h3 : (j : Int) - 1 ≤ l
  · rw [if_pos h3]; omega
  · rw [if_neg h3]
theorem lastOf_end (l : Int) (h : l ≤ 31) : lastOf l 32 = l := by
  unfold lastOf; rw [if_neg (by omega)]; split <;> omega
end Go.Proofs.YtlcmcknbbmokjaaGreat
namespace Go.Proofs.YtlcmcknbbmokjaaGreat
def zm (m : Int) : Int := if m < 3 then m + 12 else m
def zy (y m : Int) : Int := if m < 3 then y - 1 else y
theorem zm_lo {m : Int} (h : m < 3) : zm m = m + 12 := if_pos h
theorem zm_hi {m : Int} (h : 3 ≤ m) : zm m = m := if_neg (by omega)
theorem zy_lo {y m : Int} (h : m < 3) : zy y m = y - 1 := if_pos h
theorem zy_hi {y m : Int} (h : 3 ≤ m) : zy y m = y := if_neg (by omega)
theorem lv_eq (y : Int) : Cal.lv y = Cal.lp y - Cal.lp (y - 1) := by
  have h := Cal.lp_step y
  unfold Cal.lv Cal.leap
  by_cases e : Cal.lp (y - 1) < Cal.lp y
  · rw [decide_eq_true e, if_pos rfl]; omega
  · rw [decide_eq_false e, if_neg (by decide)]; omega
theorem zeller {d y t : Int} {m : Nat} (h : IsDate d y m t) : (t + 13 * (zm m + 1) / 5 + zy y m + zy y m / 4 - zy y m / 100 + zy y m / 400 + 5) % 7 = Cal.wd d := by
  obtain ⟨y1, y2, d1, d2, m1, m2, r1, r2, t0⟩ := h
  have hl := lv_eq y
  have hdb : Cal.db y = 365 * (y - 2000) + Cal.lp (y - 1) - 484 := rfl
  have hp : Cal.lp y = y / 4 - y / 100 + y / 400 := rfl
  have hq : Cal.lp (y - 1) = (y - 1) / 4 - (y - 1) / 100 + (y - 1) / 400 := rfl
  unfold Cal.wd
  clear r1 r2 d1 d2
  match m, m1, m2 with
  | 1, _, _ => rw [show Cal.cum y (1 - 1) = 0 from rfl] at t0; clear hp; rw [zm_lo (by decide), zy_lo (by decide)]; omega
  | 2, _, _ => rw [show (2 - 1 : Nat) = 1 from rfl, Cal.cum_1] at t0; clear hp; rw [zm_lo (by decide), zy_lo (by decide)]; omega
  | 3, _, _ => rw [show (3 - 1 : Nat) = 2 from rfl, Cal.cum_2] at t0; clear hq; rw [zm_hi (by decide), zy_hi (by decide)]; omega
  | 4, _, _ => rw [show (4 - 1 : Nat) = 3 from rfl, Cal.cum_3] at t0; clear hq; rw [zm_hi (by decide), zy_hi (by decide)]; omega
  | 5, _, _ => rw [show (5 - 1 : Nat) = 4 from rfl, Cal.cum_4] at t0; clear hq; rw [zm_hi (by decide), zy_hi (by decide)]; omega
  | 6, _, _ => rw [show (6 - 1 : Nat) = 5 from rfl, Cal.cum_5] at t0; clear hq; rw [zm_hi (by decide), zy_hi (by decide)]; omega
  | 7, _, _ => rw [show (7 - 1 : Nat) = 6 from rfl, Cal.cum_6] at t0; clear hq; rw [zm_hi (by decide), zy_hi (by decide)]; omega
  | 8, _, _ => rw [show (8 - 1 : Nat) = 7 from rfl, Cal.cum_7] at t0; clear hq; rw [zm_hi (by decide), zy_hi (by decide)]; omega
  | 9, _, _ => rw [show (9 - 1 : Nat) = 8 from rfl, Cal.cum_8] at t0; clear hq; rw [zm_hi (by decide), zy_hi (by decide)]; omega
  | 10, _, _ => rw [show (10 - 1 : Nat) = 9 from rfl, Cal.cum_9] at t0; clear hq; rw [zm_hi (by decide), zy_hi (by decide)]; omega
  | 11, _, _ => rw [show (11 - 1 : Nat) = 10 from rfl, Cal.cum_10] at t0; clear hq; rw [zm_hi (by decide), zy_hi (by decide)]; omega
  | 12, _, _ => rw [show (12 - 1 : Nat) = 11 from rfl, Cal.cum_11] at t0; clear hq; rw [zm_hi (by decide), zy_hi (by decide)]; omega
theorem date_uniq {d y t y' t' : Int} {m m' : Nat} (h : IsDate d y m t) (h' : IsDate d y' m' t') : y = y' ∧ m = m' ∧ t = t' := (date_eq_iff h h').2 rfl
theorem cum_step (y : Int) (m : Nat) (h : 1 ≤ m) : Cal.cum y m = Cal.cum y (m - 1) + Cal.ml y m := by
  obtain ⟨j, rfl⟩ : ∃ j, m = j + 1 := ⟨m - 1, by omega⟩
  rfl
theorem date_last : IsDate 99999 2273 10 15 := by constructor <;> decide
/-- The date of the next day. -/
theorem date_next {d y t y' t' : Int} {m m' : Nat} (h : IsDate d y m t) (h1 : d < 99999) (h' : IsDate (d + 1) y' m' t') :
    (1 < t' ∧ y' = y ∧ m' = m ∧ t' = t + 1) ∨ (t' = 1 ∧ 28 ≤ t ∧ ((y' = y ∧ m' = m + 1) ∨ (y' = y + 1 ∧ m' = 1 ∧ m = 12 ∧ t = 31))) := by
  have hml := date_ml h
  have ht := date_t h
  have hb := Cal.ml_bd y m h.m1 h.m2
  have hc := cum_step y m h.m1
  have H := h
  obtain ⟨y1, y2, d1, d2, m1, m2, r1, r2, t0⟩ := h
  by_cases e : t + 1 ≤ Cal.ml y m
  · have : Cal.cum y m ≤ 365 + Cal.lv y := by have := cum_le y m 12 m2 (by omega); rw [Cal.cum_12] at this; exact this
    have hs := Cal.db_succ y
    have hn : IsDate (d + 1) y m (t + 1) := ⟨y1, y2, by omega, by omega, m1, m2, by omega, by omega, by omega⟩
    obtain ⟨a, b, c⟩ := date_uniq h' hn
    exact .inl ⟨by omega, a, b, c⟩
  · have et : t = Cal.ml y m := by omega
    by_cases em : m < 12
    · have hc2 := cum_step y (m + 1) (by omega)
      have hb2 := Cal.ml_bd y (m + 1) (by omega) (by omega)
      have : Cal.cum y (m + 1) ≤ 365 + Cal.lv y := by have := cum_le y (m + 1) 12 (by omega) (by omega); rw [Cal.cum_12] at this; exact this
      have hs := Cal.db_succ y
      rw [show m + 1 - 1 = m from rfl] at hc2
      have hn : IsDate (d + 1) y (m + 1) 1 := ⟨y1, y2, by omega, by omega, by omega, by omega, by rw [show m + 1 - 1 = m from rfl]; omega, by omega, by rw [show m + 1 - 1 = m from rfl]; omega⟩
      obtain ⟨a, b, c⟩ := date_uniq h' hn
      exact .inr ⟨c, by omega, .inl ⟨a, b⟩⟩
    · obtain rfl : m = 12 := by omega
      have h12 := Cal.cum_12 y
      have hs := Cal.db_succ y
      have hs2 := Cal.db_succ (y + 1)
      have hl2 := Cal.lv_bd (y + 1)
      have e31 : Cal.ml y 12 = 31 := by rw [Cal.ml_ne y 12 (by decide)]; rfl
      have hy : y + 1 ≤ 2273 := by
        have : ¬ y = 2273 := by
          rintro rfl
          have : Cal.db (2273 + 1) = 100077 := by decide
          omega
        omega
      have hn : IsDate (d + 1) (y + 1) 1 1 := ⟨by omega, hy, by omega, by omega, by omega, by omega, by rw [show Cal.cum (y + 1) (1 - 1) = 0 from rfl]; omega, by rw [Cal.cum_1]; omega, by rw [show Cal.cum (y + 1) (1 - 1) = 0 from rfl]; omega⟩
      obtain ⟨a, b, c⟩ := date_uniq h' hn
      exact .inr ⟨c, by omega, .inr ⟨a, b, rfl, by omega⟩⟩
end Go.Proofs.YtlcmcknbbmokjaaGreat
namespace Go.Proofs.YtlcmcknbbmokjaaGreat
open Go Go.RowKit
theorem leap_4 {y : Int} (h : y % 4 ≠ 0) : Cal.leap y = false := by unfold Cal.leap Cal.lp; exact decide_eq_false (by omega)
theorem leap_100 {y : Int} (h4 : y % 4 = 0) (h : y % 100 ≠ 0) : Cal.leap y = true := by unfold Cal.leap Cal.lp; exact decide_eq_true (by omega)
theorem leap_400 {y : Int} (h : y % 400 = 0) : Cal.leap y = true := by unfold Cal.leap Cal.lp; exact decide_eq_true (by omega)
theorem leap_no {y : Int} (h1 : y % 100 = 0) (h : y % 400 ≠ 0) : Cal.leap y = false := by unfold Cal.leap Cal.lp; exact decide_eq_false (by omega)
theorem cum_bd2 (y : Int) (k : Nat) (h1 : 1 ≤ k) (h : k ≤ 12) : 0 ≤ Cal.cum y (k - 1) ∧ Cal.cum y (k - 1) ≤ 341 ∧ Cal.cum y k = Cal.cum y (k - 1) + Cal.ml y k := by
  have := Cal.cum_bd y (k - 1) (by omega)
  exact ⟨by omega, by omega, cum_step y k h1⟩
end Go.Proofs.YtlcmcknbbmokjaaGreat
namespace Go.Proofs.YtlcmcknbbmokjaaGreat
open Go Go.RowKit
theorem eqIn_int (d : Nat) (a b : Int) (w : World) : (Op.equalIn (d + 1) 3 (.int .i64 a) (.int .i64 b)).run Tryz.prog w = .ok (a == b) w := run_equalIn_int w d 3 .i64 .i64 a b Tryz.underlying3
theorem b_drewN {B : Nat} {a w : World} (h : Below B a w) (n : Nat) : Below B a (w.drewN n) := h.trans ⟨rfl, rfl, rfl, Nat.le_refl _, fun _ _ => rfl⟩
end Go.Proofs.YtlcmcknbbmokjaaGreat
namespace Go.Proofs.YtlcmcknbbmokjaaGreat
open Go Go.RowKit
def wideL : Nat → Nat → List UInt8
  | _, 0 => []
  | n, k + 1 => wideL (n / 10) k ++ [dig (n % 10)]
theorem wide_2 (n : Nat) (h : n < 100) : wideL n 2 = pad2 n := by
  simp only [wideL, pad2, List.nil_append, List.cons_append]
  rw [show n / 10 % 10 = n / 10 by omega]
theorem wide_4 (n : Nat) (h : n < 10000) : wideL n 4 = pad4 n := by
  simp only [wideL, pad4, pad2, List.nil_append, List.cons_append]
  rw [show n / 10 / 10 / 10 % 10 = n / 100 / 10 by omega, show n / 10 / 10 % 10 = n / 100 % 10 by omega, show n / 10 % 10 = n % 100 / 10 by omega, show n % 10 = n % 100 % 10 by omega]
theorem qdigit_any (n : Nat) (w : World) (h : n < 10) :
    Calls Tryz.prog 199 #[.int .i64 n] w fun r w' => r = .returned (.string ⟨#[dig n]⟩) ∧ w' = w := by
  have hn : n = 0 ∨ n = 1 ∨ n = 2 ∨ n = 3 ∨ n = 4 ∨ n = 5 ∨ n = 6 ∨ n = 7 ∨ n = 8 ∨ n = 9 := by omega
  rcases hn with rfl | rfl | rfl | rfl | rfl | rfl | rfl | rfl | rfl | rfl
  all_goals
    go_enter Tryz.func199, Tryz.ntmps199
    go_wp2_with fail
    go_ret
    exact ⟨by rfl, rfl⟩
end Go.Proofs.YtlcmcknbbmokjaaGreat
namespace Go.Proofs.YtlcmcknbbmokjaaGreat
open Go Go.RowKit
theorem wideL_len : ∀ k n, (wideL n k).length = k := fun k => by
  induction k with
  | zero => intro n; rfl
  | succ k ih => intro n; simp [wideL, ih]
theorem wideL_get (k : Nat) : ∀ (n j : Nat) (h : j < (wideL n k).length), (wideL n k)[j] = dig (n / 10 ^ (k - 1 - j) % 10) := by
  induction k with
  | zero => intro n j h; simp [wideL] at h
  | succ k ih =>
    intro n j h
    rw [wideL_len] at h
    have hl := wideL_len k (n / 10)
    simp only [wideL]
    rcases Nat.lt_or_ge j k with hj | hj
    · rw [List.getElem_append_left (by omega), ih (n / 10) j (by omega)]
      rw [Nat.div_div_eq_div_mul, show k + 1 - 1 - j = (k - 1 - j) + 1 by omega, Nat.pow_succ, Nat.mul_comm]
    · obtain rfl : j = k := by omega
      rw [List.getElem_append_right (by omega)]
      simp [hl]
theorem wideL_more (k : Nat) : ∀ n, n < 10 ^ k → wideL n (k + 1) = dig 0 :: wideL n k := by
  induction k with
  | zero => intro n h; obtain rfl : n = 0 := (by simpa using h); rfl
  | succ k ih =>
    intro n h
    have := ih (n / 10) (by rw [Nat.pow_succ] at h; omega)
    show wideL (n / 10) (k + 1) ++ [dig (n % 10)] = dig 0 :: (wideL (n / 10) k ++ [dig (n % 10)])
    rw [this]; rfl
/-- A number with a width. -/
def widT (n k : Nat) : ByteArray := ⟨(wideL n k).toArray⟩
/-- A block of n bytes that the call has made. -/
structure RowB (w : World) (b n : Nat) (g : Nat → Nat) (W : World) : Prop where
  c : ∀ i, i < n → W.cell? ⟨b, i, none⟩ = some (.int .u8 (g i : Nat))
  f : ∀ i, i < n → W.frozen? ⟨b, i, none⟩ = false
  lo : w.heap.size ≤ b
  below : Below w.heap.size w W
theorem RowB.set {w W : World} {b n : Nat} {g : Nat → Nat} (h : RowB w b n g W) (k : Nat) (hk : k < n) (v : Nat) : RowB w b n (fun i => if i = k then v else g i) (W.setCell ⟨b, k, none⟩ (.int .u8 (v : Nat))) :=
  ⟨fun i hi => by
    by_cases e : i = k
    · subst e; rw [if_pos rfl]; exact set_same (h.c i hk)
    · rw [if_neg e]; exact set_other (h.c i hi) (by intro e2; cases e2; exact e rfl), fun i hi => by rw [World.frozen?_setCell]; exact h.f i hi, h.lo, h.below.setCell (p := ⟨b, k, none⟩) h.lo (.int .u8 v)⟩
theorem RowB.congr {w W : World} {b n : Nat} {g g' : Nat → Nat} (h : RowB w b n g W) (e : ∀ i, i < n → g i = g' i) : RowB w b n g' W :=
  ⟨fun i hi => by rw [← e i hi]; exact h.c i hi, h.f, h.lo, h.below⟩
theorem madeB_at (n i : Nat) (hi : i < n) : (madeCells #[Value.int .u8 0] n)[i]? = some (.int .u8 0) := by
  simp [madeCells, hi, Nat.mod_one]
theorem RowB.made (w : World) (n : Nat) (T : TypeId) : RowB w w.heap.size n (fun _ => 0) (w.alloc (.cells (madeCells #[Value.int .u8 0] n) T)) :=
  have hh : (w.alloc (.cells (madeCells #[Value.int .u8 0] n) T)).heap[w.heap.size]? = some (.cells (madeCells #[Value.int .u8 0] n) T (0, 0)) := by show (w.heap.push _)[_]? = _; simp
  have hc : ∀ i, i < n → (w.alloc (.cells (madeCells #[Value.int .u8 0] n) T)).cell? ⟨w.heap.size, i, none⟩ = some (.int .u8 0) := fun i hi => by
    simp only [World.cell?, hh]
    simpa using madeB_at n i hi
  ⟨hc, fun i hi => by
    unfold World.frozen?
    simp only [hh]
    simp, Nat.le_refl _, below_alloc _ _⟩
theorem run_makeBytes (n : Nat) (hn : n ≤ 100000) (w : World) : (Instr.makeSlice 204 (.int .i64 n) (.int .i64 n)).run Tryz.prog w = .ok (.slice (some ⟨w.heap.size, 0, none⟩) n n) (w.alloc (.cells (madeCells #[Value.int .u8 0] n) 5)) := by
  have hi : Tryz.prog.info? 5 = some Tryz.prog.types[5]! := by kernel_rfl
  have := run_make (P := Tryz.prog) w 204 5 Tryz.prog.types[5]! (.int .u8 0) Tryz.underlying204 hi (by kernel_rfl) .i64 .i64 n n (by omega) (Int.le_refl _) (by rw [show (Tryz.prog.types[5]!).bytes = 1 from by kernel_rfl]; omega) (by omega)
  rw [show (Tryz.prog.types[5]!).size = 1 from by kernel_rfl, Nat.mul_one, Int.toNat_natCast] at this
  exact this
/-- The digit at a place, once k digits from the right stand. -/
def digF (n k t : Nat) : Nat → Nat := fun j => if k - t ≤ j then 48 + n / 10 ^ (k - 1 - j) % 10 else 0
theorem dig_add (a b : Nat) (h : a = b) : a + 0 = b := h
set_option maxRecDepth 100000 in
set_option maxHeartbeats 1000000 in
theorem digits_any (n k : Nat) (w : World) (hk : k ≤ 9) (hn : n ≤ 10000000) :
    Calls Tryz.prog 115 #[.int .i64 n, .int .i64 k] w fun e w' => e = .returned (.string (widT n k)) ∧ Below w.heap.size w w' := by
  have hmk := run_makeBytes k (by omega)
  go_enter Tryz.func115, Tryz.ntmps115
  go_wp2_with fail
  have R0 := RowB.made w k 5
  clear hmk
  go_loopw [0, 6, 10] (fun m _ i wr => ∃ t : Nat, t ≤ k ∧ i = .int .i64 t ∧ m = .int .i64 ((n / 10 ^ t : Nat) : Int) ∧ RowB w w.heap.size k (digF n k t) wr) (fun _ _ i _ => k - (intOf i).toNat)
  case atStart => exact ⟨0, Nat.zero_le _, rfl, by simp, R0.congr fun i hi => by unfold digF; rw [if_neg (by omega)]⟩
  case round =>
    obtain ⟨t, ht, rfl, rfl, hr⟩ := hrel
    by_cases hlt : t < k
    · have hc := hr.c (k - 1 - t) (by omega)
      have hf := hr.f (k - 1 - t) (by omega)
      have hq : n / 10 ^ t ≤ n := Nat.div_le_self _ _
      have hnext : n / 10 ^ (t + 1) = n / 10 ^ t / 10 := by rw [Nat.pow_succ, Nat.div_div_eq_div_mul]
      have hset := (hr.set (k - 1 - t) (by omega) (48 + n / 10 ^ t % 10)).congr (g' := digF n k (t + 1)) fun i hi => by
        unfold digF
        by_cases e : i = k - 1 - t
        · rw [if_pos e, if_pos (by omega), show k - 1 - i = t by omega]
        · rw [if_neg e]
          by_cases e2 : k - t ≤ i
          · rw [if_pos e2, if_pos (by omega)]
          · rw [if_neg e2, if_neg (by omega)]
      have HS := Lib.hid hset
      have HN := Lib.hid hnext
      clear hset hnext
      generalize n / 10 ^ t = m at *
      have hix : (k : Int) - 1 - (t : Int) = ((k - 1 - t : Nat) : Int) := by omega
      have hw8 : IntKind.u8.wrap (48 + (m : Int) % 10) = 48 + (m : Int) % 10 := by
        have h1 : m % 10 < 10 := Nat.mod_lt _ (by decide)
        have h2 : (48 + (m : Int) % 10) = ((48 + m % 10 : Nat) : Int) := by omega
        have h3 : ∀ d, d < 10 → IntKind.u8.wrap (((48 + d : Nat)) : Int) = ((48 + d : Nat) : Int) := by decide +kernel
        rw [h2]; exact h3 _ h1
      have hb1 : (0 : Int) ≤ (k : Int) - 1 - (t : Int) := by omega
      have hb2 : (k : Int) - 1 - (t : Int) < (k : Int) := by omega
      go_wp2_with fail
      go_roundw
      case rel => exact ⟨t + 1, by omega, by go_num, by rw [HN.out]; go_num, by simpa using HS.out⟩
      case measure => simp [intOf]; omega
    · obtain rfl : t = k := by omega
      have hb := hr.below
      have hcv : (convert 204 9 (.slice (some ⟨w.heap.size, 0, none⟩) t t)).run Tryz.prog wr = .ok (.string (widT n t)) wr := by
        have := run_convert_bytes_back wr 204 9 5 ⟨w.heap.size, 0, none⟩ t (wideL n t) Tryz.underlying204 Tryz.underlying5 Tryz.underlying9 (fun j hj => by
          have hj' : j < t := by rwa [wideL_len] at hj
          rw [wideL_get t n j hj, dig_toNat _ (Nat.mod_lt _ (by decide))]
          have e : (⟨w.heap.size, 0, none⟩ : Addr).add j = ⟨w.heap.size, j, none⟩ := by
            unfold Addr.add
            by_cases h : j = 0 <;> simp [h]
          rw [e, hr.c j hj']
          unfold digF
          rw [if_pos (by omega)])
        rwa [wideL_len] at this
      go_wp2_with fail
      go_ret
      exact ⟨rfl, hb⟩
/-- The width of a number. -/
def ndig : Nat → Nat → Nat
  | 0, _ => 1
  | f + 1, n => if n < 10 then 1 else ndig f (n / 10) + 1
theorem ndig_pow (f : Nat) : ∀ n, n < 10 ^ (f + 1) → n < 10 ^ ndig f n ∧ ndig f n ≤ f + 1 ∧ 1 ≤ ndig f n ∧ (∀ k, n < 10 ^ k → 1 ≤ k → ndig f n ≤ k) := by
  induction f with
  | zero => intro n h; exact ⟨h, Nat.le_refl _, Nat.le_refl _, fun k _ hk => hk⟩
  | succ f ih =>
    intro n h
    unfold ndig
    split
    · rename_i h10
      exact ⟨by simpa using h10, by omega, Nat.le_refl _, fun k _ hk => hk⟩
    · rename_i h10
      obtain ⟨h1, h2, h3, h4⟩ := ih (n / 10) (by rw [Nat.pow_succ] at h; omega)
      refine ⟨by rw [Nat.pow_succ]; omega, by omega, by omega, fun k hk hk1 => ?_⟩
      cases k with
      | zero => omega
      | succ k =>
        have hkp : 1 ≤ k := by
          rcases Nat.eq_zero_or_pos k with h0 | h0
          · subst h0; simp at hk; omega
          · exact h0
        have := h4 k (by rw [Nat.pow_succ] at hk; omega) hkp
        omega
theorem qText_any (f : Nat) : ∀ (n : Nat) (w : World), f ≤ 8 → n < 10 ^ (f + 1) →
    Calls Tryz.prog 153 #[.int .i64 n] w fun r w' => r = .returned (.string (widT n (ndig f n))) ∧ w' = w := by
  induction f with
  | zero =>
    intro n w hf hn
    have h10 : (n : Int) < 10 := by simp at hn; omega
    have HT : Hid (widT n (ndig 0 n) = ⟨#[dig n]⟩) := Lib.hid (by unfold widT ndig wideL wideL; rw [Nat.mod_eq_of_lt (by omega)]; rfl)
    have HD := Lib.hid (fun w => qdigit_any n w (by omega))
    go_enter Tryz.func153, Tryz.ntmps153
    go_wp2_with fail
    refine (HD.out _).mono ?_
    rintro e w1 ⟨rfl, hw⟩
    rw [hw]
    clear hw
    go_wp2_with fail
    go_ret
    exact ⟨by rw [HT.out]; rfl, rfl⟩
  | succ f ih =>
    intro n w hf hn
    have hmax : 10 ^ (f + 1 + 1) ≤ 10 ^ 10 := Nat.pow_le_pow_right (by decide) (by omega)
    by_cases h10 : n < 10
    · have h10' : (n : Int) < 10 := by omega
      have HT : Hid (widT n (ndig (f + 1) n) = ⟨#[dig n]⟩) := Lib.hid (by unfold widT ndig; rw [if_pos h10]; unfold wideL wideL; rw [Nat.mod_eq_of_lt (by omega)]; rfl)
      have HD := Lib.hid (fun w => qdigit_any n w (by omega))
      clear hn hmax ih
      go_enter Tryz.func153, Tryz.ntmps153
      go_wp2_with fail
      refine (HD.out _).mono ?_
      rintro e w1 ⟨rfl, hw⟩
      rw [hw]
      clear hw
      go_wp2_with fail
      go_ret
      exact ⟨by rw [HT.out]; rfl, rfl⟩
    · have h10' : ¬ (n : Int) < 10 := by omega
      have hb : n < 10000000000 := by
        have : (10 : Nat) ^ 10 = 10000000000 := by decide
        omega
      have hn2 : n / 10 < 10 ^ (f + 1) := by rw [Nat.pow_succ] at hn; omega
      obtain ⟨h1, h2, h3, -⟩ := ndig_pow f (n / 10) hn2
      have HI := Lib.hid (fun w => ih (n / 10) w (by omega) hn2)
      have HD := Lib.hid (fun w => qdigit_any (n % 10) w (by omega))
      have HT : Hid (widT (n / 10) (ndig f (n / 10)) ++ ⟨#[dig (n % 10)]⟩ = widT n (ndig (f + 1) n)) := Lib.hid (by
        unfold widT
        rw [cat_lists _ [dig (n % 10)]]
        show _ = (⟨(wideL n (if n < 10 then 1 else ndig f (n / 10) + 1)).toArray⟩ : ByteArray)
        rw [if_neg h10]; rfl)
      have HS : Hid ((widT (n / 10) (ndig f (n / 10))).size ≤ 20) := Lib.hid (by
        show (wideL (n / 10) (ndig f (n / 10))).toArray.size ≤ 20
        rw [List.size_toArray, wideL_len]; omega)
      generalize widT (n / 10) (ndig f (n / 10)) = t at *
      have hs := HS.out
      clear hn hn2 hmax ih h1 h2 h3 h10
      go_enter Tryz.func153, Tryz.ntmps153
      go_wp2_with fail
      refine (HI.out _).mono ?_
      rintro e w1 ⟨rfl, hw⟩
      rw [hw]
      clear hw
      go_wp2_with fail
      refine (HD.out _).mono ?_
      rintro e w2 ⟨rfl, hw⟩
      rw [hw]
      clear hw
      go_wp2_with fail
      go_ret
      exact ⟨by rw [HT.out]; rfl, rfl⟩
theorem widT_size (n k : Nat) : (widT n k).size = k := by
  show (wideL n k).toArray.size = k
  rw [List.size_toArray, wideL_len]
set_option maxRecDepth 100000 in
theorem qwide2_any (n k : Nat) (w : World) (hk : 1 ≤ k) (hk9 : k ≤ 9) (hn : n < 10 ^ k) :
    Calls Tryz.prog 80 #[.int .i64 n, .int .i64 k] w fun r w' => r = .returned (.string (widT n k)) ∧ Below w.heap.size w w' := by
  have hp : 10 ^ k ≤ 10 ^ (8 + 1) := Nat.pow_le_pow_right (by decide) hk9
  obtain ⟨h1, h2, h3, h4⟩ := ndig_pow 8 n (by omega)
  have hle := h4 k hn hk
  have HT := Lib.hid (fun w => qText_any 8 n w (by omega) (by omega))
  have HM : Hid (∀ j, ndig 8 n ≤ j → (⟨#[48]⟩ : ByteArray) ++ widT n j = widT n (j + 1)) := Lib.hid (fun j hj => by
    have hj2 : n < 10 ^ j := Nat.lt_of_lt_of_le h1 (Nat.pow_le_pow_right (by decide) hj)
    unfold widT
    rw [wideL_more j n hj2, cat_lists [48]]
    rfl)
  clear hp hn h1 h4
  generalize ndig 8 n = d at *
  go_enter Tryz.func80, Tryz.ntmps80
  go_wp2_with fail
  refine (HT.out _).mono ?_
  rintro e w1 ⟨rfl, hw⟩
  rw [hw]
  clear hw
  go_wp2_with fail
  go_loopw [5] (fun s wr => ∃ j : Nat, d ≤ j ∧ j ≤ k ∧ s = .string (widT n j) ∧ wr = w) (fun s _ => k - (match s with | .string b => b.size | _ => 0))
  case atStart => exact ⟨d, Nat.le_refl _, hle, rfl, rfl⟩
  case round =>
    obtain ⟨j, hj, hjk, rfl, rfl⟩ := hrel
    have hsz := widT_size n j
    by_cases hlt : j < k
    · have HJ := Lib.hid (HM.out j hj)
      have HZ := Lib.hid (widT_size n (j + 1))
      have HZ0 := Lib.hid hsz
      have hlt' : ((widT n j).size : Int) < k := by omega
      generalize widT n j = t at *
      go_wp2_with fail
      go_roundw
      case rel => exact ⟨j + 1, by omega, by omega, by rw [← HJ.out], trivial⟩
      case measure => rw [HJ.out]; simp only [HZ.out, HZ0.out]; omega
    · obtain rfl : j = k := by omega
      have hlt' : ¬ ((widT n j).size : Int) < j := by omega
      go_wp2_with fail
      go_ret
      exact ⟨rfl, Below.refl _ _⟩
end Go.Proofs.YtlcmcknbbmokjaaGreat
namespace Go.Proofs.YtlcmcknbbmokjaaGreat
open Go Go.RowKit
/-- A call of this function enters it. -/
def Enters (A : FuncId) : Prop := ∀ (args : Array Value) (w : World), (callFunc A args).run Tryz.prog w = .ok (.enter A args) w
theorem enters {f : FuncId} {fn : Func} (hf : Tryz.prog.funcs[f]? = some fn) (hname : (fn.name == "runtime.NumGoroutine") = false) (hb : fn.body.isSome = true) : Enters f := fun args w => by
  have h1 : fn.name ≠ "runtime.NumGoroutine" := by simpa using hname
  cases h2 : fn.body with
  | none => rw [h2] at hb; cases hb
  | some c => simp [callFunc, hf, h1, h2]
/-- A function that gives the address of a part of a line. -/
structure AtF (A : FuncId) (o : Nat) : Prop where
  enter : Enters A
  call : ∀ (b : Nat) (w : World), Calls Tryz.prog A #[.pointer (some ⟨b, 0, none⟩)] w fun e w' => e = .returned (.pointer (some ⟨b, o, none⟩)) ∧ w' = w
theorem line_cell {w W : World} {l : LineV} {T : TypeId} {o : Nat} {v : Value} (hW : w.alloc (.cells l.cells T) = W) (h : l.cells[o]? = some v) : W.cell? ⟨w.heap.size, o, none⟩ = some v := by
  rw [← hW]
  exact cell_fresh w l.cells.toList T o v (by simpa using h)
set_option maxRecDepth 100000 in
set_option maxHeartbeats 1000000 in
theorem textShow (A : FuncId) (o b : Nat) (l : LineV) (t : ByteArray) (w : World) (hA : AtF A o) (hc : l.cells[o]? = some (.string t)) (hb : w.cell? ⟨b, 0, none⟩ = some (fnV A)) :
    Calls Tryz.prog 183 #[.agg l.cells, .pointer (some ⟨b, 0, none⟩)] w fun e w' => e = .returned (.string t) ∧ Below w.heap.size w w' := by
  have kc := line_cell (T := 28) (w := w) rfl hc
  have kb := b_old (below_alloc w (.cells l.cells 28)) hb
  have HB0 := Lib.hid (below_alloc w (.cells l.cells 28))
  have hen := hA.enter
  have hat := hA.call
  unfold Enters at hen
  clear hA
  obtain ⟨act, q⟩ := l
  obtain ⟨name, carrier, kind, terminal, partner, link, x, y, d, m, s, z, n⟩ := q
  simp only [LineV.cells, fnV] at *
  clear hb hc
  go_enter Tryz.func183, Tryz.ntmps183
  go_wp2_with fail
  refine (hat _ _).mono ?_
  rintro e1 w1 ⟨rfl, rfl⟩
  go_wp2_with fail
  go_ret
  exact ⟨rfl, HB0.out⟩
set_option maxRecDepth 100000 in
set_option maxHeartbeats 1000000 in
theorem numShow (A : FuncId) (o b c k n : Nat) (l : LineV) (w : World) (hA : AtF A o) (hc : l.cells[o]? = some (.int .i64 n)) (hb : w.cell? ⟨b, 0, none⟩ = some (fnV A)) (hk : w.cell? ⟨c, 0, none⟩ = some (.int .i64 k)) (hk9 : k ≤ 9) (hn : n ≤ 10000000) :
    Calls Tryz.prog 186 #[.agg l.cells, .pointer (some ⟨b, 0, none⟩), .pointer (some ⟨c, 0, none⟩)] w fun e w' => e = .returned (.string (widT n k)) ∧ Below w.heap.size w w' := by
  obtain ⟨W, HW, hb0⟩ : ∃ W, Hid (w.alloc (.cells l.cells 28) = W) ∧ Below w.heap.size w W := ⟨_, Lib.hid rfl, below_alloc _ _⟩
  have kc : ∀ x : KeptW W, x.v.cell? ⟨w.heap.size, o, none⟩ = _ := fun x => x.cell (line_cell HW.out hc)
  have kb : ∀ x : KeptW W, x.v.cell? ⟨b, 0, none⟩ = _ := fun x => x.cell (b_old hb0 hb)
  have kk : ∀ x : KeptW W, x.v.cell? ⟨c, 0, none⟩ = _ := fun x => x.cell (b_old hb0 hk)
  have hne : Nonempty (KeptW W) := ⟨⟨W, Below.refl _ _⟩⟩
  have hen := hA.enter
  have hat := hA.call
  unfold Enters at hen
  clear hA
  have hd := fun w => digits_any n k w hk9 hn
  obtain ⟨act, q⟩ := l
  obtain ⟨name, carrier, kind, terminal, partner, link, x, y, d, m, s, z, u⟩ := q
  simp only [LineV.cells, fnV] at *
  clear hb hc hk
  go_enter Tryz.func186, Tryz.ntmps186
  go_wp2_with fail
  rw [HW.out]
  clear HW
  refine region_kept (by kernel_rfl) (by kernel_rfl) ?_
  go_big_quiet_step (fail)
  go_big_quiet_step (exact KeptW.calls_same (hat _ _))
  iterate 3 (go_big_quiet_step (fail))
  go_big_quiet_step (exact KeptW.calls (hd _))
  go_big_quiet_step (fail)
  refine wpQuiet_nil ?_
  rintro _ ⟨v, rfl⟩
  have hbv := b_then hb0 v.below
  clear kc kb kk
  go_wp2_with fail
  go_ret
  exact ⟨rfl, hbv⟩
set_option maxRecDepth 100000 in
set_option maxHeartbeats 1000000 in
theorem codeShow (A S : FuncId) (o b c : Nat) (n : Int) (t : ByteArray) (er : Int) (l : LineV) (w : World) (hA : AtF A o) (hc : l.cells[o]? = some (.int .i64 n)) (hb : w.cell? ⟨b, 0, none⟩ = some (fnV A)) (hk : w.cell? ⟨c, 0, none⟩ = some (fnV S))
    (hSe : Enters S) (hS : ∀ w, Calls Tryz.prog S #[.int .i64 n] w fun e w' => e = .returned (.tuple #[.string t, .int .i64 er]) ∧ Below w.heap.size w w') :
    Calls Tryz.prog 188 #[.agg l.cells, .pointer (some ⟨c, 0, none⟩), .pointer (some ⟨b, 0, none⟩)] w fun e w' => e = .returned (.string t) ∧ Below w.heap.size w w' := by
  obtain ⟨W, HW, hb0⟩ : ∃ W, Hid (w.alloc (.cells l.cells 28) = W) ∧ Below w.heap.size w W := ⟨_, Lib.hid rfl, below_alloc _ _⟩
  have kc : ∀ x : KeptW W, x.v.cell? ⟨w.heap.size, o, none⟩ = _ := fun x => x.cell (line_cell HW.out hc)
  have kb : ∀ x : KeptW W, x.v.cell? ⟨b, 0, none⟩ = _ := fun x => x.cell (b_old hb0 hb)
  have kk : ∀ x : KeptW W, x.v.cell? ⟨c, 0, none⟩ = _ := fun x => x.cell (b_old hb0 hk)
  have hne : Nonempty (KeptW W) := ⟨⟨W, Below.refl _ _⟩⟩
  have hen := hA.enter
  have hat := hA.call
  unfold Enters at hen hSe
  clear hA
  obtain ⟨act, q⟩ := l
  obtain ⟨name, carrier, kind, terminal, partner, link, x, y, d, m, s, z, u⟩ := q
  simp only [LineV.cells, fnV] at *
  clear hb hc hk
  go_enter Tryz.func188, Tryz.ntmps188
  go_wp2_with fail
  rw [HW.out]
  clear HW
  refine region_kept (by kernel_rfl) (by kernel_rfl) ?_
  iterate 2 (go_big_quiet_step (fail))
  go_big_quiet_step (exact KeptW.calls_same (hat _ _))
  iterate 2 (go_big_quiet_step (fail))
  go_big_quiet_step (exact KeptW.calls (hS _))
  iterate 5 (go_big_quiet_step (fail))
  refine wpQuiet_nil ?_
  rintro _ ⟨v, rfl⟩
  have hbv := b_then hb0 v.below
  clear kc kb kk
  go_wp2_with fail
  go_ret
  exact ⟨rfl, hbv⟩
/-- A name in a line. -/
def dashT (s : ByteArray) : ByteArray := if (s.toList == []) = true then ⟨#[45]⟩ else s
set_option maxRecDepth 100000 in
set_option maxHeartbeats 1000000 in
theorem optShow (A : FuncId) (o b : Nat) (l : LineV) (t : ByteArray) (w : World) (hA : AtF A o) (hc : l.cells[o]? = some (.string t)) (hb : w.cell? ⟨b, 0, none⟩ = some (fnV A)) :
    Calls Tryz.prog 191 #[.agg l.cells, .pointer (some ⟨b, 0, none⟩)] w fun e w' => e = .returned (.string (dashT t)) ∧ Below w.heap.size w w' := by
  have kc := line_cell (T := 28) (w := w) rfl hc
  have kb := b_old (below_alloc w (.cells l.cells 28)) hb
  have HB0 := Lib.hid (below_alloc w (.cells l.cells 28))
  have hen := hA.enter
  have hat := hA.call
  unfold Enters at hen
  clear hA
  have HD : Hid (dashT t = if (t.toList == []) = true then ⟨#[45]⟩ else t) := Lib.hid rfl
  generalize dashT t = dt at HD ⊢
  obtain ⟨act, q⟩ := l
  obtain ⟨name, carrier, kind, terminal, partner, link, x, y, d, m, s, z, n⟩ := q
  simp only [LineV.cells, fnV] at *
  clear hb hc
  cases he : (t.toList == [])
  · have HE := Lib.hid (show dt = t by rw [HD.out, he]; rfl)
    go_enter Tryz.func191, Tryz.ntmps191
    go_wp2_with fail
    refine (hat _ _).mono ?_
    rintro e1 w1 ⟨rfl, rfl⟩
    go_wp2_with fail
    go_ret
    exact ⟨by rw [HE.out]; rfl, HB0.out⟩
  · have HE := Lib.hid (show dt = ⟨#[45]⟩ by rw [HD.out, he]; rfl)
    go_enter Tryz.func191, Tryz.ntmps191
    go_wp2_with fail
    refine (hat _ _).mono ?_
    rintro e1 w1 ⟨rfl, rfl⟩
    go_wp2_with fail
    go_ret
    exact ⟨by rw [HE.out]; rfl, HB0.out⟩
end Go.Proofs.YtlcmcknbbmokjaaGreat
namespace Go.Proofs.YtlcmcknbbmokjaaGreat
open Go Go.RowKit
theorem made_str (n i : Nat) (hi : i < n) : (madeCells #[Value.string ⟨#[]⟩] n)[i]? = some (.string ⟨#[]⟩) := by
  simp [madeCells, hi, Nat.mod_one]
theorem RowV.madeStr (w : World) (n : Nat) (T : TypeId) : RowV w.heap.size w.heap.size n (fun _ => .string ⟨#[]⟩) w (w.alloc (.cells (madeCells #[Value.string ⟨#[]⟩] n) T)) :=
  have hh : (w.alloc (.cells (madeCells #[Value.string ⟨#[]⟩] n) T)).heap[w.heap.size]? = some (.cells (madeCells #[Value.string ⟨#[]⟩] n) T (0, 0)) := by show (w.heap.push _)[_]? = _; simp
  have hc : ∀ i, i < n → (w.alloc (.cells (madeCells #[Value.string ⟨#[]⟩] n) T)).cell? ⟨w.heap.size, i, none⟩ = some (.string ⟨#[]⟩) := fun i hi => by
    simp only [World.cell?, hh]
    simpa using made_str n i hi
  ⟨hc, fun i hi => by
    unfold World.frozen?
    simp only [hh]
    simp, Nat.le_refl _, below_alloc _ _⟩
theorem RowV.congr {N b n : Nat} {g g' : Nat → Value} {w W : World} (h : RowV N b n g w W) (e : ∀ i, i < n → g i = g' i) : RowV N b n g' w W :=
  ⟨fun i hi => by rw [← e i hi]; exact h.c i hi, h.f, h.lo, h.below⟩
theorem run_makeStrs (n : Nat) (hn : n ≤ 100000) (w : World) : (Instr.makeSlice 133 (.int .i64 n) (.int .i64 n)).run Tryz.prog w = .ok (.slice (some ⟨w.heap.size, 0, none⟩) n n) (w.alloc (.cells (madeCells #[Value.string ⟨#[]⟩] n) 9)) := by
  have hi : Tryz.prog.info? 9 = some Tryz.prog.types[9]! := by kernel_rfl
  have := run_make (P := Tryz.prog) w 133 9 Tryz.prog.types[9]! (.string ⟨#[]⟩) Tryz.underlying133 hi (by kernel_rfl) .i64 .i64 n n (by omega) (Int.le_refl _) (by rw [show (Tryz.prog.types[9]!).bytes = 16 from by kernel_rfl]; omega) (by omega)
  rw [show (Tryz.prog.types[9]!).size = 1 from by kernel_rfl, Nat.mul_one, Int.toNat_natCast] at this
  exact this
/-- A call that has returned a slice of these strings. -/
structure StrsR (e : Ending) (w' : World) (ts : List ByteArray) : Prop where
  ex : ∃ g c, e = .returned (.slice (some ⟨g, 0, none⟩) ts.length c) ∧ ts.length ≤ c ∧ g < w'.heap.size ∧ ∀ (j : Nat) x, ts[j]? = some x → w'.cell? ⟨g, 0 + j, none⟩ = some (.string x)
/-- The functions of the fields, in a block. -/
structure TabAt (w : World) (b : Nat) (l : List (Value × Value)) : Prop where
  c : ∀ k, k < l.length → ∃ f c f' c', l.getD k (undef, undef) = (.func f #[] c, .func f' #[] c') ∧ w.cell? ⟨b, k * 2, none⟩ = some (.func f #[] c) ∧ w.cell? ⟨b, k * 2 + 1, none⟩ = some (.func f' #[] c')
theorem TabAt.below {w w' : World} {b : Nat} {l : List (Value × Value)} (h : TabAt w b l) (hb : Below w.heap.size w w') : TabAt w' b l := ⟨fun k hk => by
  obtain ⟨f, c, f', c', h1, h2, h3⟩ := h.c k hk
  exact ⟨f, c, f', c', h1, b_old hb h2, b_old hb h3⟩⟩
set_option maxRecDepth 100000 in
set_option maxHeartbeats 2000000 in
theorem transF_any (l : List (Value × Value)) (ts : List ByteArray) (b cap : Nat) (F : FuncId) (caps : Array Value) (w : World) (hlt : ts.length = l.length) (hp : 0 < l.length) (h9 : l.length ≤ 100) (ht : TabAt w b l)
    (hen : Enters F) (hf : ∀ k, k < l.length → ∀ x : World, Below w.heap.size w x → Calls Tryz.prog F (#[.agg #[(l.getD k (undef, undef)).1, (l.getD k (undef, undef)).2]] ++ caps) x fun e w' => e = .returned (.string (ts.getD k ⟨#[]⟩)) ∧ Below x.heap.size x w') :
    Calls Tryz.prog 148 #[.slice (some ⟨b, 0, none⟩) l.length cap, .func (.func F) #[] caps] w fun e w' => StrsR e w' ts ∧ Below w.heap.size w w' := by
  have HT := Lib.hid ht
  have HF := Lib.hid hf
  have HL := Lib.hid hlt
  have hmk := run_makeStrs l.length (by omega)
  have R0 := RowV.madeStr w l.length 9
  unfold Enters at hen
  clear ht hf hlt
  go_enter Tryz.func148, Tryz.ntmps148
  go_wp2_with fail
  clear hmk
  go_loopw [6, 7, 13] (fun _ _ i wr => ∃ k : Nat, k ≤ l.length ∧ i = .int .i64 k ∧ Hid (RowV w.heap.size w.heap.size l.length (fun j => if j < k then .string (ts.getD j ⟨#[]⟩) else .string ⟨#[]⟩) w wr)) (fun _ _ i _ => l.length - (intOf i).toNat)
  case atStart => exact ⟨0, Nat.zero_le _, rfl, Lib.hid (R0.congr fun i hi => by simp)⟩
  case round =>
    obtain ⟨k, hk, rfl, HR⟩ := hrel
    clear R0
    by_cases hlt : k < l.length
    · obtain ⟨f, c, f', c', e0, y0, y1⟩ := (HT.out.below HR.out.below).c k hlt
      have hcall := HF.out k hlt
      rw [e0] at hcall
      have HC := Lib.hid (fun x hx => hcall x hx)
      clear hcall e0
      have hsf := store_func
      have hsz : w.heap.size ≤ wr.heap.size := HR.out.below.size
      have HB0 : Hid (Below wr.heap.size wr (wr.alloc (.cells #[.func f #[] c, .func f' #[] c'] 125))) := Lib.hid (below_alloc _ _)
      go_wp2_with fail
      refine (HC.out _ (HR.out.below.trans (HB0.out.mono hsz))).mono ?_
      rintro e1 w1 ⟨rfl, hb1⟩
      have HR1 := Lib.hid (HR.out.more hsz (b_then HB0.out hb1))
      have hc := HR1.out.c k hlt
      have hfz := HR1.out.f k hlt
      rw [if_neg (by omega)] at hc
      clear y0 y1 hb1 HC hsf hsz
      go_wp2_with fail
      go_roundw
      case rel => exact ⟨k + 1, by omega, by go_num, Lib.hid ((HR1.out.set k hlt (.string (ts.getD k ⟨#[]⟩))).congr fun i hi => by
        by_cases e : i = k
        · subst e; rw [if_pos rfl, if_pos (by omega)]
        · rw [if_neg e]
          by_cases e2 : i < k
          · rw [if_pos e2, if_pos (by omega)]
          · rw [if_neg e2, if_neg (by omega)])⟩
      case measure => simp [intOf]; omega
    · obtain rfl : k = l.length := by omega
      have hg : w.heap.size < wr.heap.size := by
        have := cell_in (HR.out.c 0 hp)
        exact this
      clear hen
      go_wp2_with fail
      go_ret
      refine ⟨⟨w.heap.size, l.length, by rw [HL.out]; rfl, by rw [HL.out]; exact Nat.le_refl _, hg, fun j x hj => ?_⟩, HR.out.below⟩
      have hjl : j < l.length := by rw [← HL.out]; exact (List.getElem?_eq_some_iff.1 hj).1
      rw [Nat.zero_add, HR.out.c j hjl, if_pos hjl]
      simp [List.getD_eq_getElem?_getD, hj]
/-- A value is a function that shows a word of a line. -/
structure ShowAt (w : World) (v : Value) (l : LineV) (t : ByteArray) : Prop where
  ex : ∃ id caps, v = .func (.func id) #[] caps ∧ Enters id ∧ ∀ x : World, Below w.heap.size w x → Calls Tryz.prog id (#[.agg l.cells] ++ caps) x fun e w' => e = .returned (.string t) ∧ Below x.heap.size x w'
set_option maxRecDepth 100000 in
set_option maxHeartbeats 1000000 in
theorem showOne (s r : Value) (lb : Nat) (l : LineV) (t : ByteArray) (w : World) (hs : ShowAt w s l t) (hl : LineW w lb l) :
    Calls Tryz.prog 149 #[.agg #[s, r], .pointer (some ⟨lb, 0, none⟩)] w fun e w' => e = .returned (.string t) ∧ Below w.heap.size w w' := by
  obtain ⟨id, caps, rfl, hen, hcall⟩ := hs.ex
  have HC := Lib.hid hcall
  have HB0 := Lib.hid (below_alloc w (.cells #[.func (.func id) #[] caps, r] 125))
  have hl2 := hl.below (below_alloc w (.cells #[.func (.func id) #[] caps, r] 125))
  obtain ⟨r0, r1, r2, r3, r4, r5, r6, r7, r8, r9, r10, r11, r12, r13⟩ := hl2
  obtain ⟨act, q⟩ := l
  obtain ⟨name, carrier, kind, terminal, partner, link, x, y, d, m, s, z, n⟩ := q
  simp only [LineV.cells] at *
  unfold Enters at hen
  clear hs hl hcall
  go_enter Tryz.func149, Tryz.ntmps149
  go_wp2_with fail
  refine (HC.out _ HB0.out).mono ?_
  rintro e1 w1 ⟨rfl, hb1⟩
  have HB1 := Lib.hid (b_then HB0.out hb1)
  clear r0 r1 r2 r3 r4 r5 r6 r7 r8 r9 r10 r11 r12 r13 hb1
  go_wp2_with fail
  go_ret
  exact ⟨rfl, HB1.out⟩
end Go.Proofs.YtlcmcknbbmokjaaGreat
