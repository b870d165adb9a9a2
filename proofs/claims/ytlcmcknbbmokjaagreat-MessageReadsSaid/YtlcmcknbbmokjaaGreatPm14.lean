/- Contracts: a line with its newline, the footer of a message, the list of the printed lines. -/
import Derived.Test.YtlcmcknbbmokjaaGreatPm11
import Derived.Test.YtlcmcknbbmokjaaGreatPm13
namespace Go.Proofs.YtlcmcknbbmokjaaGreat
open Go Go.RowKit
def lineN (l : LineV) : ByteArray := lineT l ++ ⟨#[10]⟩
set_option maxRecDepth 100000 in
set_option maxHeartbeats 1000000 in
theorem printOne (l : LineV) (hok : LineOk l) (w : World) :
    Calls Tryz.prog 72 #[.agg l.cells] w fun e w' => e = .returned (.string (lineN l)) ∧ Below w.heap.size w w' := by
  have HC := Lib.hid (fun W => printLine_any l hok W)
  have HX : Hid (lineT l ++ ⟨#[10]⟩ = lineN l) := Lib.hid rfl
  have hsz := lineT_size hok
  generalize lineN l = ln at HX ⊢
  generalize lineT l = lt at HX HC hsz
  obtain ⟨W, HW, hb0, R⟩ := line_new w l 28
  have HB0 := Lib.hid hb0
  obtain ⟨act, q⟩ := l
  obtain ⟨name, carrier, kind, terminal, partner, link, x, y, d, m, s, z, n⟩ := q
  simp only [LineV.cells] at HW HC ⊢
  obtain ⟨r0, r1, r2, r3, r4, r5, r6, r7, r8, r9, r10, r11, r12, r13⟩ := R
  clear hok hb0
  go_enter Tryz.func72, Tryz.ntmps72
  go_wp2_with fail
  rw [HW.out]
  clear HW
  go_wp2_with fail
  refine (HC.out W).mono ?_
  rintro e w1 ⟨rfl, hb1⟩
  have HB1 := Lib.hid (b_then HB0.out hb1)
  clear r0 r1 r2 r3 r4 r5 r6 r7 r8 r9 r10 r11 r12 r13 hb1 HC
  go_wp2_with fail
  go_ret
  exact ⟨by rw [← HX.out]; rfl, HB1.out⟩
def footT (n : Nat) : ByteArray := ⟨#[69, 78, 68, 32]⟩ ++ widT n 2 ++ ⟨#[10]⟩
set_option maxRecDepth 100000 in
theorem printFooter_any (n : Nat) (hn : n ≤ 1000) (w : World) :
    Calls Tryz.prog 76 #[.int .i64 n] w fun e w' => e = .returned (.string (footT n)) ∧ Below w.heap.size w w' := by
  have HC := Lib.hid (fun W => digits_any n 2 W (by decide) (by omega))
  go_enter Tryz.func76, Tryz.ntmps76
  go_wp2_with fail
  refine (HC.out w).mono ?_
  rintro e w1 ⟨rfl, hb1⟩
  go_wp2_with fail
  go_ret
  exact ⟨rfl, hb1⟩
set_option maxRecDepth 100000 in
set_option maxHeartbeats 2000000 in
theorem transL_zero (A : Option Addr) (c : Nat) (f : Value) (w : World) :
    Calls Tryz.prog 71 #[.slice A 0 c, f] w fun e w' => StrsR e w' [] ∧ Below w.heap.size w w' := by
  have hmk : ∀ w : World, (Instr.makeSlice 133 (.int .i64 0) (.int .i64 0)).run Tryz.prog w = .ok (.slice (some ⟨w.heap.size, 0, none⟩) 0 0) (w.alloc (.cells (madeCells #[Value.string ⟨#[]⟩] 0) 9)) := fun w => run_makeStrs 0 (by omega) w
  have hb0 := below_alloc w (.cells (madeCells #[Value.string ⟨#[]⟩] 0) 9)
  have hs0 : w.heap.size < (w.alloc (.cells (madeCells #[Value.string ⟨#[]⟩] 0) 9)).heap.size := by simp
  have HX := Lib.hid (And.intro hb0 hs0)
  clear hb0 hs0
  go_enter Tryz.func71, Tryz.ntmps71
  go_wp2_with fail
  clear hmk
  go_loopw [6, 7, 13] (fun _ _ i wr => i = .int .i64 0 ∧ wr = (w.alloc (.cells (madeCells #[Value.string ⟨#[]⟩] 0) 9))) (fun _ _ _ _ => 0)
  case atStart => exact ⟨rfl, rfl⟩
  case round =>
    obtain ⟨rfl, rfl⟩ := hrel
    go_wp2_with fail
    go_ret
    exact ⟨⟨w.heap.size, 0, rfl, Nat.le_refl _, HX.out.2, by simp⟩, HX.out.1⟩
set_option maxRecDepth 100000 in
set_option maxHeartbeats 4000000 in
theorem transL_any (L : List LineV) (ts : List ByteArray) (b off cap : Nat) (F : FuncId) (caps : Array Value) (w : World) (hlt : ts.length = L.length) (hp : 0 < L.length) (h9 : L.length ≤ 1000) (ht : LnsAt w b off L)
    (hen : Enters F) (hf : ∀ k, k < L.length → ∀ x : World, Below w.heap.size w x → Calls Tryz.prog F (#[.agg (L.getD k default).cells] ++ caps) x fun e w' => e = .returned (.string (ts.getD k ⟨#[]⟩)) ∧ Below x.heap.size x w') :
    Calls Tryz.prog 71 #[.slice (some ⟨b, off, none⟩) L.length cap, .func (.func F) #[] caps] w fun e w' => StrsR e w' ts ∧ Below w.heap.size w w' := by
  have HT := Lib.hid ht
  have HF := Lib.hid hf
  have HL := Lib.hid hlt
  have hmk := run_makeStrs L.length (by omega)
  have R0 := RowV.madeStr w L.length 9
  unfold Enters at hen
  clear ht hf hlt
  go_enter Tryz.func71, Tryz.ntmps71
  go_wp2_with fail
  clear hmk
  go_loopw [6, 7, 13] (fun _ _ i wr => ∃ k : Nat, k ≤ L.length ∧ i = .int .i64 k ∧ Hid (RowV w.heap.size w.heap.size L.length (fun j => if j < k then .string (ts.getD j ⟨#[]⟩) else .string ⟨#[]⟩) w wr)) (fun _ _ i _ => L.length - (intOf i).toNat)
  case atStart => exact ⟨0, Nat.zero_le _, rfl, Lib.hid (R0.congr fun i hi => by simp)⟩
  case round =>
    obtain ⟨k, hk, rfl, HR⟩ := hrel
    clear R0
    by_cases hlt : k < L.length
    · have hrow := (HT.out.below HR.out.below).row hlt rfl
      have hcall := HF.out k hlt
      generalize L.getD k default = l at hrow hcall
      have HC := Lib.hid (fun x hx => hcall x hx)
      clear hcall
      have hsz : w.heap.size ≤ wr.heap.size := HR.out.below.size
      have HB0 : Hid (Below wr.heap.size wr (wr.alloc (.cells l.cells 28))) := Lib.hid (below_alloc _ _)
      obtain ⟨qact, ⟨qname, qcarrier, qkind, qterminal, qpartner, qlink, qa, qb, qd, qm, qs, qz, qn⟩⟩ := l
      simp only [LineV.cells] at HB0 HC hrow
      obtain ⟨z0, z1, z2, z3, z4, z5, z6, z7, z8, z9, z10, z11, z12, z13⟩ := hrow
      go_wp2_with fail
      refine (HC.out _ (HR.out.below.trans (HB0.out.mono hsz))).mono ?_
      rintro e1 w1 ⟨rfl, hb1⟩
      have HR1 := Lib.hid (HR.out.more hsz (b_then HB0.out hb1))
      have hc := HR1.out.c k hlt
      have hfz := HR1.out.f k hlt
      rw [if_neg (by omega)] at hc
      clear z0 z1 z2 z3 z4 z5 z6 z7 z8 z9 z10 z11 z12 z13 hb1 HC hsz
      go_wp2_with fail
      go_roundw
      case rel => exact ⟨k + 1, by omega, by go_num, Lib.hid ((HR1.out.set k hlt (.string (ts.getD k ⟨#[]⟩))).congr fun i hi => by
        by_cases e : i = k
        · subst e; rw [if_pos rfl, if_pos (by omega)]
        · rw [if_neg e]
          by_cases e2 : i < k
          · rw [if_pos e2, if_pos (by omega)]
          · rw [if_neg e2, if_neg (by omega)])⟩
      case measure => simp [intOf]; omega
    · obtain rfl : k = L.length := by omega
      have hg : w.heap.size < wr.heap.size := by
        have := cell_in (HR.out.c 0 hp)
        exact this
      clear hen
      go_wp2_with fail
      go_ret
      refine ⟨⟨w.heap.size, L.length, by rw [HL.out]; rfl, by rw [HL.out]; exact Nat.le_refl _, hg, fun j x hj => ?_⟩, HR.out.below⟩
      have hjl : j < L.length := by rw [← HL.out]; exact (List.getElem?_eq_some_iff.1 hj).1
      rw [Nat.zero_add, HR.out.c j hjl, if_pos hjl]
      simp [List.getD_eq_getElem?_getD, hj]
end Go.Proofs.YtlcmcknbbmokjaaGreat
