/- Contracts: the result of a line, and lists.Transform from lines to results. -/
import Derived.Test.YtlcmcknbbmokjaaGreatRmResM
import Derived.Test.YtlcmcknbbmokjaaGreatPm3
namespace Go.Proofs.YtlcmcknbbmokjaaGreat
open Go Go.RowKit
set_option maxRecDepth 100000 in
set_option maxHeartbeats 2000000 in
theorem resultOf_any (l : LineV) (w : World) :
    Calls Tryz.prog 111 #[.agg l.cells] w fun e w' => e = .returned (.agg (resOf l).cells) ∧ Below w.heap.size w w' := by
  have HV : Hid (resOf l = if (l.act.toList == [75] || l.act.toList == [79]) = true then ⟨l.q.name, true, l.q.minute⟩ else ⟨l.q.name, false, 0⟩) := Lib.hid rfl
  generalize resOf l = rv at HV ⊢
  have HB := Lib.hid (fun o => below_alloc2 w (.cells l.cells 28) o)
  obtain ⟨act, ⟨name, carrier, kind, terminal, partner, link, x, y, d, m, s, z, n⟩⟩ := l
  simp only [LineV.cells] at *
  cases h1 : (act.toList == [75])
  · cases h2 : (act.toList == [79])
    · have HR : Hid (rv = ⟨name, false, 0⟩) := Lib.hid (by rw [HV.out, h1, h2]; rfl)
      clear HV
      go_enter Tryz.func111, Tryz.ntmps111
      go_wp2_with fail
      exact bodyPost_ret (v := .agg #[.string name, .bool false, .int .i64 0]) (by simp [results, Tryz.results111, go_sem]) rfl ⟨by rw [HR.out]; rfl, HB.out _⟩
    · have HR : Hid (rv = ⟨name, true, m⟩) := Lib.hid (by rw [HV.out, h1, h2]; rfl)
      clear HV
      go_enter Tryz.func111, Tryz.ntmps111
      go_wp2_with fail
      exact bodyPost_ret (v := .agg #[.string name, .bool true, .int .i64 m]) (by simp [results, Tryz.results111, go_sem]) rfl ⟨by rw [HR.out]; rfl, HB.out _⟩
  · have HR : Hid (rv = ⟨name, true, m⟩) := Lib.hid (by rw [HV.out, h1]; rfl)
    clear HV
    go_enter Tryz.func111, Tryz.ntmps111
    go_wp2_with fail
    exact bodyPost_ret (v := .agg #[.string name, .bool true, .int .i64 m]) (by simp [results, Tryz.results111, go_sem]) rfl ⟨by rw [HR.out]; rfl, HB.out _⟩
theorem run_makeRes (n : Nat) (hn : n ≤ 100000) (w : World) : (Instr.makeSlice 85 (.int .i64 n) (.int .i64 n)).run Tryz.prog w = .ok (.slice (some ⟨w.heap.size, 0, none⟩) n n) (w.alloc (.cells (madeCells #[Value.string ⟨#[]⟩, .bool false, .int .i64 0] (n * 3)) 120)) := by
  have hi : Tryz.prog.info? 120 = some Tryz.prog.types[120]! := by kernel_rfl
  have := run_make (P := Tryz.prog) w 85 120 Tryz.prog.types[120]! (.agg #[.string ⟨#[]⟩, .bool false, .int .i64 0]) Tryz.underlying85 hi (by kernel_rfl) .i64 .i64 n n (by omega) (Int.le_refl _) (by rw [show (Tryz.prog.types[120]!).bytes = 32 from by kernel_rfl]; omega) (by omega)
  rw [show (Tryz.prog.types[120]!).size = 3 from by kernel_rfl, Int.toNat_natCast] at this
  exact this
def zRes (j : Nat) : Value := [Value.string ⟨#[]⟩, .bool false, .int .i64 0].getD (j % 3) undef
theorem made_res (n i : Nat) (hi : i < n) : (madeCells #[Value.string ⟨#[]⟩, .bool false, .int .i64 0] n)[i]? = some (zRes i) := by
  have h3 : i % 3 < 3 := Nat.mod_lt _ (by decide)
  unfold zRes
  simp only [madeCells]
  rcases (show i % 3 = 0 ∨ i % 3 = 1 ∨ i % 3 = 2 by omega) with h | h | h <;> simp [hi, h]
theorem RowV.madeRes (w : World) (n : Nat) (T : TypeId) : RowV w.heap.size w.heap.size n zRes w (w.alloc (.cells (madeCells #[Value.string ⟨#[]⟩, .bool false, .int .i64 0] n) T)) :=
  have hh : (w.alloc (.cells (madeCells #[Value.string ⟨#[]⟩, .bool false, .int .i64 0] n) T)).heap[w.heap.size]? = some (.cells (madeCells #[Value.string ⟨#[]⟩, .bool false, .int .i64 0] n) T (0, 0)) := by show (w.heap.push _)[_]? = _; simp
  have hc : ∀ i, i < n → (w.alloc (.cells (madeCells #[Value.string ⟨#[]⟩, .bool false, .int .i64 0] n) T)).cell? ⟨w.heap.size, i, none⟩ = some (zRes i) := fun i hi => by
    simp only [World.cell?, hh]
    simpa using made_res n i hi
  ⟨hc, fun i hi => by
    unfold World.frozen?
    simp only [hh]
    simp, Nat.le_refl _, below_alloc _ _⟩
/-- The cells of results of lines, as far as they are made. -/
def resRow (L : List LineV) (k j : Nat) : Value := if j / 3 < k then ((resOf (L.getD (j / 3) default)).cells.toList.getD (j % 3) undef) else zRes j
theorem resRow_step (L : List LineV) (k : Nat) (r : ResV) (hr : resOf (L.getD k default) = r) (j : Nat) :
    (if j = k * 3 + 2 then Value.int .i64 r.minute else if j = k * 3 + 1 then .bool r.granted else if j = k * 3 then .string r.name else resRow L k j) = resRow L (k + 1) j := by
  subst hr
  have h3 : j % 3 < 3 := Nat.mod_lt _ (by decide)
  have hj := Nat.div_add_mod' j 3
  by_cases e : j / 3 = k
  · have hL : resRow L (k + 1) j = (resOf (L.getD k default)).cells.toList.getD (j % 3) undef := by
      unfold resRow
      rw [e, if_pos (by omega)]
    rw [hL]
    rcases (show j % 3 = 0 ∨ j % 3 = 1 ∨ j % 3 = 2 by omega) with h | h | h
    · rw [if_neg (by omega), if_neg (by omega), if_pos (by omega), h]; rfl
    · rw [if_neg (by omega), if_pos (by omega), h]; rfl
    · rw [if_pos (by omega), h]; rfl
  · have hL : resRow L (k + 1) j = resRow L k j := by
      unfold resRow
      by_cases h2 : j / 3 < k
      · rw [if_pos h2, if_pos (by omega)]
      · rw [if_neg h2, if_neg (by omega)]
    rw [hL, if_neg (by omega), if_neg (by omega), if_neg (by omega)]
/-- A call that has returned a slice of results. -/
structure RessR (e : Ending) (w' : World) (l : List ResV) : Prop where
  ex : ∃ v, e = .returned v ∧ SlArg ResV.cells 3 w' v l
set_option maxRecDepth 100000 in
set_option maxHeartbeats 4000000 in
theorem transRes_some (L : List LineV) (b off cap : Nat) (w : World) (hp : 0 < L.length) (h9 : L.length ≤ 1000) (ht : LnsAt w b off L) :
    Calls Tryz.prog 110 #[.slice (some ⟨b, off, none⟩) L.length cap, .func (.func 111) #[] #[]] w fun e w' => RessR e w' (L.map resOf) ∧ Below w.heap.size w w' := by
  have HT := Lib.hid ht
  have hmk := run_makeRes L.length (by omega)
  have R0 := RowV.madeRes w (L.length * 3) 120
  clear ht
  go_enter Tryz.func110, Tryz.ntmps110
  go_wp2_with fail
  clear hmk
  go_loopw [6, 7, 13] (fun _ _ i wr => ∃ k : Nat, k ≤ L.length ∧ i = .int .i64 k ∧ Hid (RowV w.heap.size w.heap.size (L.length * 3) (resRow L k) w wr)) (fun _ _ i _ => L.length - (intOf i).toNat)
  case atStart => exact ⟨0, Nat.zero_le _, rfl, Lib.hid (R0.congr fun i hi => by unfold resRow; rw [if_neg (by omega)])⟩
  case round =>
    obtain ⟨k, hk, rfl, HR⟩ := hrel
    clear R0
    by_cases hlt : k < L.length
    · have hrow := (HT.out.below HR.out.below).row hlt rfl
      have HST := Lib.hid (resRow_step L k _ rfl)
      have hcall := resultOf_any (L.getD k default)
      generalize resOf (L.getD k default) = rv at HST hcall
      generalize L.getD k default = l at hrow hcall
      have HC := Lib.hid (fun x => hcall x)
      clear hcall
      have hsz : w.heap.size ≤ wr.heap.size := HR.out.below.size
      have HB0 : Hid (Below wr.heap.size wr (wr.alloc (.cells l.cells 28))) := Lib.hid (below_alloc _ _)
      obtain ⟨qact, ⟨qname, qcarrier, qkind, qterminal, qpartner, qlink, qa, qb, qd, qm, qs, qz, qn⟩⟩ := l
      obtain ⟨rn, rg, rm⟩ := rv
      simp only [LineV.cells] at HB0 HC hrow
      simp only [ResV.cells] at HC
      simp only at HST
      obtain ⟨z0, z1, z2, z3, z4, z5, z6, z7, z8, z9, z10, z11, z12, z13⟩ := hrow
      go_wp2_with fail
      refine (HC.out _).mono ?_
      rintro e1 w1 ⟨rfl, hb1⟩
      have HR1 := Lib.hid (HR.out.more hsz (b_then HB0.out hb1))
      have c0 := HR1.out.c (k * 3) (by omega)
      have c1 := HR1.out.c (k * 3 + 1) (by omega)
      have c2 := HR1.out.c (k * 3 + 2) (by omega)
      have f0 := HR1.out.f (k * 3) (by omega)
      have f1 := HR1.out.f (k * 3 + 1) (by omega)
      have f2 := HR1.out.f (k * 3 + 2) (by omega)
      clear z0 z1 z2 z3 z4 z5 z6 z7 z8 z9 z10 z11 z12 z13 hb1 HC hsz
      go_wp2_with fail
      go_roundw
      case rel => exact ⟨k + 1, by omega, by go_num, Lib.hid ((((HR1.out.set (k * 3) (by omega) (.string rn)).set (k * 3 + 1) (by omega) (.bool rg)).set (k * 3 + 2) (by omega) (.int .i64 rm)).congr fun i hi => HST.out i)⟩
      case measure => simp [intOf]; omega
    · obtain rfl : k = L.length := by omega
      have hg : w.heap.size < wr.heap.size := cell_in (HR.out.c 0 (by omega))
      go_wp2_with fail
      go_ret
      refine ⟨⟨_, rfl, .inr ⟨by simpa using hp, w.heap.size, 0, L.length, by simp, ⟨fun i hi t v hv => ?_⟩, by simp, hg⟩⟩, HR.out.below⟩
      have hi' : i < L.length := by simpa using hi
      rw [getD_map resOf L i hi'] at hv
      have ht : t < 3 := by
        have := (Array.getElem?_eq_some_iff.1 hv).1
        simpa [ResV.cells] using this
      rw [Nat.zero_add, HR.out.c (i * 3 + t) (by omega)]
      unfold resRow
      rw [show (i * 3 + t) / 3 = i by omega, show (i * 3 + t) % 3 = t by omega, if_pos hi', List.getD_eq_getElem?_getD, Array.getElem?_toList, hv]
      rfl
set_option maxRecDepth 100000 in
set_option maxHeartbeats 2000000 in
theorem transRes_zero (A : Option Addr) (c : Nat) (f : Value) (w : World) :
    Calls Tryz.prog 110 #[.slice A 0 c, f] w fun e w' => RessR e w' [] ∧ Below w.heap.size w w' := by
  have hmk : ∀ w : World, (Instr.makeSlice 85 (.int .i64 0) (.int .i64 0)).run Tryz.prog w = .ok (.slice (some ⟨w.heap.size, 0, none⟩) 0 0) (w.alloc (.cells (madeCells #[Value.string ⟨#[]⟩, .bool false, .int .i64 0] 0) 120)) := fun w => run_makeRes 0 (by omega) w
  have HX := Lib.hid (below_alloc w (.cells (madeCells #[Value.string ⟨#[]⟩, .bool false, .int .i64 0] 0) 120))
  go_enter Tryz.func110, Tryz.ntmps110
  go_wp2_with fail
  clear hmk
  go_loopw [6, 7, 13] (fun _ _ i wr => i = .int .i64 0 ∧ wr = (w.alloc (.cells (madeCells #[Value.string ⟨#[]⟩, .bool false, .int .i64 0] 0) 120))) (fun _ _ _ _ => 0)
  case atStart => exact ⟨rfl, rfl⟩
  case round =>
    obtain ⟨rfl, rfl⟩ := hrel
    go_wp2_with fail
    go_ret
    exact ⟨⟨_, rfl, .inl ⟨rfl, _, _, rfl⟩⟩, HX.out⟩
theorem transRes_any (L : List LineV) (v : Value) (w w' : World) (hv : LnArg w v L) (hb : Below w.heap.size w w') (hn : L.length ≤ 1000) :
    Calls Tryz.prog 110 #[v, .func (.func 111) #[] #[]] w' fun e w'' => RessR e w'' (L.map resOf) ∧ Below w'.heap.size w' w'' := by
  rcases hv with ⟨rfl, A, c, rfl⟩ | ⟨h0, b, off, cap, rfl, hl, hc, hs⟩
  · exact transRes_zero A c _ w'
  · exact transRes_some L b off cap w' h0 hn (hl.below hb)
/-- checkResults, for every list. -/
theorem ressZero : ressErr [] = 0 := rfl
end Go.Proofs.YtlcmcknbbmokjaaGreat
