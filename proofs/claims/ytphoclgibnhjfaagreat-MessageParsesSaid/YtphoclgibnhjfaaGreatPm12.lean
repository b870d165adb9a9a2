/- Contract of lists.Transform at the table of fields, for any function that is a contract at each field. · Contract of the reference's CheckRequests. · Requests without error, and their pairs, forwards and backwards. · Contracts of package message: a line is printed. · Contracts of package message: printLine, PrintLine. · Contracts: seasons and headers of messages, of package message and of the reference. · Contracts of package message: headers, what may follow a line. · Contract of message.mayFollow. -/
import Derived.Test.YtphoclgibnhjfaaGreatPm11
import Derived.Test.YtphoclgibnhjfaaGreatPm10
import Derived.Test.YtphoclgibnhjfaaGreatPm6
import Derived.Test.YtphoclgibnhjfaaGreatPm8
import Derived.Lib.Join
import Derived.Laws.StructEq
namespace Go.Proofs.YtphoclgibnhjfaaGreat
open Go Go.RowKit
theorem made_str (n i : Nat) (hi : i < n) : (madeCells #[Value.string ⟨#[]⟩] n)[i]? = some (.string ⟨#[]⟩) := by
  simp [madeCells, hi, Nat.mod_one]
theorem RowV.madeStr (w : World) (n : Nat) (T : TypeId) : RowV w.heap.size w.heap.size n (fun _ => .string ⟨#[]⟩) w (w.alloc (.cells (madeCells #[Value.string ⟨#[]⟩] n) T)) :=
  have hh : (w.alloc (.cells (madeCells #[Value.string ⟨#[]⟩] n) T)).heap[w.heap.size]? = some (.cells (madeCells #[Value.string ⟨#[]⟩] n) T (0, 0)) := by show (w.heap.push _)[_]? = _; simp
  have hc : ∀ i, i < n → (w.alloc (.cells (madeCells #[Value.string ⟨#[]⟩] n) T)).cell? ⟨w.heap.size, i, none⟩ = some (.string ⟨#[]⟩) := fun i hi => by
    simp only [World.cell?, hh]
    simpa using made_str n i hi
  ⟨hc, fun i hi => by
    unfold World.frozen?
    simp only [hh]
    simp, Nat.le_refl _, below_alloc _ _⟩
theorem RowV.congr {N b n : Nat} {g g' : Nat → Value} {w W : World} (h : RowV N b n g w W) (e : ∀ i, i < n → g i = g' i) : RowV N b n g' w W :=
  ⟨fun i hi => by rw [← e i hi]; exact h.c i hi, h.f, h.lo, h.below⟩
theorem run_makeStrs (n : Nat) (hn : n ≤ 100000) (w : World) : (Instr.makeSlice 115 (.int .i64 n) (.int .i64 n)).run Tryz.prog w = .ok (.slice (some ⟨w.heap.size, 0, none⟩) n n) (w.alloc (.cells (madeCells #[Value.string ⟨#[]⟩] n) 9)) := by
  have hi : Tryz.prog.info? 9 = some Tryz.prog.types[9]! := by kernel_rfl
  have := run_make (P := Tryz.prog) w 115 9 Tryz.prog.types[9]! (.string ⟨#[]⟩) Tryz.underlying115 hi (by kernel_rfl) .i64 .i64 n n (by omega) (Int.le_refl _) (by rw [show (Tryz.prog.types[9]!).bytes = 16 from by kernel_rfl]; omega) (by omega)
  rw [show (Tryz.prog.types[9]!).size = 1 from by kernel_rfl, Nat.mul_one, Int.toNat_natCast] at this
  exact this
/-- A call that has returned a slice of these strings. -/
structure StrsR (e : Ending) (w' : World) (ts : List ByteArray) : Prop where
  ex : ∃ g c, e = .returned (.slice (some ⟨g, 0, none⟩) ts.length c) ∧ ts.length ≤ c ∧ g < w'.heap.size ∧ ∀ (j : Nat) x, ts[j]? = some x → w'.cell? ⟨g, 0 + j, none⟩ = some (.string x)
/-- The functions of the fields, in a block. -/
structure TabAt (w : World) (b : Nat) (l : List (Value × Value)) : Prop where
  c : ∀ k, k < l.length → ∃ f c f' c', l.getD k (undef, undef) = (.func f #[] c, .func f' #[] c') ∧ w.cell? ⟨b, k * 2, none⟩ = some (.func f #[] c) ∧ w.cell? ⟨b, k * 2 + 1, none⟩ = some (.func f' #[] c')
theorem TabAt.below {w w' : World} {b : Nat} {l : List (Value × Value)} (h : TabAt w b l) (hb : Below w.heap.size w w') : TabAt w' b l := ⟨fun k hk => by
  obtain ⟨f, c, f', c', h1, h2, h3⟩ := h.c k hk
  exact ⟨f, c, f', c', h1, b_old hb h2, b_old hb h3⟩⟩
set_option maxRecDepth 100000 in
set_option maxHeartbeats 2000000 in
theorem transF_any (l : List (Value × Value)) (ts : List ByteArray) (b cap : Nat) (F : FuncId) (caps : Array Value) (w : World) (hlt : ts.length = l.length) (hp : 0 < l.length) (h9 : l.length ≤ 100) (ht : TabAt w b l)
    (hen : Enters F) (hf : ∀ k, k < l.length → ∀ x : World, Below w.heap.size w x → Calls Tryz.prog F (#[.agg #[(l.getD k (undef, undef)).1, (l.getD k (undef, undef)).2]] ++ caps) x fun e w' => e = .returned (.string (ts.getD k ⟨#[]⟩)) ∧ Below x.heap.size x w') :
    Calls Tryz.prog 133 #[.slice (some ⟨b, 0, none⟩) l.length cap, .func (.func F) #[] caps] w fun e w' => StrsR e w' ts ∧ Below w.heap.size w w' := by
  have HT := Lib.hid ht
  have HF := Lib.hid hf
  have HL := Lib.hid hlt
  have hmk := run_makeStrs l.length (by omega)
  have R0 := RowV.madeStr w l.length 9
  unfold Enters at hen
  clear ht hf hlt
  go_enter Tryz.func133, Tryz.ntmps133
  go_wp2_with fail
  clear hmk
  go_loopw [6, 7, 13] (fun _ _ i wr => ∃ k : Nat, k ≤ l.length ∧ i = .int .i64 k ∧ Hid (RowV w.heap.size w.heap.size l.length (fun j => if j < k then .string (ts.getD j ⟨#[]⟩) else .string ⟨#[]⟩) w wr)) (fun _ _ i _ => l.length - (intOf i).toNat)
  case atStart => exact ⟨0, Nat.zero_le _, rfl, Lib.hid (R0.congr fun i hi => by simp)⟩
  case round =>
    obtain ⟨k, hk, rfl, HR⟩ := hrel
    clear R0
    by_cases hlt : k < l.length
    · obtain ⟨f, c, f', c', e0, y0, y1⟩ := (HT.out.below HR.out.below).c k hlt
      have hcall := HF.out k hlt
      rw [e0] at hcall
      have HC := Lib.hid (fun x hx => hcall x hx)
      clear hcall e0
      have hsf := store_func
      have hsz : w.heap.size ≤ wr.heap.size := HR.out.below.size
      have HB0 : Hid (Below wr.heap.size wr (wr.alloc (.cells #[.func f #[] c, .func f' #[] c'] 160))) := Lib.hid (below_alloc _ _)
      go_wp2_with fail
      refine (HC.out _ (HR.out.below.trans (HB0.out.mono hsz))).mono ?_
      rintro e1 w1 ⟨rfl, hb1⟩
      have HR1 := Lib.hid (HR.out.more hsz (b_then HB0.out hb1))
      have hc := HR1.out.c k hlt
      have hfz := HR1.out.f k hlt
      rw [if_neg (by omega)] at hc
      clear y0 y1 hb1 HC hsf hsz
      go_wp2_with fail
      go_roundw
      case rel => exact ⟨k + 1, by omega, by go_num, Lib.hid ((HR1.out.set k hlt (.string (ts.getD k ⟨#[]⟩))).congr fun i hi => by
        by_cases e : i = k
        · subst e; rw [if_pos rfl, if_pos (by omega)]
        · rw [if_neg e]
          by_cases e2 : i < k
          · rw [if_pos e2, if_pos (by omega)]
          · rw [if_neg e2, if_neg (by omega)])⟩
      case measure => simp [intOf]; omega
    · obtain rfl : k = l.length := by omega
      have hg : w.heap.size < wr.heap.size := by
        have := cell_in (HR.out.c 0 hp)
        exact this
      clear hen
      go_wp2_with fail
      go_ret
      refine ⟨⟨w.heap.size, l.length, by rw [HL.out]; rfl, by rw [HL.out]; exact Nat.le_refl _, hg, fun j x hj => ?_⟩, HR.out.below⟩
      have hjl : j < l.length := by rw [← HL.out]; exact (List.getElem?_eq_some_iff.1 hj).1
      rw [Nat.zero_add, HR.out.c j hjl, if_pos hjl]
      simp [List.getD_eq_getElem?_getD, hj]
/-- A value is a function that shows a word of a line. -/
structure ShowAt (w : World) (v : Value) (l : LineV) (t : ByteArray) : Prop where
  ex : ∃ id caps, v = .func (.func id) #[] caps ∧ Enters id ∧ ∀ x : World, Below w.heap.size w x → Calls Tryz.prog id (#[.agg l.cells] ++ caps) x fun e w' => e = .returned (.string t) ∧ Below x.heap.size x w'
set_option maxRecDepth 100000 in
set_option maxHeartbeats 1000000 in
theorem showOne (s r : Value) (lb : Nat) (l : LineV) (t : ByteArray) (w : World) (hs : ShowAt w s l t) (hl : LineW w lb l) :
    Calls Tryz.prog 134 #[.agg #[s, r], .pointer (some ⟨lb, 0, none⟩)] w fun e w' => e = .returned (.string t) ∧ Below w.heap.size w w' := by
  obtain ⟨id, caps, rfl, hen, hcall⟩ := hs.ex
  have HC := Lib.hid hcall
  have HB0 := Lib.hid (below_alloc w (.cells #[.func (.func id) #[] caps, r] 160))
  have hl2 := hl.below (below_alloc w (.cells #[.func (.func id) #[] caps, r] 160))
  obtain ⟨r0, r1, r2, r3, r4, r5, r6, r7, r8, r9, r10, r11, r12, r13⟩ := hl2
  obtain ⟨act, q⟩ := l
  obtain ⟨name, carrier, kind, terminal, partner, link, x, y, d, m, s, z, n⟩ := q
  simp only [LineV.cells] at *
  unfold Enters at hen
  clear hs hl hcall
  go_enter Tryz.func134, Tryz.ntmps134
  go_wp2_with fail
  refine (HC.out _ HB0.out).mono ?_
  rintro e1 w1 ⟨rfl, hb1⟩
  have HB1 := Lib.hid (b_then HB0.out hb1)
  clear r0 r1 r2 r3 r4 r5 r6 r7 r8 r9 r10 r11 r12 r13 hb1
  go_wp2_with fail
  go_ret
  exact ⟨rfl, HB1.out⟩
end Go.Proofs.YtphoclgibnhjfaaGreat
namespace Go.Proofs.YtphoclgibnhjfaaGreat
open Go Go.RowKit
theorem findIx_mem (s : ByteArray) : ∀ (l : List ReqV) (i : Nat), 0 ≤ findIx s l i ↔ ∃ q ∈ l, (q.name.toList == s.toList) = true
  | [], i => by simp [findIx]
  | q :: r, i => by
    unfold findIx
    split
    · rename_i h; exact ⟨fun _ => ⟨q, by simp, h⟩, fun _ => by omega⟩
    · rename_i h
      rw [findIx_mem s r (i + 1)]
      constructor
      · rintro ⟨p, hp, e⟩; exact ⟨p, by simp [hp], e⟩
      · rintro ⟨p, hp, e⟩
        rcases List.mem_cons.1 hp with rfl | hp
        · exact absurd e h
        · exact ⟨p, hp, e⟩
/-- The names of the first k requests. -/
def seenT (l : List ReqV) (k : Nat) : ByteArray → Bool := fun s => decide (0 ≤ findIx s (l.take k) 0)
theorem seenT_zero (l : List ReqV) : seenT l 0 = fun _ => false := by
  funext s; simp [seenT, findIx]
theorem toList_inj' {a b : ByteArray} (h : a.toList = b.toList) : a = b := ByteArray.ext (Array.toList_inj.1 (by rw [← ByteArray.toList_eq, ← ByteArray.toList_eq]; exact h))
theorem seenT_succ (l : List ReqV) (k : Nat) (h : k < l.length) (q : ReqV) (hq : l.getD k default = q) : seenT l (k + 1) = onceStep (seenT l k) q.name := by
  subst hq
  funext s
  unfold onceStep seenT
  have ht : l.take (k + 1) = l.take k ++ [l.getD k default] := by
    rw [List.take_succ_eq_append_getElem h]; simp [List.getD_eq_getElem?_getD, List.getElem?_eq_getElem h]
  by_cases e : s = (l.getD k default).name
  · rw [if_pos e, decide_eq_true_iff, findIx_mem, ht]
    exact ⟨_, List.mem_append_right _ (List.mem_singleton.2 rfl), by rw [e]; simp⟩
  · rw [if_neg e]
    refine decide_eq_decide.2 ?_
    rw [findIx_mem, findIx_mem, ht]
    constructor
    · rintro ⟨p, hp, h2⟩
      rcases List.mem_append.1 hp with hp | hp
      · exact ⟨p, hp, h2⟩
      · rw [List.mem_singleton.1 hp] at h2
        exact absurd (toList_inj' (eq_of_beq h2)).symm e
    · rintro ⟨p, hp, h2⟩; exact ⟨p, List.mem_append_left _ hp, h2⟩
theorem namedErr_ref (l : List ReqV) (k : Nat) (h : k < l.length) (q : ReqV) (hq : l.getD k default = q) :
    namedErr (l.drop k) (seenT l k) = if fst [reqErr q, unl (!(decide (0 ≤ findIx q.name (l.take k) 0))) 9] ≠ 0 then fst [reqErr q, unl (!(decide (0 ≤ findIx q.name (l.take k) 0))) 9] else namedErr (l.drop (k + 1)) (seenT l (k + 1)) := by
  rw [namedErr_drop l k h _ q hq, seenT_succ l k h q hq]
  rfl
set_option maxRecDepth 100000 in
set_option maxHeartbeats 4000000 in
theorem refReqs_any (l : List ReqV) (b off cap : Nat) (w : World) (hl : RqsAt w b off l) (hcap : l.length ≤ cap) (h9 : l.length ≤ 900) :
    Calls Tryz.prog 27 #[.slice (some ⟨b, off, none⟩) l.length cap] w fun e w' => e = .returned (.int .i64 (reqsErr l)) ∧ Below w.heap.size w w' := by
  have HL := Lib.hid hl
  clear hl
  by_cases hm : 64 < l.length
  · have HE : Hid (reqsErr l = 5) := Lib.hid (by unfold reqsErr; rw [if_pos hm])
    go_enter Tryz.func27, Tryz.ntmps27
    go_wp2_with fail
    go_ret
    exact ⟨by rw [HE.out]; rfl, Below.refl _ _⟩
  have HE : Hid (reqsErr l = namedErr l (seenT l 0)) := Lib.hid (by unfold reqsErr; rw [if_neg hm, seenT_zero])
  go_enter Tryz.func27, Tryz.ntmps27
  go_wp2_with fail
  go_loopw [3] (fun i wr => ∃ (k : Nat), k ≤ l.length ∧ i = .int .i64 k ∧ Hid (reqsErr l = namedErr (l.drop k) (seenT l k)) ∧ Hid (RqsAt wr b off l) ∧ Hid (Below w.heap.size w wr)) (fun i _ => l.length - (intOf i).toNat)
  case atStart => exact ⟨0, Nat.zero_le _, rfl, Lib.hid (by rw [HE.out]; simp), HL, Lib.hid (Below.refl _ _)⟩
  case round =>
    obtain ⟨k, hk, rfl, HF, HQ, HB⟩ := hrel
    by_cases hlt : k < l.length
    · have hd := namedErr_ref l k hlt _ rfl
      have hrow := HQ.out.row hlt rfl
      generalize l.getD k default = q at hd hrow
      have hcall := refReq_any q
      have hat := fun w h => refAt_any q.name l k b off cap w h hk h9
      generalize reqErr q = e at hd hcall
      generalize findIx q.name (l.take k) 0 = f at hd hat
      have HD := Lib.hid (HF.out.trans hd)
      clear hd HF
      obtain ⟨qa, qb, qc, qd, qe, qf, qg, qh, qi, qj, qk, ql, qm⟩ := q
      dsimp only [ReqV.cells] at hcall hrow hat
      obtain ⟨x0, x1, x2, x3, x4, x5, x6, x7, x8, x9, x10, x11, x12⟩ := hrow
      go_wp2_with fail
      refine (hcall _).mono ?_
      rintro e1 w1 ⟨rfl, hb1⟩
      have HB1 : Hid (Below w.heap.size w w1) := Lib.hid (b_then HB.out hb1)
      have HQ1 : Hid (RqsAt w1 b off l) := Lib.hid (HQ.out.below hb1)
      have k0 : ∀ x : KeptW w1, x.v.cell? ⟨b, off + k * 13, none⟩ = some (.string qa) := fun x => x.cell (b_old hb1 x0)
      have hne : Nonempty (KeptW w1) := ⟨⟨w1, Below.refl _ _⟩⟩
      have hat1 : ∀ x : KeptW w1, Calls Tryz.prog 46 #[.slice (some ⟨b, off, none⟩) k cap, .string qa] x.v fun e w' => e = .returned (.int .i64 f) ∧ Below x.v.heap.size x.v w' := fun x =>
        (hat x.v (HQ1.out.below x.below)).mono fun e w' ⟨h1, m, h2⟩ => ⟨h1, by rw [h2]; exact ⟨rfl, rfl, rfl, Nat.le_refl _, fun _ _ => rfl⟩⟩
      clear x0 x1 x2 x3 x4 x5 x6 x7 x8 x9 x10 x11 x12 hcall hat hb1
      by_cases he : e = 0
      · subst he
        go_wp2_with fail
        refine region_kept (by kernel_rfl) (by kernel_rfl) ?_
        iterate 11 (go_big_quiet_step (fail))
        go_big_quiet_step (exact KeptW.calls (hat1 _))
        iterate 2 (go_big_quiet_step (fail))
        refine wpQuiet_nil ?_
        rintro _ ⟨x, rfl⟩
        have HBx : Hid (Below w.heap.size w x.v) := Lib.hid (b_then HB1.out x.below)
        have HQx : Hid (RqsAt x.v b off l) := Lib.hid (HQ1.out.below x.below)
        clear k0 hne hat1
        by_cases hf : 0 ≤ f
        · have HZ := Lib.hid (show reqsErr l = 9 by rw [HD.out]; simp [fst, unl, hf])
          go_wp2_with fail
          go_ret
          exact ⟨by rw [HZ.out]; rfl, HBx.out⟩
        · have HZ := Lib.hid (show reqsErr l = namedErr (l.drop (k + 1)) (seenT l (k + 1)) by rw [HD.out]; simp [fst, unl, hf])
          go_wp2_with fail
          go_round
          case rel => exact ⟨k + 1, by omega, by go_num, HZ, HQx, HBx⟩
          case measure => simp [intOf]; omega
      · have hb : (e == 0) = false := by simpa using he
        have hb' : (e != 0) = true := by simpa using he
        have HZ := Lib.hid (show reqsErr l = e by rw [HD.out]; simp [fst, he])
        clear he
        go_wp2_with fail
        refine region_kept (by kernel_rfl) (by kernel_rfl) ?_
        iterate 14 (go_big_quiet_step (fail))
        refine wpQuiet_nil ?_
        rintro _ ⟨x, rfl⟩
        go_wp2_with fail
        go_ret
        exact ⟨by rw [HZ.out]; rfl, b_then HB1.out x.below⟩
    · have HZ := Lib.hid (show reqsErr l = 0 by rw [HF.out, List.drop_of_length_le (by omega)]; rfl)
      go_wp2_with fail
      go_ret
      exact ⟨by rw [HZ.out]; rfl, HB.out⟩
end Go.Proofs.YtphoclgibnhjfaaGreat
namespace Go.Proofs.YtphoclgibnhjfaaGreat
open Go Go.RowKit
theorem empty_toList : (⟨#[]⟩ : ByteArray).toList = [] := by rw [ByteArray.toList_eq]
theorem filterMap_cong {α β : Type} {f g : α → Option β} : ∀ {l : List α}, (∀ x ∈ l, f x = g x) → l.filterMap f = l.filterMap g
  | [], _ => rfl
  | a :: r, h => by rw [List.filterMap_cons, List.filterMap_cons, h a (by simp), filterMap_cong (fun x hx => h x (by simp [hx]))]
theorem fst_zero (l : List Int) : fst l = 0 ↔ ∀ e ∈ l, e = 0 := by
  induction l with
  | nil => simp [fst]
  | cons a r ih =>
    unfold fst
    by_cases h : a = 0
    · subst h; simp [ih]
    · simp [h]
theorem unl_zero {b : Bool} {e : Int} (he : e ≠ 0) : unl b e = 0 ↔ b = true := by
  cases b <;> simp [unl, he]
/-- Requests without error. -/
structure Good (L : List ReqV) : Prop where
  len : L.length ≤ 64
  each : ∀ k, k < L.length → reqErr (L.getD k default) = 0
  dist : ∀ i j, i < L.length → j < L.length → (L.getD i default).name = (L.getD j default).name → i = j
theorem findIx_spec (s : ByteArray) : ∀ (l : List ReqV) (i : Nat), (∃ k, k < l.length ∧ findIx s l i = ((i + k : Nat) : Int) ∧ (l.getD k default).name = s) ∨ (findIx s l i = -1 ∧ ∀ k, k < l.length → (l.getD k default).name ≠ s)
  | [], i => .inr ⟨rfl, by simp⟩
  | q :: r, i => by
    unfold findIx
    by_cases h : (q.name.toList == s.toList) = true
    · rw [if_pos h]; exact .inl ⟨0, by simp, by simp, toList_inj' (eq_of_beq h)⟩
    · rw [if_neg h]
      rcases findIx_spec s r (i + 1) with ⟨k, hk, e, hn⟩ | ⟨e, hn⟩
      · exact .inl ⟨k + 1, by simpa using hk, by rw [e]; congr 1; omega, by simpa using hn⟩
      · refine .inr ⟨e, fun k hk => ?_⟩
        cases k with
        | zero => intro e2; exact h (by simp at e2; simp [e2])
        | succ k => simpa using hn k (by simpa using hk)
theorem take_getD (L : List ReqV) (n i : Nat) (h : i < n) : (L.take n).getD i default = L.getD i default := by
  simp [List.getD_eq_getElem?_getD, List.getElem?_take_of_lt h]
theorem good_of {L : List ReqV} (h : reqsErr L = 0) : Good L := by
  have hlen : L.length ≤ 64 := by
    unfold reqsErr at h
    by_cases h2 : 64 < L.length
    · rw [if_pos h2] at h; omega
    · omega
  have h0 : namedErr L (seenT L 0) = 0 := by
    unfold reqsErr at h
    rwa [if_neg (by omega), ← seenT_zero L] at h
  have key : ∀ k, k ≤ L.length → namedErr (L.drop k) (seenT L k) = 0 := by
    intro k
    induction k with
    | zero => intro _; simpa using h0
    | succ k ih =>
      intro hk
      have := ih (by omega)
      rw [namedErr_ref L k (by omega) _ rfl] at this
      split at this
      · rename_i hne; exact absurd this hne
      · exact this
  have each : ∀ k, k < L.length → reqErr (L.getD k default) = 0 ∧ findIx (L.getD k default).name (L.take k) 0 < 0 := by
    intro k hk
    have := key k (by omega)
    rw [namedErr_ref L k hk _ rfl] at this
    have hz : fst [reqErr (L.getD k default), unl (!(decide (0 ≤ findIx (L.getD k default).name (L.take k) 0))) 9] = 0 := by
      split at this
      · rename_i hne; exact absurd this hne
      · rename_i hne; simpa using hne
    rw [fst_zero] at hz
    refine ⟨hz _ (by simp), ?_⟩
    have h2 := (unl_zero (by decide)).1 (hz (unl (!(decide (0 ≤ findIx (L.getD k default).name (L.take k) 0))) 9) (by simp))
    simpa using h2
  have lt : ∀ i j, i < j → j < L.length → (L.getD i default).name ≠ (L.getD j default).name := by
    intro i j hij hj e
    rcases findIx_spec (L.getD j default).name (L.take j) 0 with ⟨k, hk, e2, _⟩ | ⟨_, hn⟩
    · have := (each j hj).2; rw [e2] at this; omega
    · exact hn i (by simp; omega) (by rw [take_getD L j i hij]; exact e)
  refine ⟨hlen, fun k hk => (each k hk).1, fun i j hi hj e => ?_⟩
  rcases Nat.lt_trichotomy i j with h1 | h1 | h1
  · exact absurd e (lt i j h1 hj)
  · exact h1
  · exact absurd e.symm (lt j i h1 hi)
theorem of_good {L : List ReqV} (h : Good L) : reqsErr L = 0 := by
  have key : ∀ m k, k + m = L.length → namedErr (L.drop k) (seenT L k) = 0 := by
    intro m
    induction m with
    | zero => intro k hk; rw [List.drop_of_length_le (by omega)]; rfl
    | succ m ih =>
      intro k hk
      have hlt : k < L.length := by omega
      rw [namedErr_ref L k hlt _ rfl]
      have hf : findIx (L.getD k default).name (L.take k) 0 < 0 := by
        rcases findIx_spec (L.getD k default).name (L.take k) 0 with ⟨j, hj, e2, hn⟩ | ⟨e, _⟩
        · have hjk : j < k := by simp at hj; omega
          rw [take_getD L k j hjk] at hn
          have := h.dist j k (by omega) hlt hn
          omega
        · omega
      have hz : fst [reqErr (L.getD k default), unl (!(decide (0 ≤ findIx (L.getD k default).name (L.take k) 0))) 9] = 0 := by
        rw [h.each k hlt, decide_eq_false (by omega)]
        simp [fst, unl]
      rw [if_neg (fun hne => hne hz)]
      exact ih (k + 1) (by omega)
  unfold reqsErr
  rw [if_neg (by have := h.len; omega), ← seenT_zero L]
  simpa using key L.length 0 (by simp)
theorem Good.ix {L : List ReqV} (h : Good L) {k : Nat} (hk : k < L.length) {s : ByteArray} (e : (L.getD k default).name = s) : findIx s L 0 = (k : Int) := by
  rcases findIx_spec s L 0 with ⟨j, hj, e2, hn⟩ | ⟨_, hn⟩
  · rw [e2, h.dist j k hj hk (hn.trans e.symm)]; simp
  · exact absurd e (hn k hk)
theorem Good.name_ne {L : List ReqV} (h : Good L) {k : Nat} (hk : k < L.length) : ((L.getD k default).name.toList == []) = false := by
  have h1 := h.each k hk
  unfold reqErr at h1
  rw [fst_zero] at h1
  have h2 := h1 (nameE (L.getD k default).name) (by simp)
  unfold nameE at h2
  have h3 := of_decide_eq_true ((unl_zero (by decide)).1 h2)
  generalize (L.getD k default).name = s at *
  cases hs : (s.toList == [])
  · rfl
  · exact absurd (by rw [ByteArray.toList_eq] at hs; obtain ⟨⟨l⟩⟩ := s; simp at hs; subst hs; rfl) h3.1
theorem Good.kind {L : List ReqV} (h : Good L) {k : Nat} (hk : k < L.length) : (L.getD k default).kind.toList = [65] ∨ (L.getD k default).kind.toList = [68] := by
  have h1 := h.each k hk
  unfold reqErr at h1
  rw [fst_zero] at h1
  have h2 := h1 (kindE (L.getD k default).kind) (by simp)
  unfold kindE at h2
  have h3 := (unl_zero (by decide)).1 h2
  simpa [isKindB] using h3
theorem rev_getD (L : List ReqV) (k : Nat) (hk : k < L.length) : L.reverse.getD k default = L.getD (L.length - 1 - k) default := by
  simp [List.getD_eq_getElem?_getD, List.getElem?_reverse hk]
theorem Good.reverse {L : List ReqV} (h : Good L) : Good L.reverse := by
  refine ⟨by simpa using h.len, fun k hk => ?_, fun i j hi hj e => ?_⟩
  · simp at hk; rw [rev_getD L k hk]; exact h.each _ (by omega)
  · simp at hi hj
    rw [rev_getD L i hi, rev_getD L j hj] at e
    have := h.dist _ _ (by omega) (by omega) e
    omega
/-- A request without its link. -/
def ReqV.free (q : ReqV) : ReqV := { q with link := ⟨#[]⟩ }
theorem reqErr_free {q : ReqV} (h : reqErr q = 0) : reqErr q.free = 0 := by
  unfold reqErr at *
  rw [fst_zero] at *
  have hn := h (nameE q.name) (by simp)
  have hn' : isName q.name := by unfold nameE at hn; exact of_decide_eq_true ((unl_zero (by decide)).1 hn)
  have hne : ((⟨#[]⟩ : ByteArray).toList != q.name.toList) = true := by
    rw [bne_iff_ne]
    intro e
    have := toList_inj' e
    exact hn'.1 (by rw [← this]; rfl)
  intro e he
  simp only [ReqV.free, List.mem_cons, List.not_mem_nil, or_false] at he
  rcases he with rfl | rfl | rfl | rfl | rfl | rfl | rfl | rfl | rfl | rfl | rfl | rfl
  · exact hn
  · exact h _ (by simp)
  · exact h _ (by simp)
  · exact h _ (by simp)
  · unfold optE; rw [empty_toList]; rfl
  · exact h _ (by simp)
  · rw [hne]; rfl
  · exact h _ (by simp)
  · exact h _ (by simp)
  · exact h _ (by simp)
  · exact h _ (by simp)
  · exact h _ (by simp)
theorem map_getD (L : List ReqV) (k : Nat) (hk : k < L.length) : (L.map ReqV.free).getD k default = (L.getD k default).free := by
  simp [List.getD_eq_getElem?_getD, List.getElem?_eq_getElem hk]
theorem Good.free {L : List ReqV} (h : Good L) : Good (L.map ReqV.free) := by
  refine ⟨by simpa using h.len, fun k hk => ?_, fun i j hi hj e => ?_⟩
  · simp at hk; rw [map_getD L k hk]; exact reqErr_free (h.each k hk)
  · simp at hi hj
    rw [map_getD L i hi, map_getD L j hj] at e
    exact h.dist _ _ hi hj e
/-- The request i has no link, or one that fits. -/
def okAt (L : List ReqV) (q : ReqV) : Prop := ((q.link.toList == []) = true) ∨ (0 ≤ findIx q.link L 0 ∧ fitsB q (L.getD (findIx q.link L 0).toNat default) = true)
/-- The pair of the request i. -/
def prF (L : List ReqV) (i : Nat) : Option (Int × Int) :=
  if ((L.getD i default).link.toList == []) = true then none else if ((L.getD i default).kind.toList == [65]) = true then some ((i : Int), findIx (L.getD i default).link L 0) else none
def prL (L : List ReqV) : List (Int × Int) := (List.range' 0 L.length).filterMap (prF L)
theorem pairsGo_spec (L : List ReqV) (m : Nat) : ∀ (k : Nat) (acc : List (Int × Int)), k + m = L.length →
    ((∀ i, k ≤ i → i < L.length → okAt L (L.getD i default)) ∧ pairsGo L (L.drop k) k acc = (acc ++ (List.range' k m).filterMap (prF L), 0)) ∨
    ((∃ i, k ≤ i ∧ i < L.length ∧ ¬ okAt L (L.getD i default)) ∧ (pairsGo L (L.drop k) k acc = ([], 10) ∨ pairsGo L (L.drop k) k acc = ([], 32))) := by
  induction m with
  | zero =>
    intro k acc hk
    refine .inl ⟨fun i h1 h2 => by omega, ?_⟩
    rw [List.drop_of_length_le (by omega)]; simp [pairsGo]
  | succ m ih =>
    intro k acc hk
    have hlt : k < L.length := by omega
    rw [pairsGo_drop L L k hlt _ rfl acc, List.range'_succ, List.filterMap_cons]
    have hall : ∀ (h : okAt L (L.getD k default)), (∀ i, k + 1 ≤ i → i < L.length → okAt L (L.getD i default)) → ∀ i, k ≤ i → i < L.length → okAt L (L.getD i default) := fun h h2 i h3 h4 => by
      rcases Nat.lt_or_ge k i with h5 | h5
      · exact h2 i (by omega) h4
      · obtain rfl : i = k := by omega
        exact h
    have hex : (∃ i, k + 1 ≤ i ∧ i < L.length ∧ ¬ okAt L (L.getD i default)) → ∃ i, k ≤ i ∧ i < L.length ∧ ¬ okAt L (L.getD i default) := fun ⟨i, h1, h2, h3⟩ => ⟨i, by omega, h2, h3⟩
    by_cases hl : ((L.getD k default).link.toList == []) = true
    · rw [if_pos hl]
      have hp : prF L k = none := by unfold prF; rw [if_pos hl]
      rw [hp]
      rcases ih (k + 1) acc (by omega) with ⟨h1, h2⟩ | ⟨h1, h2⟩
      · exact .inl ⟨hall (.inl hl) h1, h2⟩
      · exact .inr ⟨hex h1, h2⟩
    · rw [if_neg hl]
      by_cases hf : findIx (L.getD k default).link L 0 < 0
      · rw [if_pos hf]
        exact .inr ⟨⟨k, Nat.le_refl _, hlt, fun h => by rcases h with h | h; exact hl h; omega⟩, .inl rfl⟩
      · rw [if_neg hf]
        by_cases hb : fitsB (L.getD k default) (L.getD (findIx (L.getD k default).link L 0).toNat default) = false
        · rw [if_pos hb]
          exact .inr ⟨⟨k, Nat.le_refl _, hlt, fun h => by rcases h with h | h; exact hl h; rw [hb] at h; cases h.2⟩, .inr rfl⟩
        · rw [if_neg hb]
          have hok : okAt L (L.getD k default) := .inr ⟨by omega, by simpa using hb⟩
          by_cases ha : ((L.getD k default).kind.toList == [65]) = true
          · rw [if_pos ha]
            have hp : prF L k = some ((k : Int), findIx (L.getD k default).link L 0) := by unfold prF; rw [if_neg hl, if_pos ha]
            rw [hp]
            rcases ih (k + 1) (acc ++ [((k : Int), findIx (L.getD k default).link L 0)]) (by omega) with ⟨h1, h2⟩ | ⟨h1, h2⟩
            · exact .inl ⟨hall hok h1, by rw [h2]; simp⟩
            · exact .inr ⟨hex h1, h2⟩
          · rw [if_neg ha]
            have hp : prF L k = none := by unfold prF; rw [if_neg hl, if_neg ha]
            rw [hp]
            rcases ih (k + 1) acc (by omega) with ⟨h1, h2⟩ | ⟨h1, h2⟩
            · exact .inl ⟨hall hok h1, h2⟩
            · exact .inr ⟨hex h1, h2⟩
def allOk (L : List ReqV) : Prop := ∀ i, i < L.length → okAt L (L.getD i default)
theorem pairsOf_spec {L : List ReqV} (h : Good L) : (allOk L ∧ pairsOf L = (prL L, 0)) ∨ (¬ allOk L ∧ (pairsOf L = ([], 10) ∨ pairsOf L = ([], 32))) := by
  unfold pairsOf
  rw [if_neg (by simp [of_good h])]
  have := pairsGo_spec L L.length 0 [] (by simp)
  simp only [List.drop_zero, List.nil_append] at this
  rcases this with ⟨h1, h2⟩ | ⟨⟨i, _, h2, h3⟩, h4⟩
  · exact .inl ⟨fun i hi => h1 i (Nat.zero_le _) hi, h2⟩
  · exact .inr ⟨fun hA => h3 (hA i h2), h4⟩
theorem okAt_iff {L : List ReqV} (h : Good L) (q : ReqV) : okAt L q ↔ ((q.link.toList == []) = true ∨ ∃ j, j < L.length ∧ (L.getD j default).name = q.link ∧ fitsB q (L.getD j default) = true) := by
  unfold okAt
  constructor
  · rintro (h1 | ⟨h1, h2⟩)
    · exact .inl h1
    · rcases findIx_spec q.link L 0 with ⟨k, hk, e, hn⟩ | ⟨e, _⟩
      · rw [e] at h2; simp at h2; exact .inr ⟨k, hk, hn, h2⟩
      · omega
  · rintro (h1 | ⟨j, hj, hn, h2⟩)
    · exact .inl h1
    · rw [h.ix hj hn]; exact .inr ⟨by omega, by simpa using h2⟩
theorem allOk_rev {L : List ReqV} (h : Good L) (ha : allOk L) : allOk L.reverse := by
  intro i hi
  simp at hi
  rw [rev_getD L i hi, okAt_iff h.reverse]
  rcases (okAt_iff h _).1 (ha (L.length - 1 - i) (by omega)) with h1 | ⟨j, hj, hn, h2⟩
  · exact .inl h1
  · refine .inr ⟨L.length - 1 - j, by simp; omega, ?_, ?_⟩
    · rw [rev_getD L _ (by omega), show L.length - 1 - (L.length - 1 - j) = j by omega]; exact hn
    · rw [rev_getD L _ (by omega), show L.length - 1 - (L.length - 1 - j) = j by omega]; exact h2
theorem allOk_iff {L : List ReqV} (h : Good L) : allOk L.reverse ↔ allOk L :=
  ⟨fun ha => by simpa using allOk_rev h.reverse ha, allOk_rev h⟩
theorem pairsOf_free {L : List ReqV} (h : Good L) : pairsOf (L.map ReqV.free) = ([], 0) := by
  have hl : ∀ i, i < L.length → ((((L.map ReqV.free).getD i default).link.toList == []) = true) := fun i hi => by rw [map_getD L i hi, ReqV.free, empty_toList]; rfl
  rcases pairsOf_spec h.free with ⟨_, h2⟩ | ⟨h1, _⟩
  · rw [h2]
    have : prL (L.map ReqV.free) = [] := by
      unfold prL
      rw [List.filterMap_eq_nil_iff]
      intro i hi
      have hi' : i < L.length := by simpa using (List.mem_range'_1.1 hi).2
      unfold prF; rw [if_pos (hl i hi')]
    rw [this]
  · exact absurd (fun i hi => .inl (hl i (by simpa using hi))) h1
def turn (n : Nat) (x : Int × Int) : Int × Int := ((n : Int) - 1 - x.1, (n : Int) - 1 - x.2)
theorem prF_rev {L : List ReqV} (h : Good L) (ha : allOk L) (k : Nat) (hk : k < L.length) : prF L.reverse k = (prF L (L.length - 1 - k)).map (turn L.length) := by
  unfold prF
  rw [rev_getD L k hk]
  split
  · rfl
  · rename_i hl
    split
    · rcases ha (L.length - 1 - k) (by omega) with h1 | ⟨h1, _⟩
      · exact absurd h1 hl
      · rcases findIx_spec (L.getD (L.length - 1 - k) default).link L 0 with ⟨j, hj, e, hn⟩ | ⟨e, _⟩
        · have : findIx (L.getD (L.length - 1 - k) default).link L.reverse 0 = ((L.length - 1 - j : Nat) : Int) :=
            h.reverse.ix (by simp; omega) (by rw [rev_getD L _ (by omega), show L.length - 1 - (L.length - 1 - j) = j by omega]; exact hn)
          rw [this, e]
          simp only [Option.map_some, turn, Option.some.injEq, Prod.mk.injEq]
          omega
        · omega
    · rfl
theorem prL_rev {L : List ReqV} (h : Good L) (ha : allOk L) : prL L.reverse = ((prL L).map (turn L.length)).reverse := by
  unfold prL
  rw [List.map_filterMap, ← List.filterMap_reverse, List.reverse_range', List.filterMap_map]
  rw [List.length_reverse, ← List.range_eq_range']
  refine filterMap_cong fun k hk => ?_
  have hk' : k < L.length := by simpa using hk
  rw [prF_rev h ha k hk']
  simp
/-- What the statement asks of a pair. -/
structure PairOk (L : List ReqV) (i j : Nat) : Prop where
  hi : i < L.length
  hj : j < L.length
  ne : i ≠ j
  ka : (L.getD i default).kind.toList = [65]
  kd : (L.getD j default).kind.toList = [68]
  car : (L.getD i default).carrier.toList = (L.getD j default).carrier.toList
  l1 : (L.getD i default).link.toList = (L.getD j default).name.toList
  l2 : (L.getD j default).link.toList = (L.getD i default).name.toList
theorem pair_at {L : List ReqV} (h : Good L) (ha : allOk L) {i : Nat} (hi : i < L.length) (hl : ¬ ((L.getD i default).link.toList == []) = true) :
    ∃ j : Nat, findIx (L.getD i default).link L 0 = (j : Int) ∧ j < L.length ∧ (L.getD i default).link = (L.getD j default).name ∧ (L.getD j default).link.toList = (L.getD i default).name.toList ∧ (L.getD j default).kind.toList ≠ (L.getD i default).kind.toList ∧ (L.getD i default).carrier.toList = (L.getD j default).carrier.toList := by
  rcases (okAt_iff h _).1 (ha i hi) with h1 | ⟨j, hj, hn, h2⟩
  · exact absurd h1 hl
  · unfold fitsB at h2
    simp only [Bool.and_eq_true, beq_iff_eq, Bool.not_eq_true', beq_eq_false_iff_ne] at h2
    exact ⟨j, h.ix hj hn, hj, hn.symm, h2.1, h2.2.1, h2.2.2.symm⟩
theorem pair_ok {L : List ReqV} (h : Good L) (ha : allOk L) {x : Int × Int} (hx : x ∈ prL L) : ∃ i j : Nat, x = ((i : Int), (j : Int)) ∧ PairOk L i j := by
  unfold prL at hx
  obtain ⟨i, hi, e⟩ := List.mem_filterMap.1 hx
  have hi' : i < L.length := by simpa using (List.mem_range'_1.1 hi).2
  unfold prF at e
  split at e
  · cases e
  · rename_i hl
    split at e
    · rename_i hk
      obtain ⟨j, e1, hj, e2, e3, e4, e5⟩ := pair_at h ha hi' hl
      rw [e1] at e
      cases e
      have hk' : (L.getD i default).kind.toList = [65] := by simpa using hk
      refine ⟨i, j, rfl, hi', hj, fun he => e4 (by rw [he]), hk', ?_, e5, by rw [e2], e3⟩
      rcases h.kind hj with h1 | h1
      · exact absurd (h1.trans hk'.symm) e4
      · exact h1
    · cases e
theorem prL_asc (L : List ReqV) : (prL L).Pairwise fun x y => x.1 < y.1 := by
  unfold prL
  rw [List.pairwise_filterMap]
  refine List.Pairwise.imp ?_ (List.pairwise_lt_range' (s := 0) (n := L.length))
  intro a b hab x hx y hy
  have hf : ∀ (c : Nat) (z : Int × Int), prF L c = some z → z.1 = (c : Int) := fun c z hz => by
    unfold prF at hz
    split at hz
    · cases hz
    · split at hz
      · cases hz; rfl
      · cases hz
  rw [hf a x hx, hf b y hy]
  omega
/-- Pairs that come one after another share no request. -/
theorem prL_apart {L : List ReqV} (h : Good L) (ha : allOk L) : (prL L).Pairwise fun x y => x.1 ≠ y.1 ∧ x.1 ≠ y.2 ∧ x.2 ≠ y.1 ∧ x.2 ≠ y.2 := by
  refine List.Pairwise.imp_of_mem ?_ (prL_asc L)
  intro x y hx hy hlt
  obtain ⟨i, j, rfl, p⟩ := pair_ok h ha hx
  obtain ⟨i', j', rfl, p'⟩ := pair_ok h ha hy
  have hii : i ≠ i' := by intro e; subst e; simp at hlt
  refine ⟨by simp; omega, ?_, ?_, ?_⟩
  · intro e
    have e' : i = j' := by simp at e; omega
    subst e'
    have := p.ka.symm.trans p'.kd
    simp at this
  · intro e
    have e' : j = i' := by simp at e; omega
    subst e'
    have := p'.ka.symm.trans p.kd
    simp at this
  · intro e
    have e' : j = j' := by simp at e; omega
    subst e'
    exact hii (h.dist i i' p.hi p'.hi (toList_inj' (p.l2.symm.trans p'.l2)))
/-- Each linked request is in a pair, and no other one. -/
theorem prL_all {L : List ReqV} (h : Good L) (ha : allOk L) {i : Nat} (hi : i < L.length) : ((L.getD i default).link.toList == []) = false ↔ ∃ x ∈ prL L, x.1 = (i : Int) ∨ x.2 = (i : Int) := by
  constructor
  · intro hl
    have hl' : ¬ ((L.getD i default).link.toList == []) = true := by rw [hl]; simp
    obtain ⟨j, e1, hj, e2, e3, e4, e5⟩ := pair_at h ha hi hl'
    have mem : ∀ k, k < L.length → ∀ z, prF L k = some z → z ∈ prL L := fun k hk z hz => by
      unfold prL
      exact List.mem_filterMap.2 ⟨k, List.mem_range'_1.2 ⟨Nat.zero_le _, by omega⟩, hz⟩
    rcases h.kind hi with hk | hk
    · refine ⟨((i : Int), (j : Int)), mem i hi _ ?_, .inl rfl⟩
      unfold prF
      rw [if_neg hl', if_pos (by rw [hk]; rfl), e1]
    · have hkj : (L.getD j default).kind.toList = [65] := by
        rcases h.kind hj with h1 | h1
        · exact h1
        · exact absurd (h1.trans hk.symm) e4
      have hlj : ¬ ((L.getD j default).link.toList == []) = true := by
        rw [e3, h.name_ne hi]; simp
      refine ⟨((j : Int), (i : Int)), mem j hj _ ?_, .inr rfl⟩
      unfold prF
      rw [if_neg hlj, if_pos (by rw [hkj]; rfl), h.ix hi (toList_inj' e3).symm]
  · rintro ⟨x, hx, hxi⟩
    obtain ⟨a, b, rfl, p⟩ := pair_ok h ha hx
    rcases hxi with e | e
    · have e' : a = i := by have := e; simp only at this; omega
      subst e'
      rw [p.l1]; exact h.name_ne p.hj
    · have e' : b = i := by have := e; simp only at this; omega
      subst e'
      rw [p.l2]; exact h.name_ne p.hi
end Go.Proofs.YtphoclgibnhjfaaGreat
namespace Go.Proofs.YtphoclgibnhjfaaGreat
open Go Go.RowKit
/-- The words of a line. -/
def wordAt (l : LineV) : Nat → ByteArray
  | 0 => l.act
  | 1 => l.q.carrier
  | 2 => l.q.name
  | 3 => l.q.kind
  | 4 => l.q.partner
  | 5 => widT l.q.from_.toNat 5
  | 6 => widT l.q.to.toNat 5
  | 7 => maskT l.q.days.toNat
  | 8 => mTxt l.q.minute
  | 9 => widT l.q.seats.toNat 3
  | 10 => widT l.q.size.toNat 1
  | 11 => widT l.q.noise.toNat 2
  | 12 => dashT l.q.terminal
  | _ => dashT l.q.link
def words (l : LineV) : List ByteArray := (List.range 14).map (wordAt l)
theorem words_len (l : LineV) : (words l).length = 14 := by simp [words]
theorem words_getD (l : LineV) (k : Nat) (h : k < 14) : (words l).getD k ⟨#[]⟩ = wordAt l k := by simp [words, List.getD_eq_getElem?_getD, h]
/-- The string of a line. -/
def lineT (l : LineV) : ByteArray := ⟨(Lib.join ((words l).map (·.data.toList)) [32]).toArray⟩
theorem rng_zero' {n a b : Int} (h : rng n a b = 0) : a ≤ n ∧ n ≤ b := by
  unfold rng at h; split at h
  · assumption
  · omega
/-- A line without error. -/
structure LineOk (l : LineV) : Prop where
  act : actB l.act.data.toList = true
  name : isName l.q.name
  carrier : isName l.q.carrier
  partner : isName l.q.partner
  terminal : l.q.terminal.toList = [] ∨ isName l.q.terminal
  link : l.q.link.toList = [] ∨ isName l.q.link
  kind : isKindB l.q.kind = true
  from_ : 0 ≤ l.q.from_ ∧ l.q.from_ ≤ 99999
  to : 0 ≤ l.q.to ∧ l.q.to ≤ 99999
  days : 1 ≤ l.q.days ∧ l.q.days ≤ 127
  minute : 0 ≤ l.q.minute ∧ l.q.minute ≤ 1439
  seats : 0 ≤ l.q.seats ∧ l.q.seats ≤ 999
  size : 1 ≤ l.q.size ∧ l.q.size ≤ 9
  noise : 0 ≤ l.q.noise ∧ l.q.noise ≤ 99
theorem opt_ok {s : ByteArray} (h : optE s = 0) : s.toList = [] ∨ isName s := by
  unfold optE at h
  have := (unl_zero (by decide)).1 h
  simpa using this
theorem line_ok {l : LineV} (h : lineErr l = 0) : LineOk l := by
  unfold lineErr at h
  rw [fst_zero] at h
  have ha := (unl_zero (by decide)).1 (h (unl (actB l.act.data.toList) 13) (by simp))
  have hr := h (reqErr l.q) (by simp)
  unfold reqErr at hr
  rw [fst_zero] at hr
  have nm : ∀ s, nameE s = 0 → isName s := fun s hs => of_decide_eq_true ((unl_zero (by decide)).1 hs)
  have hp := hr (perErr l.q.from_ l.q.to l.q.days) (by simp)
  unfold perErr at hp
  rw [fst_zero] at hp
  exact ⟨ha, nm _ (hr _ (by simp)), nm _ (hr _ (by simp)), nm _ (hr _ (by simp)), opt_ok (hr _ (by simp)), opt_ok (hr _ (by simp)), (unl_zero (by decide)).1 (hr (kindE l.q.kind) (by simp)),
    rng_zero' (hp _ (by simp)), rng_zero' (hp _ (by simp)), rng_zero' (hp _ (by simp)), rng_zero' (hr _ (by simp)), rng_zero' (hr _ (by simp)), rng_zero' (hr _ (by simp)), rng_zero' (hr _ (by simp))⟩
theorem show_text {w : World} {N o : Nat} {A W : FuncId} {s r : Value} {l : LineV} {t : ByteArray} (h : FieldW w N (.text A W) s r) (hA : AtF A o) (hc : l.cells[o]? = some (.string t)) : ShowAt w s l t := by
  obtain ⟨b, c, _, _, rfl, _, hb, _⟩ := h
  exact ⟨⟨_, _, rfl, enters Tryz.func188 (by kernel_rfl) (by kernel_rfl), fun x hx => textShow A o b l t x hA hc (b_old hx hb)⟩⟩
theorem show_num {w : World} {N o k : Nat} {A : FuncId} {s r : Value} {l : LineV} {n : Int} (h : FieldW w N (.num A k) s r) (hA : AtF A o) (hc : l.cells[o]? = some (.int .i64 n)) (hn : 0 ≤ n ∧ n ≤ 99999) (hk : k ≤ 9) : ShowAt w s l (widT n.toNat k) := by
  obtain ⟨b, c, _, _, rfl, _, hb, hw⟩ := h
  have e : n = ((n.toNat : Nat) : Int) := by omega
  rw [e] at hc
  exact ⟨⟨_, _, rfl, enters Tryz.func190 (by kernel_rfl) (by kernel_rfl), fun x hx => numShow A o b c k n.toNat l x hA hc (b_old hx hb) (b_old hx hw) hk (by omega)⟩⟩
theorem show_code {w : World} {N o : Nat} {A S P : FuncId} {s r : Value} {l : LineV} {n er : Int} {t : ByteArray} (h : FieldW w N (.code A S P) s r) (hA : AtF A o) (hc : l.cells[o]? = some (.int .i64 n)) (hSe : Enters S)
    (hS : ∀ w, Calls Tryz.prog S #[.int .i64 n] w fun e w' => e = .returned (.tuple #[.string t, .int .i64 er]) ∧ Below w.heap.size w w') : ShowAt w s l t := by
  obtain ⟨b, c, d, _, _, _, rfl, _, hb, hw, _⟩ := h
  exact ⟨⟨_, _, rfl, enters Tryz.func192 (by kernel_rfl) (by kernel_rfl), fun x hx => codeShow A S o b c n t er l x hA hc (b_old hx hb) (b_old hx hw) hSe hS⟩⟩
theorem show_opt {w : World} {N o : Nat} {A : FuncId} {s r : Value} {l : LineV} {t : ByteArray} (h : FieldW w N (.opt A) s r) (hA : AtF A o) (hc : l.cells[o]? = some (.string t)) : ShowAt w s l (dashT t) := by
  obtain ⟨b, _, rfl, _, hb⟩ := h
  exact ⟨⟨_, _, rfl, enters Tryz.func195 (by kernel_rfl) (by kernel_rfl), fun x hx => optShow A o b l t x hA hc (b_old hx hb)⟩⟩
theorem atF0 : AtF 141 0 := ⟨enters Tryz.func141 (by kernel_rfl) (by kernel_rfl), at0_any⟩
theorem atF1 : AtF 142 2 := ⟨enters Tryz.func142 (by kernel_rfl) (by kernel_rfl), at1_any⟩
theorem atF2 : AtF 144 1 := ⟨enters Tryz.func144 (by kernel_rfl) (by kernel_rfl), at2_any⟩
theorem atF3 : AtF 145 3 := ⟨enters Tryz.func145 (by kernel_rfl) (by kernel_rfl), at3_any⟩
theorem atF4 : AtF 147 5 := ⟨enters Tryz.func147 (by kernel_rfl) (by kernel_rfl), at4_any⟩
theorem atF5 : AtF 149 7 := ⟨enters Tryz.func149 (by kernel_rfl) (by kernel_rfl), at5_any⟩
theorem atF6 : AtF 150 8 := ⟨enters Tryz.func150 (by kernel_rfl) (by kernel_rfl), at6_any⟩
theorem atF7 : AtF 152 9 := ⟨enters Tryz.func152 (by kernel_rfl) (by kernel_rfl), at7_any⟩
theorem atF8 : AtF 155 10 := ⟨enters Tryz.func155 (by kernel_rfl) (by kernel_rfl), at8_any⟩
theorem atF9 : AtF 156 11 := ⟨enters Tryz.func156 (by kernel_rfl) (by kernel_rfl), at9_any⟩
theorem atF10 : AtF 157 12 := ⟨enters Tryz.func157 (by kernel_rfl) (by kernel_rfl), at10_any⟩
theorem atF11 : AtF 158 13 := ⟨enters Tryz.func158 (by kernel_rfl) (by kernel_rfl), at11_any⟩
theorem atF12 : AtF 160 4 := ⟨enters Tryz.func160 (by kernel_rfl) (by kernel_rfl), at12_any⟩
theorem atF13 : AtF 161 6 := ⟨enters Tryz.func161 (by kernel_rfl) (by kernel_rfl), at13_any⟩
theorem mask_call (n : Int) (h : 1 ≤ n ∧ n ≤ 127) (w : World) : Calls Tryz.prog 153 #[.int .i64 n] w fun e w' => e = .returned (.tuple #[.string (maskT n.toNat), .int .i64 0]) ∧ Below w.heap.size w w' := by
  have := PrintMask_ok n.toNat w (by omega) (by omega)
  rwa [show ((n.toNat : Nat) : Int) = n by omega] at this
theorem minute_call (n : Int) (h : 0 ≤ n ∧ n ≤ 1439) (w : World) : Calls Tryz.prog 45 #[.int .i64 n] w fun e w' => e = .returned (.tuple #[.string (mTxt n), .int .i64 0]) ∧ Below w.heap.size w w' := by
  have := PrintMinute_any n w
  rwa [show mOut n = .tuple #[.string (mTxt n), .int .i64 0] from by unfold mOut; rw [if_pos (rng_ok h.1 h.2)]] at this
theorem show_at {w : World} {N : Nat} {lst : List (Value × Value)} {l : LineV} (hf : FieldsUp w N lst) (hlen : lst.length = 14) (hok : LineOk l) : ∀ k, k < 14 → ShowAt w (lst.getD k (undef, undef)).1 l (wordAt l k) := by
  have ha := fun k (hk : k < 14) => hf.at_ k (by omega)
  intro k hk
  match k, hk with
  | 0, _ => exact show_text (ha 0 (by decide)) atF0 rfl
  | 1, _ => exact show_text (ha 1 (by decide)) atF1 rfl
  | 2, _ => exact show_text (ha 2 (by decide)) atF2 rfl
  | 3, _ => exact show_text (ha 3 (by decide)) atF3 rfl
  | 4, _ => exact show_text (ha 4 (by decide)) atF4 rfl
  | 5, _ => exact show_num (ha 5 (by decide)) atF5 rfl (by have := hok.from_; omega) (by decide)
  | 6, _ => exact show_num (ha 6 (by decide)) atF6 rfl (by have := hok.to; omega) (by decide)
  | 7, _ => exact show_code (ha 7 (by decide)) atF7 rfl (enters Tryz.func153 (by kernel_rfl) (by kernel_rfl)) (mask_call _ hok.days)
  | 8, _ => exact show_code (ha 8 (by decide)) atF8 rfl (enters Tryz.func45 (by kernel_rfl) (by kernel_rfl)) (minute_call _ hok.minute)
  | 9, _ => exact show_num (ha 9 (by decide)) atF9 rfl (by have := hok.seats; omega) (by decide)
  | 10, _ => exact show_num (ha 10 (by decide)) atF10 rfl (by have := hok.size; omega) (by decide)
  | 11, _ => exact show_num (ha 11 (by decide)) atF11 rfl (by have := hok.noise; omega) (by decide)
  | 12, _ => exact show_opt (ha 12 (by decide)) atF12 rfl
  | 13, _ => exact show_opt (ha 13 (by decide)) atF13 rfl
end Go.Proofs.YtphoclgibnhjfaaGreat
namespace Go.Proofs.YtphoclgibnhjfaaGreat
open Go Go.RowKit
theorem isName_size {s : ByteArray} (h : isName s) : s.size ≤ 24 := h.2.1
theorem size_list (s : ByteArray) : s.data.toList.length = s.size := Array.length_toList
theorem act_size {s : List UInt8} (h : actB s = true) : s.length ≤ 24 := by
  unfold actB asksB repliesB at h
  simp only [Bool.or_eq_true, beq_iff_eq] at h
  rcases h with (h | h | h | h | h) | (h | h | h | h) <;> (subst h; decide)
theorem kind_size {s : ByteArray} (h : isKindB s = true) : s.size ≤ 24 := by
  unfold isKindB at h
  simp only [Bool.or_eq_true, beq_iff_eq, ByteArray.toList_eq] at h
  rw [← size_list]
  rcases h with h | h <;> (rw [h]; decide)
theorem dash_size {s : ByteArray} (h : s.toList = [] ∨ isName s) : (dashT s).size ≤ 24 := by
  unfold dashT
  split
  · decide
  · rename_i hn
    rcases h with h | h
    · rw [h] at hn; exact absurd rfl hn
    · exact h.2.1
theorem word_size {l : LineV} (h : LineOk l) : ∀ k, k < 14 → (wordAt l k).size ≤ 24 := by
  intro k hk
  match k, hk with
  | 0, _ => rw [← size_list]; exact act_size h.act
  | 1, _ => exact h.carrier.2.1
  | 2, _ => exact h.name.2.1
  | 3, _ => exact kind_size h.kind
  | 4, _ => exact h.partner.2.1
  | 5, _ => rw [show wordAt l _ = widT _ _ from rfl, widT_size]; decide
  | 6, _ => rw [show wordAt l _ = widT _ _ from rfl, widT_size]; decide
  | 7, _ =>
    have : (maskT l.q.days.toNat).size = 7 := rfl
    show (maskT l.q.days.toNat).size ≤ 24
    omega
  | 8, _ =>
    show (two _ ++ two _).size ≤ 24
    rw [ByteArray.size_append]
    exact (by decide : 2 + 2 ≤ 24)
  | 9, _ => rw [show wordAt l _ = widT _ _ from rfl, widT_size]; decide
  | 10, _ => rw [show wordAt l _ = widT _ _ from rfl, widT_size]; decide
  | 11, _ => rw [show wordAt l _ = widT _ _ from rfl, widT_size]; decide
  | 12, _ => exact dash_size h.terminal
  | 13, _ => exact dash_size h.link
theorem lens_le (n : Nat) : ∀ xs : List (List UInt8), (∀ x ∈ xs, x.length ≤ n) → Lib.lens xs ≤ n * xs.length := by
  intro xs
  induction xs with
  | nil => intro _; simp [Lib.lens]
  | cons a r ih =>
    intro h
    have h1 := h a (by simp)
    have h2 := ih (fun x hx => h x (by simp [hx]))
    simp only [Lib.lens, List.map_cons, List.sum_cons, List.length_cons, Nat.mul_add, Nat.mul_one] at *
    omega
theorem join_le (xs : List ByteArray) (sep : List UInt8) (n : Nat) (h : ∀ x ∈ xs, x.size ≤ n) : (Lib.join (xs.map (·.data.toList)) sep).length ≤ (n + sep.length) * xs.length := by
  cases xs with
  | nil => simp [Lib.join_nil]
  | cons a r =>
    rw [List.map_cons, Lib.join_length]
    have h1 := lens_le n ((a :: r).map (·.data.toList)) (fun x hx => by
      obtain ⟨y, hy, rfl⟩ := List.mem_map.1 hx
      rw [size_list]; exact h y hy)
    rw [List.map_cons] at h1
    simp only [List.length_map, List.length_cons] at h1 ⊢
    have : sep.length * r.length ≤ sep.length * (r.length + 1) := Nat.mul_le_mul_left _ (by omega)
    rw [Nat.add_mul]
    omega
theorem words_le {l : LineV} (h : LineOk l) : ∀ x ∈ words l, x.size ≤ 24 := fun x hx => by
  unfold words at hx
  obtain ⟨k, hk, rfl⟩ := List.mem_map.1 hx
  exact word_size h k (by simpa using hk)
theorem lineT_size {l : LineV} (h : LineOk l) : (lineT l).size ≤ 350 := by
  have := join_le (words l) [32] 24 (words_le h)
  rw [words_len] at this
  show (Lib.join ((words l).map (·.data.toList)) [32]).toArray.size ≤ 350
  rw [List.size_toArray]
  exact this
theorem pairFlat_len : ∀ l : List (Value × Value), (pairFlat l).length = l.length * 2 := by
  intro l
  induction l with
  | nil => rfl
  | cons a r ih =>
    have : pairFlat (a :: r) = a.1 :: a.2 :: pairFlat r := rfl
    rw [this]; simp only [List.length_cons, ih]; omega
theorem pairFlat_at (l : List (Value × Value)) : ∀ k, k < l.length → (pairFlat l)[k * 2]? = some (l.getD k (undef, undef)).1 ∧ (pairFlat l)[k * 2 + 1]? = some (l.getD k (undef, undef)).2 := by
  induction l with
  | nil => intro k h; simp at h
  | cons a r ih =>
    intro k hk
    have e : pairFlat (a :: r) = a.1 :: a.2 :: pairFlat r := rfl
    rw [e]
    cases k with
    | zero => exact ⟨rfl, rfl⟩
    | succ k =>
      rw [show (k + 1) * 2 = k * 2 + 1 + 1 by omega, List.getElem?_cons_succ, List.getElem?_cons_succ, List.getElem?_cons_succ, List.getElem?_cons_succ]
      exact ih k (by simpa using hk)
theorem ShowAt.below {w w' : World} {v : Value} {l : LineV} {t : ByteArray} (h : ShowAt w v l t) (hb : Below w.heap.size w w') : ShowAt w' v l t := by
  obtain ⟨id, caps, h1, h2, h3⟩ := h.ex
  exact ⟨⟨id, caps, h1, h2, fun x hx => h3 x (b_then hb hx)⟩⟩
theorem pairFlat_one {l : List (Value × Value)} (h : ∀ x ∈ l, (∃ f c, x.1 = .func f #[] c) ∧ (∃ f c, x.2 = .func f #[] c)) : ∀ v ∈ pairFlat l, v.oneCell' = true := fun v hv => by
  unfold pairFlat at hv
  obtain ⟨x, hx, hv⟩ := List.mem_flatMap.1 hv
  obtain ⟨⟨f, c, e⟩, ⟨f', c', e'⟩⟩ := h x hx
  simp only [List.mem_cons, List.not_mem_nil, or_false] at hv
  rcases hv with rfl | rfl
  · rw [e]; rfl
  · rw [e']; rfl
theorem tab_of {w : World} {b : Nat} {l : List (Value × Value)} (hr : w.rangeAt b 0 (pairFlat l)) (h : ∀ x ∈ l, (∃ f c, x.1 = .func f #[] c) ∧ (∃ f c, x.2 = .func f #[] c)) : TabAt w b l := ⟨fun k hk => by
  obtain ⟨p1, p2⟩ := pairFlat_at l k hk
  have hm : l.getD k (undef, undef) ∈ l := by
    rw [List.getD_eq_getElem?_getD, List.getElem?_eq_getElem hk]; exact List.getElem_mem _
  obtain ⟨⟨f, c, e⟩, ⟨f', c', e'⟩⟩ := h _ hm
  have q1 := hr _ _ p1
  have q2 := hr _ _ p2
  rw [Nat.zero_add, e] at q1
  rw [Nat.zero_add, e'] at q2
  exact ⟨f, c, f', c', Prod.ext e e', q1, q2⟩⟩
set_option maxRecDepth 100000 in
set_option maxHeartbeats 4000000 in
theorem printLine_any (l : LineV) (hok : LineOk l) (w : World) :
    Calls Tryz.prog 88 #[.agg l.cells] w fun e w' => e = .returned (.string (lineT l)) ∧ Below w.heap.size w w' := by
  have hj := fun (bk c : Nat) (w : World) h1 h2 h3 => Tryz.strings_Join bk 0 c (words l) ⟨#[32]⟩ w h1 h2 (by rw [words_len]; decide) h3 (Nat.le_trans (join_le (words l) [32] 24 (words_le hok)) (by rw [words_len]; decide))
  rw [words_len] at hj
  have HJ := Lib.hid hj
  clear hj
  have HT : Hid (∀ (lst : List (Value × Value)) (b lb : Nat) (W : World), lst.length = 14 → FieldsUp W 0 lst → TabAt W b lst → LineW W lb l →
      Calls Tryz.prog 133 #[.slice (some ⟨b, 0, none⟩) 14 14, .func (.func 134) #[] #[.pointer (some ⟨lb, 0, none⟩)]] W fun e w' => StrsR e w' (words l) ∧ Below W.heap.size W w') := Lib.hid (fun lst b lb W h14 hU hT hL => by
    have := transF_any lst (words l) b 14 134 #[.pointer (some ⟨lb, 0, none⟩)] W (by rw [words_len, h14]) (by omega) (by omega) hT (enters Tryz.func134 (by kernel_rfl) (by kernel_rfl)) (fun k hk x hx => by
      rw [words_getD l k (by omega)]
      exact showOne _ _ lb l _ x ((show_at hU h14 hok k (by omega)).below hx) (hL.below hx))
    rwa [h14] at this)
  have HX : Hid (⟨(Lib.join ((words l).map (·.data.toList)) [32]).toArray⟩ = lineT l) := Lib.hid rfl
  have HWL := Lib.hid (words_len l)
  generalize lineT l = lt at HX ⊢
  generalize words l = ws at *
  obtain ⟨W, HW, hb0, R⟩ := line_new w l 88
  have HR := Lib.hid R
  have HLW : Hid (∀ W' : World, Below W.heap.size W W' → LineW W' w.heap.size l) := Lib.hid fun W' hb => R.below hb
  clear R HR hok
  obtain ⟨act, q⟩ := l
  obtain ⟨name, carrier, kind, terminal, partner, link, x, y, d, m, s, z, n⟩ := q
  simp only [LineV.cells] at HW ⊢
  go_enter Tryz.func88, Tryz.ntmps88
  go_wp2_with fail
  rw [HW.out]
  clear HW
  refine (fields_any _).mono ?_
  rintro e w1 ⟨⟨lst, h14, rfl, HU, hsh⟩, hb1⟩
  have hsz : (pairFlat lst).toArray.size = 28 := by rw [List.size_toArray, pairFlat_len, h14]
  have R2 := RowV.new w1 (List.replicate 28 .nilFunc) 161
  have hth : (w1.alloc (.cells #[.nilFunc, .nilFunc, .nilFunc, .nilFunc, .nilFunc, .nilFunc, .nilFunc, .nilFunc, .nilFunc, .nilFunc, .nilFunc, .nilFunc, .nilFunc, .nilFunc, .nilFunc, .nilFunc, .nilFunc, .nilFunc, .nilFunc, .nilFunc, .nilFunc, .nilFunc, .nilFunc, .nilFunc, .nilFunc, .nilFunc, .nilFunc, .nilFunc] 161)).there w1.heap.size 0 (pairFlat lst).toArray.size := fun j hj => by
    rw [hsz] at hj
    rw [Nat.zero_add]
    exact ⟨by have := R2.c j hj; exact (by rw [show (w1.alloc (.cells #[.nilFunc, .nilFunc, .nilFunc, .nilFunc, .nilFunc, .nilFunc, .nilFunc, .nilFunc, .nilFunc, .nilFunc, .nilFunc, .nilFunc, .nilFunc, .nilFunc, .nilFunc, .nilFunc, .nilFunc, .nilFunc, .nilFunc, .nilFunc, .nilFunc, .nilFunc, .nilFunc, .nilFunc, .nilFunc, .nilFunc, .nilFunc, .nilFunc] 161)).cell? ⟨w1.heap.size, j, none⟩ = _ from this]; rfl), R2.f j hj⟩
  have hone := all_oneCell_toArray (pairFlat_one hsh)
  have HTH := Lib.hid hth
  have HON := Lib.hid hone
  have HSZ := Lib.hid hsz
  have hB2 := R2.below
  clear hth hone R2 hsz
  go_wp2_with (refine wpList_store_mid rfl 161 _ _ rfl w1.heap.size 0 (pairFlat lst).toArray rfl rfl HTH.out (by rw [HSZ.out]; kernel_rfl) HON.out ?_)
  obtain ⟨W3, HW3, hT3, hB3⟩ : ∃ W3, Hid ((w1.alloc (.cells #[.nilFunc, .nilFunc, .nilFunc, .nilFunc, .nilFunc, .nilFunc, .nilFunc, .nilFunc, .nilFunc, .nilFunc, .nilFunc, .nilFunc, .nilFunc, .nilFunc, .nilFunc, .nilFunc, .nilFunc, .nilFunc, .nilFunc, .nilFunc, .nilFunc, .nilFunc, .nilFunc, .nilFunc, .nilFunc, .nilFunc, .nilFunc, .nilFunc] 161)).setCells w1.heap.size 0 (pairFlat lst) = W3) ∧ TabAt W3 w1.heap.size lst ∧ Below w1.heap.size w1 W3 :=
    ⟨_, Lib.hid rfl, tab_of (World.rangeAt_setCells_same _ _ _ _ (by have := HTH.out; rwa [List.size_toArray] at this)) hsh, hB2.trans (below_cells _ _ _ _)⟩
  rw [HW3.out]
  clear HW3 HTH HON hB2
  have HC := Lib.hid (HT.out lst w1.heap.size w.heap.size W3 h14 ⟨fun k hk => ((HU.at_ k hk).below hB3).down (Nat.zero_le _)⟩ hT3 (HLW.out W3 (b_then hb1 hB3)))
  have HB3 := Lib.hid (b_then (b_then hb0 hb1) hB3)
  clear HT hT3 HU HLW hb0 hb1 hB3
  go_wp2_with fail
  refine HC.out.mono ?_
  rintro e w4 ⟨⟨g, c, rfl, hcap, hg, hcells⟩, hb4⟩
  rw [HWL.out] at hcap ⊢
  have HB4 := Lib.hid (b_then HB3.out hb4)
  clear HC hb4
  go_wp2_with fail
  refine (HJ.out g c w4 hcells hg hcap).mono ?_
  rintro e w5 ⟨rfl, hb5⟩
  have HB5 := Lib.hid (b_then HB4.out hb5)
  clear hcells hg hcap HJ hb5
  go_wp2_with fail
  go_ret
  exact ⟨by rw [← HX.out]; rfl, HB5.out⟩
end Go.Proofs.YtphoclgibnhjfaaGreat
namespace Go.Proofs.YtphoclgibnhjfaaGreat
open Go Go.RowKit Ev
/-- A string has the form of a season. -/
def seasonB (s : ByteArray) : Bool := decide (s.size = 5) && (decide (allD (s.extract 1 5)) && (byteAt s 0 == 83 || byteAt s 0 == 87))
set_option maxRecDepth 100000 in
set_option maxHeartbeats 1000000 in
theorem isSeason_any (s : ByteArray) (w : World) :
    Calls Tryz.prog 131 #[.string s] w fun e w' => e = .returned (.bool (seasonB s)) ∧ Below w.heap.size w w' := by
  by_cases h5 : s.size = 5
  · have hb : ((s.size : Int) != 5) = false := by simp [h5]
    have hsz : (s.size : Int) = 5 := by omega
    have h0 : 0 < s.size := by omega
    have HY : Hid (byteAt s 0 = (s[0]'h0).toNat) := Lib.hid (byteAt_eq h0)
    have HS : Hid (seasonB s = (decide (allD (s.extract 1 5)) && (byteAt s 0 == 83 || byteAt s 0 == 87))) := Lib.hid (by unfold seasonB; rw [decide_eq_true h5, Bool.true_and])
    have hnum := number_any (s.extract 1 5)
    have HN1 : Hid (allD (s.extract 1 5) → numOut (s.extract 1 5) = .tuple #[.int .i64 (nv (s.extract 1 5) 4), .bool true]) := Lib.hid fun h => by unfold numOut; rw [if_pos h]
    have HN2 : Hid (¬ allD (s.extract 1 5) → numOut (s.extract 1 5) = .tuple #[.int .i64 0, .bool false]) := Lib.hid fun h => by unfold numOut; rw [if_neg h]
    go_enter Tryz.func131, Tryz.ntmps131
    go_wp2_with fail
    refine (hnum _).mono ?_
    rintro e w1 ⟨rfl, hb1⟩
    by_cases hd : allD (s.extract 1 5)
    · rw [HN1.out hd]
      rw [decide_eq_true hd, Bool.true_and, HY.out] at HS
      generalize nv (s.extract 1 5) 4 = n
      clear HN1 HN2 hnum hd
      by_cases e1 : (s[0]'h0).toNat = 83
      · have c1 : (((s[0]'h0).toNat : Int) == 83) = true := by rw [e1]; rfl
        rw [e1] at HS
        clear e1
        go_wp2_with fail
        go_ret
        exact ⟨by rw [HS.out]; rfl, hb1⟩
      · have c1 : (((s[0]'h0).toNat : Int) == 83) = false := by rw [beq_eq_false_iff_ne]; omega
        have g1 : ((s[0]'h0).toNat == 83) = false := by rw [beq_eq_false_iff_ne]; exact e1
        rw [g1, Bool.false_or] at HS
        clear e1 g1
        by_cases e2 : (s[0]'h0).toNat = 87
        · have c2 : (((s[0]'h0).toNat : Int) == 87) = true := by rw [e2]; rfl
          rw [e2] at HS
          clear e2
          go_wp2_with fail
          go_ret
          exact ⟨by rw [HS.out]; rfl, hb1⟩
        · have c2 : (((s[0]'h0).toNat : Int) == 87) = false := by rw [beq_eq_false_iff_ne]; omega
          have g2 : ((s[0]'h0).toNat == 87) = false := by rw [beq_eq_false_iff_ne]; exact e2
          rw [g2] at HS
          clear e2 g2
          go_wp2_with fail
          go_ret
          exact ⟨by rw [HS.out]; rfl, hb1⟩
    · rw [HN2.out hd]
      rw [decide_eq_false hd, Bool.false_and] at HS
      clear HN1 HN2 hnum hd
      go_wp2_with fail
      go_ret
      exact ⟨by rw [HS.out]; rfl, hb1⟩
  · have hb : ((s.size : Int) != 5) = true := by rw [bne_iff_ne]; omega
    have HS : Hid (seasonB s = false) := Lib.hid (by unfold seasonB; rw [decide_eq_false h5]; rfl)
    clear h5
    go_enter Tryz.func131, Tryz.ntmps131
    go_wp2_with fail
    go_ret
    exact ⟨by rw [HS.out]; rfl, Below.refl _ _⟩
set_option maxRecDepth 100000 in
set_option maxHeartbeats 1000000 in
theorem qSeason_any (s : ByteArray) (w : World) :
    Calls Tryz.prog 82 #[.string s] w fun e w' => e = .returned (.bool (seasonB s)) ∧ w' = w := by
  by_cases h5 : s.size = 5
  · have hsz : (s.size : Int) = 5 := by omega
    have h0 : 0 < s.size := by omega
    have HY : Hid (byteAt s 0 = (s[0]'h0).toNat) := Lib.hid (byteAt_eq h0)
    have HS : Hid (seasonB s = (decide (allD (s.extract 1 5)) && (byteAt s 0 == 83 || byteAt s 0 == 87))) := Lib.hid (by unfold seasonB; rw [decide_eq_true h5, Bool.true_and])
    have hnum := qdigits_any (s.extract 1 5)
    have HN : Hid ((0 ≤ qNum (s.extract 1 5)) ↔ allD (s.extract 1 5)) := Lib.hid (by
      unfold qNum
      by_cases h : allD (s.extract 1 5)
      · rw [if_pos h]; exact ⟨fun _ => h, fun _ => (nv_bd _ 4 (by omega) h.2).1⟩
      · rw [if_neg h]; exact ⟨fun h2 => by omega, fun h2 => absurd h2 h⟩)
    rw [HY.out] at HS
    generalize qNum (s.extract 1 5) = n at HN hnum
    have hfin : ∀ b : Bool, b = ((s[0]'h0).toNat == 83 || (s[0]'h0).toNat == 87) → (b = true → True) := fun _ _ _ => trivial
    by_cases e1 : (s[0]'h0).toNat = 83
    · have c1 : (((s[0]'h0).toNat : Int) == 83) = true := by rw [e1]; rfl
      rw [e1] at HS
      clear e1 hfin
      go_enter Tryz.func82, Tryz.ntmps82
      go_wp2_with fail
      refine (hnum _).mono ?_
      rintro e w1 ⟨rfl, rfl⟩
      clear hnum
      by_cases hn : 0 ≤ n
      · rw [decide_eq_true (HN.out.1 hn)] at HS
        go_wp2_with fail
        go_ret
        exact ⟨by rw [HS.out]; rfl, rfl⟩
      · rw [decide_eq_false (fun h => hn (HN.out.2 h))] at HS
        have hn' : decide ((0 : Int) ≤ n) = false := decide_eq_false hn
        go_wp2_with fail
        go_ret
        exact ⟨by rw [HS.out]; rfl, rfl⟩
    · have c1 : (((s[0]'h0).toNat : Int) == 83) = false := by rw [beq_eq_false_iff_ne]; omega
      have g1 : ((s[0]'h0).toNat == 83) = false := by rw [beq_eq_false_iff_ne]; exact e1
      rw [g1, Bool.false_or] at HS
      clear e1 g1 hfin
      by_cases e2 : (s[0]'h0).toNat = 87
      · have c2 : (((s[0]'h0).toNat : Int) == 87) = true := by rw [e2]; rfl
        rw [e2] at HS
        clear e2
        go_enter Tryz.func82, Tryz.ntmps82
        go_wp2_with fail
        refine (hnum _).mono ?_
        rintro e w1 ⟨rfl, rfl⟩
        clear hnum
        by_cases hn : 0 ≤ n
        · rw [decide_eq_true (HN.out.1 hn)] at HS
          go_wp2_with fail
          go_ret
          exact ⟨by rw [HS.out]; rfl, rfl⟩
        · rw [decide_eq_false (fun h => hn (HN.out.2 h))] at HS
          have hn' : decide ((0 : Int) ≤ n) = false := decide_eq_false hn
          go_wp2_with fail
          go_ret
          exact ⟨by rw [HS.out]; rfl, rfl⟩
      · have c2 : (((s[0]'h0).toNat : Int) == 87) = false := by rw [beq_eq_false_iff_ne]; omega
        have g2 : ((s[0]'h0).toNat == 87) = false := by rw [beq_eq_false_iff_ne]; exact e2
        rw [g2, Bool.and_false] at HS
        clear e2 g2 hnum
        go_enter Tryz.func82, Tryz.ntmps82
        go_wp2_with fail
        go_ret
        exact ⟨by rw [HS.out]; rfl, rfl⟩
  · have hb : ((s.size : Int) == 5) = false := by rw [beq_eq_false_iff_ne]; omega
    have HS : Hid (seasonB s = false) := Lib.hid (by unfold seasonB; rw [decide_eq_false h5]; rfl)
    clear h5
    go_enter Tryz.func82, Tryz.ntmps82
    go_wp2_with fail
    go_ret
    exact ⟨by rw [HS.out]; rfl, rfl⟩
/-- The error of an airport, a season and a day. -/
def hdErr (a s : ByteArray) (d : Int) : Int := fst [nameE a, unl (seasonB s) 1, rng d 0 99999]
theorem qCheckDay (d : Int) (w : World) : Calls Tryz.prog 83 #[.int .i64 d] w fun r w' => r = .returned (.int .i64 (rng d 0 99999)) ∧ w' = w := by
  go_enter Tryz.func83, Tryz.ntmps83
  go_wp2_with fail
  refine (hRange_any _ _ _ _).mono ?_
  rintro e w1 ⟨rfl, rfl⟩
  go_wp2_with fail
  go_ret
  exact ⟨rfl, rfl⟩
set_option maxRecDepth 100000 in
theorem qCheckHead_any (a s : ByteArray) (d : Int) (w : World) :
    Calls Tryz.prog 36 #[.string a, .string s, .int .i64 d] w fun e w' => e = .returned (.int .i64 (hdErr a s d)) ∧ Below w.heap.size w w' := by
  have HE : Hid (hdErr a s d = fst [unl (decide (isName a)) 8, unl (seasonB s) 1, rng d 0 99999]) := Lib.hid rfl
  have hn := qIsName_any a
  have hs := qSeason_any s
  have hd := qCheckDay d
  generalize hdErr a s d = he at HE ⊢
  generalize decide (isName a) = na at HE hn
  generalize seasonB s = sb at HE hs
  generalize rng d 0 99999 = rd at HE hd
  go_enter Tryz.func36, Tryz.ntmps36
  go_wp2_with fail
  refine (hn _).mono ?_
  rintro e w1 ⟨rfl, hb1⟩
  cases na
  · have HZ := Lib.hid (show he = 8 by rw [HE.out]; simp [fst, unl])
    go_wp2_with fail
    go_ret
    exact ⟨by rw [HZ.out]; rfl, hb1⟩
  · go_wp2_with fail
    refine (hs _).mono ?_
    rintro e w2 ⟨rfl, rfl⟩
    cases sb
    · have HZ := Lib.hid (show he = 1 by rw [HE.out]; simp [fst, unl])
      go_wp2_with fail
      go_ret
      exact ⟨by rw [HZ.out]; rfl, hb1⟩
    · have HZ := Lib.hid (show he = rd by rw [HE.out]; by_cases h : rd = 0 <;> simp [fst, unl, h])
      go_wp2_with fail
      refine (hd _).mono ?_
      rintro e w3 ⟨rfl, rfl⟩
      go_wp2_with fail
      go_ret
      exact ⟨by rw [HZ.out]; rfl, hb1⟩
end Go.Proofs.YtphoclgibnhjfaaGreat
namespace Go.Proofs.YtphoclgibnhjfaaGreat
open Go Go.RowKit Ev
/-- What stands in a message beside its lines. -/
structure HeadV where
  kind : ByteArray
  airport : ByteArray
  season : ByteArray
  day : Int
def HeadV.cells (h : HeadV) (v : Value) : Array Value := #[.string h.kind, .string h.airport, .string h.season, .int .i64 h.day, v]
def kindM (s : ByteArray) : Bool := s.toList == [82, 69, 81] || s.toList == [65, 78, 83]
def headErr (h : HeadV) : Int := fst [unl (kindM h.kind) 13, nameE h.airport, unl (seasonB h.season) 1, rng h.day 0 99999]
theorem CDay_any (n : Int) (w : World) : Calls Tryz.prog 132 #[.int .i64 n] w fun r w' => r = .returned (.int .i64 (rng n 0 99999)) ∧ w' = w := by
  go_enter Tryz.func132, Tryz.ntmps132
  go_wp2_with fail
  refine (checkRange_any _ _ _ _).mono ?_
  rintro e w' ⟨rfl, rfl⟩
  go_wp2_with fail
  go_ret
  exact ⟨rfl, rfl⟩
structure HeadW (w : World) (b : Nat) (h : HeadV) (v : Value) : Prop where
  c0 : w.cell? ⟨b, 0, none⟩ = some (.string h.kind)
  c1 : w.cell? ⟨b, 1, none⟩ = some (.string h.airport)
  c2 : w.cell? ⟨b, 2, none⟩ = some (.string h.season)
  c3 : w.cell? ⟨b, 3, none⟩ = some (.int .i64 h.day)
  c4 : w.cell? ⟨b, 4, none⟩ = some v
theorem head_new (w : World) (h : HeadV) (v : Value) (T : TypeId) : ∃ W, Hid (w.alloc (.cells (h.cells v) T) = W) ∧ Below w.heap.size w W ∧ HeadW W w.heap.size h v := by
  refine ⟨_, Lib.hid rfl, below_alloc w _, ?_⟩
  unfold HeadV.cells
  constructor <;> simp
theorem HeadW.below {w w' : World} {b : Nat} {h : HeadV} {v : Value} (x : HeadW w b h v) (hb : Below w.heap.size w w') : HeadW w' b h v :=
  ⟨b_old hb x.c0, b_old hb x.c1, b_old hb x.c2, b_old hb x.c3, b_old hb x.c4⟩
set_option maxRecDepth 100000 in
set_option maxHeartbeats 2000000 in
theorem checkHeader_any (h : HeadV) (A : Option Addr) (n c : Nat) (w : World) :
    Calls Tryz.prog 76 #[.agg (h.cells (.slice A n c))] w fun e w' => e = .returned (.int .i64 (headErr h)) ∧ Below w.heap.size w w' := by
  have HE : Hid (headErr h = fst [unl (kindM h.kind) 13, nameE h.airport, unl (seasonB h.season) 1, rng h.day 0 99999]) := Lib.hid rfl
  have hn := CName_any h.airport
  have hs := isSeason_any h.season
  have hd := CDay_any h.day
  generalize headErr h = he at HE ⊢
  generalize nameE h.airport = ne at HE hn
  generalize seasonB h.season = sb at HE hs
  generalize rng h.day 0 99999 = rd at HE hd
  obtain ⟨W, HW, hb0, R⟩ := head_new w h (.slice A n c) 25
  obtain ⟨kind, airport, season, day⟩ := h
  obtain ⟨r0, r1, r2, r3, r4⟩ := R
  simp only [HeadV.cells, kindM] at *
  have k0 : ∀ x : KeptW W, x.v.cell? ⟨w.heap.size, 0, none⟩ = _ := fun x => x.cell r0
  have k1 : ∀ x : KeptW W, x.v.cell? ⟨w.heap.size, 1, none⟩ = _ := fun x => x.cell r1
  have k2 : ∀ x : KeptW W, x.v.cell? ⟨w.heap.size, 2, none⟩ = _ := fun x => x.cell r2
  have k3 : ∀ x : KeptW W, x.v.cell? ⟨w.heap.size, 3, none⟩ = _ := fun x => x.cell r3
  have hne : Nonempty (KeptW W) := ⟨⟨W, Below.refl _ _⟩⟩
  clear r0 r1 r2 r3 r4
  cases hk : (kind.toList == [82, 69, 81])
  · rw [hk, Bool.false_or] at HE
    go_enter Tryz.func76, Tryz.ntmps76
    go_wp2_with fail
    rw [HW.out]
    refine tail_kept 19 (by kernel_rfl) (by kernel_rfl) ?_
    simp only [List.take_succ_cons, List.take_zero, List.drop_succ_cons, List.drop_zero]
    iterate 8 (go_big_quiet_step (fail))
    go_big_quiet_step (exact KeptW.calls_same (unless_any _ _ _))
    iterate 2 (go_big_quiet_step (fail))
    go_big_quiet_step (exact KeptW.calls (hn _))
    iterate 2 (go_big_quiet_step (fail))
    go_big_quiet_step (exact KeptW.calls (hs _))
    go_big_quiet_step (exact KeptW.calls_same (unless_any _ _ _))
    iterate 2 (go_big_quiet_step (fail))
    go_big_quiet_step (exact KeptW.calls_same (hd _))
    refine wpQuiet_nil ?_
    rintro _ ⟨x, rfl⟩
    have hbx := b_then hb0 x.below
    clear k0 k1 k2 k3 hn hs hd hb0
    go_wp2_with fail
    refine (fe_new [_, _, _, _] _ _ _ _ _ rfl rfl (by simp)).mono ?_
    rintro e2 w2 ⟨rfl, hw⟩
    have hb2 : Below w.heap.size w w2 := by rw [hw]; exact b_then hbx (below_alloc _ _)
    clear hw
    go_wp2_with fail
    go_ret
    exact ⟨by rw [HE.out]; rfl, hb2⟩
  · rw [hk, Bool.true_or] at HE
    go_enter Tryz.func76, Tryz.ntmps76
    go_wp2_with fail
    rw [HW.out]
    refine tail_kept 19 (by kernel_rfl) (by kernel_rfl) ?_
    simp only [List.take_succ_cons, List.take_zero, List.drop_succ_cons, List.drop_zero]
    iterate 8 (go_big_quiet_step (fail))
    go_big_quiet_step (exact KeptW.calls_same (unless_any _ _ _))
    iterate 2 (go_big_quiet_step (fail))
    go_big_quiet_step (exact KeptW.calls (hn _))
    iterate 2 (go_big_quiet_step (fail))
    go_big_quiet_step (exact KeptW.calls (hs _))
    go_big_quiet_step (exact KeptW.calls_same (unless_any _ _ _))
    iterate 2 (go_big_quiet_step (fail))
    go_big_quiet_step (exact KeptW.calls_same (hd _))
    refine wpQuiet_nil ?_
    rintro _ ⟨x, rfl⟩
    have hbx := b_then hb0 x.below
    clear k0 k1 k2 k3 hn hs hd hb0
    go_wp2_with fail
    refine (fe_new [_, _, _, _] _ _ _ _ _ rfl rfl (by simp)).mono ?_
    rintro e2 w2 ⟨rfl, hw⟩
    have hb2 : Below w.heap.size w w2 := by rw [hw]; exact b_then hbx (below_alloc _ _)
    clear hw
    go_wp2_with fail
    go_ret
    exact ⟨by rw [HE.out]; rfl, hb2⟩
set_option maxRecDepth 100000 in
theorem identityOf_any (q : ReqV) (w : World) : Calls Tryz.prog 70 #[.agg q.cells] w fun e w' => e = .returned (.agg #[.string q.carrier, .string q.name]) ∧ Below w.heap.size w w' := by
  have hB := below_alloc2 w (.cells q.cells 84) (.cells #[.string q.carrier, .string q.name] 139)
  obtain ⟨name, carrier, kind, terminal, partner, link, a, b, d, m, s, z, n⟩ := q
  simp only [ReqV.cells] at *
  go_enter Tryz.func70, Tryz.ntmps70
  go_wp2_with fail
  exact bodyPost_ret (v := .agg #[.string carrier, .string name]) (by simp [results, Tryz.results70, go_sem]) rfl ⟨rfl, hB⟩
/-- A line may stand behind another one, or behind none: an action of no bytes. -/
def mayB (x l : LineV) : Bool := if (x.act.toList == [67]) = true then l.act.toList == [82] && (l.q.carrier.toList == x.q.carrier.toList && l.q.name.toList == x.q.name.toList) else !(l.act.toList == [82])
theorem sEq_str (d : Nat) (a b : ByteArray) (w : World) : (Op.equalIn (d + 1) 9 (.string a) (.string b)).run Tryz.prog w = .ok (a.toList == b.toList) w := run_equalIn_string w d 9 a b Tryz.underlying9
end Go.Proofs.YtphoclgibnhjfaaGreat
namespace Go.Proofs.YtphoclgibnhjfaaGreat
open Go Go.RowKit Ev
theorem two_lines (w : World) (x l : LineV) (T T' : TypeId) : ∃ W, Hid (((w.alloc (.cells x.cells T)).alloc (.cells l.cells T')) = W) ∧ Below w.heap.size w W ∧ LineW W w.heap.size x ∧ LineW W (w.heap.size + 1) l := by
  obtain ⟨W1, H1, hb1, R1⟩ := line_new w x T
  obtain ⟨W2, H2, hb2, R2⟩ := line_new W1 l T'
  have e : W1.heap.size = w.heap.size + 1 := by rw [← H1.out]; simp
  rw [e] at R2
  exact ⟨W2, Lib.hid (by rw [H1.out, H2.out]), b_then hb1 hb2, R1.below hb2, R2⟩
set_option maxRecDepth 100000 in
set_option maxHeartbeats 2000000 in
theorem mayFollow_any (x l : LineV) (w : World) :
    Calls Tryz.prog 112 #[.agg x.cells, .agg l.cells] w fun e w' => e = .returned (.bool (mayB x l)) ∧ Below w.heap.size w w' := by
  have HM : Hid (mayB x l = if (x.act.toList == [67]) = true then l.act.toList == [82] && (l.q.carrier.toList == x.q.carrier.toList && l.q.name.toList == x.q.name.toList) else !(l.act.toList == [82])) := Lib.hid rfl
  have hix := identityOf_any x.q
  have hil := identityOf_any l.q
  obtain ⟨W, HW, hb0, R, S⟩ := two_lines w x l 88 88
  have hB := below_alloc2 w (.cells x.cells 88) (.cells l.cells 88)
  generalize mayB x l = mb at HM ⊢
  obtain ⟨pact, ⟨pname, pcarrier, pkind, pterminal, ppartner, plink, pa, pb, pd, pm, ps, pz, pn⟩⟩ := x
  obtain ⟨qact, ⟨qname, qcarrier, qkind, qterminal, qpartner, qlink, qa, qb, qd, qm, qs, qz, qn⟩⟩ := l
  obtain ⟨r0, r1, r2, r3, r4, r5, r6, r7, r8, r9, r10, r11, r12, r13⟩ := R
  obtain ⟨s0, s1, s2, s3, s4, s5, s6, s7, s8, s9, s10, s11, s12, s13⟩ := S
  simp only [LineV.cells, ReqV.cells] at *
  cases hc : (pact.toList == [67])
  · rw [hc, if_neg (by simp)] at HM
    clear r0 r1 r2 r3 r4 r5 r6 r7 r8 r9 r10 r11 r12 r13 s0 s1 s2 s3 s4 s5 s6 s7 s8 s9 s10 s11 s12 s13 hix hil HW
    go_enter Tryz.func112, Tryz.ntmps112
    go_wp2_with fail
    go_ret
    exact ⟨by rw [HM.out]; rfl, hB⟩
  · rw [hc, if_pos rfl] at HM
    cases hl : (qact.toList == [82])
    · rw [hl, Bool.false_and] at HM
      have k0 : ∀ x : KeptW W, x.v.cell? ⟨w.heap.size, 0, none⟩ = _ := fun x => x.cell r0
      have j0 : ∀ x : KeptW W, x.v.cell? ⟨w.heap.size + 1, 0, none⟩ = _ := fun x => x.cell s0
      have k1 : ∀ x : KeptW W, x.v.cell? ⟨w.heap.size, 1, none⟩ = _ := fun x => x.cell r1
      have j1 : ∀ x : KeptW W, x.v.cell? ⟨w.heap.size + 1, 1, none⟩ = _ := fun x => x.cell s1
      have k2 : ∀ x : KeptW W, x.v.cell? ⟨w.heap.size, 2, none⟩ = _ := fun x => x.cell r2
      have j2 : ∀ x : KeptW W, x.v.cell? ⟨w.heap.size + 1, 2, none⟩ = _ := fun x => x.cell s2
      have k3 : ∀ x : KeptW W, x.v.cell? ⟨w.heap.size, 3, none⟩ = _ := fun x => x.cell r3
      have j3 : ∀ x : KeptW W, x.v.cell? ⟨w.heap.size + 1, 3, none⟩ = _ := fun x => x.cell s3
      have k4 : ∀ x : KeptW W, x.v.cell? ⟨w.heap.size, 4, none⟩ = _ := fun x => x.cell r4
      have j4 : ∀ x : KeptW W, x.v.cell? ⟨w.heap.size + 1, 4, none⟩ = _ := fun x => x.cell s4
      have k5 : ∀ x : KeptW W, x.v.cell? ⟨w.heap.size, 5, none⟩ = _ := fun x => x.cell r5
      have j5 : ∀ x : KeptW W, x.v.cell? ⟨w.heap.size + 1, 5, none⟩ = _ := fun x => x.cell s5
      have k6 : ∀ x : KeptW W, x.v.cell? ⟨w.heap.size, 6, none⟩ = _ := fun x => x.cell r6
      have j6 : ∀ x : KeptW W, x.v.cell? ⟨w.heap.size + 1, 6, none⟩ = _ := fun x => x.cell s6
      have k7 : ∀ x : KeptW W, x.v.cell? ⟨w.heap.size, 7, none⟩ = _ := fun x => x.cell r7
      have j7 : ∀ x : KeptW W, x.v.cell? ⟨w.heap.size + 1, 7, none⟩ = _ := fun x => x.cell s7
      have k8 : ∀ x : KeptW W, x.v.cell? ⟨w.heap.size, 8, none⟩ = _ := fun x => x.cell r8
      have j8 : ∀ x : KeptW W, x.v.cell? ⟨w.heap.size + 1, 8, none⟩ = _ := fun x => x.cell s8
      have k9 : ∀ x : KeptW W, x.v.cell? ⟨w.heap.size, 9, none⟩ = _ := fun x => x.cell r9
      have j9 : ∀ x : KeptW W, x.v.cell? ⟨w.heap.size + 1, 9, none⟩ = _ := fun x => x.cell s9
      have k10 : ∀ x : KeptW W, x.v.cell? ⟨w.heap.size, 10, none⟩ = _ := fun x => x.cell r10
      have j10 : ∀ x : KeptW W, x.v.cell? ⟨w.heap.size + 1, 10, none⟩ = _ := fun x => x.cell s10
      have k11 : ∀ x : KeptW W, x.v.cell? ⟨w.heap.size, 11, none⟩ = _ := fun x => x.cell r11
      have j11 : ∀ x : KeptW W, x.v.cell? ⟨w.heap.size + 1, 11, none⟩ = _ := fun x => x.cell s11
      have k12 : ∀ x : KeptW W, x.v.cell? ⟨w.heap.size, 12, none⟩ = _ := fun x => x.cell r12
      have j12 : ∀ x : KeptW W, x.v.cell? ⟨w.heap.size + 1, 12, none⟩ = _ := fun x => x.cell s12
      have k13 : ∀ x : KeptW W, x.v.cell? ⟨w.heap.size, 13, none⟩ = _ := fun x => x.cell r13
      have j13 : ∀ x : KeptW W, x.v.cell? ⟨w.heap.size + 1, 13, none⟩ = _ := fun x => x.cell s13
      have hne : Nonempty (KeptW W) := ⟨⟨W, Below.refl _ _⟩⟩
      clear r0 r1 r2 r3 r4 r5 r6 r7 r8 r9 r10 r11 r12 r13 s0 s1 s2 s3 s4 s5 s6 s7 s8 s9 s10 s11 s12 s13
      go_enter Tryz.func112, Tryz.ntmps112
      go_wp2_with fail
      rw [HW.out]
      clear HW
      refine region_kept (by kernel_rfl) (by kernel_rfl) ?_
      iterate 13 (go_big_quiet_step (fail))
      refine wpQuiet_nil ?_
      rintro _ ⟨y, rfl⟩
      have hby := b_then hb0 y.below
      clear k0 j0 k1 j1 k2 j2 k3 j3 k4 j4 k5 j5 k6 j6 k7 j7 k8 j8 k9 j9 k10 j10 k11 j11 k12 j12 k13 j13
      go_wp2_with fail
      go_ret
      exact ⟨by rw [HM.out]; rfl, hby⟩
    · rw [hl, Bool.true_and] at HM
      have HM' : Hid (mb = (decide (qcarrier.toList = pcarrier.toList) && decide (qname.toList = pname.toList))) := Lib.hid (by rw [HM.out, Bool.eq_iff_iff]; simp)
      clear HM
      by_cases e1 : qcarrier.toList = pcarrier.toList
      · by_cases e2 : qname.toList = pname.toList
        · have HM := Lib.hid (show mb = true by rw [HM'.out, decide_eq_true e1, decide_eq_true e2]; rfl)
          clear HM'
          have k0 : ∀ x : KeptW W, x.v.cell? ⟨w.heap.size, 0, none⟩ = _ := fun x => x.cell r0
          have j0 : ∀ x : KeptW W, x.v.cell? ⟨w.heap.size + 1, 0, none⟩ = _ := fun x => x.cell s0
          have k1 : ∀ x : KeptW W, x.v.cell? ⟨w.heap.size, 1, none⟩ = _ := fun x => x.cell r1
          have j1 : ∀ x : KeptW W, x.v.cell? ⟨w.heap.size + 1, 1, none⟩ = _ := fun x => x.cell s1
          have k2 : ∀ x : KeptW W, x.v.cell? ⟨w.heap.size, 2, none⟩ = _ := fun x => x.cell r2
          have j2 : ∀ x : KeptW W, x.v.cell? ⟨w.heap.size + 1, 2, none⟩ = _ := fun x => x.cell s2
          have k3 : ∀ x : KeptW W, x.v.cell? ⟨w.heap.size, 3, none⟩ = _ := fun x => x.cell r3
          have j3 : ∀ x : KeptW W, x.v.cell? ⟨w.heap.size + 1, 3, none⟩ = _ := fun x => x.cell s3
          have k4 : ∀ x : KeptW W, x.v.cell? ⟨w.heap.size, 4, none⟩ = _ := fun x => x.cell r4
          have j4 : ∀ x : KeptW W, x.v.cell? ⟨w.heap.size + 1, 4, none⟩ = _ := fun x => x.cell s4
          have k5 : ∀ x : KeptW W, x.v.cell? ⟨w.heap.size, 5, none⟩ = _ := fun x => x.cell r5
          have j5 : ∀ x : KeptW W, x.v.cell? ⟨w.heap.size + 1, 5, none⟩ = _ := fun x => x.cell s5
          have k6 : ∀ x : KeptW W, x.v.cell? ⟨w.heap.size, 6, none⟩ = _ := fun x => x.cell r6
          have j6 : ∀ x : KeptW W, x.v.cell? ⟨w.heap.size + 1, 6, none⟩ = _ := fun x => x.cell s6
          have k7 : ∀ x : KeptW W, x.v.cell? ⟨w.heap.size, 7, none⟩ = _ := fun x => x.cell r7
          have j7 : ∀ x : KeptW W, x.v.cell? ⟨w.heap.size + 1, 7, none⟩ = _ := fun x => x.cell s7
          have k8 : ∀ x : KeptW W, x.v.cell? ⟨w.heap.size, 8, none⟩ = _ := fun x => x.cell r8
          have j8 : ∀ x : KeptW W, x.v.cell? ⟨w.heap.size + 1, 8, none⟩ = _ := fun x => x.cell s8
          have k9 : ∀ x : KeptW W, x.v.cell? ⟨w.heap.size, 9, none⟩ = _ := fun x => x.cell r9
          have j9 : ∀ x : KeptW W, x.v.cell? ⟨w.heap.size + 1, 9, none⟩ = _ := fun x => x.cell s9
          have k10 : ∀ x : KeptW W, x.v.cell? ⟨w.heap.size, 10, none⟩ = _ := fun x => x.cell r10
          have j10 : ∀ x : KeptW W, x.v.cell? ⟨w.heap.size + 1, 10, none⟩ = _ := fun x => x.cell s10
          have k11 : ∀ x : KeptW W, x.v.cell? ⟨w.heap.size, 11, none⟩ = _ := fun x => x.cell r11
          have j11 : ∀ x : KeptW W, x.v.cell? ⟨w.heap.size + 1, 11, none⟩ = _ := fun x => x.cell s11
          have k12 : ∀ x : KeptW W, x.v.cell? ⟨w.heap.size, 12, none⟩ = _ := fun x => x.cell r12
          have j12 : ∀ x : KeptW W, x.v.cell? ⟨w.heap.size + 1, 12, none⟩ = _ := fun x => x.cell s12
          have k13 : ∀ x : KeptW W, x.v.cell? ⟨w.heap.size, 13, none⟩ = _ := fun x => x.cell r13
          have j13 : ∀ x : KeptW W, x.v.cell? ⟨w.heap.size + 1, 13, none⟩ = _ := fun x => x.cell s13
          have hne : Nonempty (KeptW W) := ⟨⟨W, Below.refl _ _⟩⟩
          clear r0 r1 r2 r3 r4 r5 r6 r7 r8 r9 r10 r11 r12 r13 s0 s1 s2 s3 s4 s5 s6 s7 s8 s9 s10 s11 s12 s13
          go_enter Tryz.func112, Tryz.ntmps112
          go_wp2_with fail
          rw [HW.out]
          clear HW
          refine region_kept (by kernel_rfl) (by kernel_rfl) ?_
          iterate 6 (go_big_quiet_step (fail))
          go_big_quiet_step (exact KeptW.calls (hil _))
          iterate 2 (go_big_quiet_step (fail))
          go_big_quiet_step (exact KeptW.calls (hix _))
          iterate 3 (go_big_quiet_step (fail))
          refine wpQuiet_nil ?_
          rintro _ ⟨y, rfl⟩
          have hby := b_then hb0 y.below
          clear k0 j0 k1 j1 k2 j2 k3 j3 k4 j4 k5 j5 k6 j6 k7 j7 k8 j8 k9 j9 k10 j10 k11 j11 k12 j12 k13 j13
          go_wp2_with fail
          go_ret
          exact ⟨by rw [HM.out]; rfl, hby⟩
        · have HM := Lib.hid (show mb = false by rw [HM'.out, decide_eq_true e1, decide_eq_false e2]; rfl)
          clear HM'
          have k0 : ∀ x : KeptW W, x.v.cell? ⟨w.heap.size, 0, none⟩ = _ := fun x => x.cell r0
          have j0 : ∀ x : KeptW W, x.v.cell? ⟨w.heap.size + 1, 0, none⟩ = _ := fun x => x.cell s0
          have k1 : ∀ x : KeptW W, x.v.cell? ⟨w.heap.size, 1, none⟩ = _ := fun x => x.cell r1
          have j1 : ∀ x : KeptW W, x.v.cell? ⟨w.heap.size + 1, 1, none⟩ = _ := fun x => x.cell s1
          have k2 : ∀ x : KeptW W, x.v.cell? ⟨w.heap.size, 2, none⟩ = _ := fun x => x.cell r2
          have j2 : ∀ x : KeptW W, x.v.cell? ⟨w.heap.size + 1, 2, none⟩ = _ := fun x => x.cell s2
          have k3 : ∀ x : KeptW W, x.v.cell? ⟨w.heap.size, 3, none⟩ = _ := fun x => x.cell r3
          have j3 : ∀ x : KeptW W, x.v.cell? ⟨w.heap.size + 1, 3, none⟩ = _ := fun x => x.cell s3
          have k4 : ∀ x : KeptW W, x.v.cell? ⟨w.heap.size, 4, none⟩ = _ := fun x => x.cell r4
          have j4 : ∀ x : KeptW W, x.v.cell? ⟨w.heap.size + 1, 4, none⟩ = _ := fun x => x.cell s4
          have k5 : ∀ x : KeptW W, x.v.cell? ⟨w.heap.size, 5, none⟩ = _ := fun x => x.cell r5
          have j5 : ∀ x : KeptW W, x.v.cell? ⟨w.heap.size + 1, 5, none⟩ = _ := fun x => x.cell s5
          have k6 : ∀ x : KeptW W, x.v.cell? ⟨w.heap.size, 6, none⟩ = _ := fun x => x.cell r6
          have j6 : ∀ x : KeptW W, x.v.cell? ⟨w.heap.size + 1, 6, none⟩ = _ := fun x => x.cell s6
          have k7 : ∀ x : KeptW W, x.v.cell? ⟨w.heap.size, 7, none⟩ = _ := fun x => x.cell r7
          have j7 : ∀ x : KeptW W, x.v.cell? ⟨w.heap.size + 1, 7, none⟩ = _ := fun x => x.cell s7
          have k8 : ∀ x : KeptW W, x.v.cell? ⟨w.heap.size, 8, none⟩ = _ := fun x => x.cell r8
          have j8 : ∀ x : KeptW W, x.v.cell? ⟨w.heap.size + 1, 8, none⟩ = _ := fun x => x.cell s8
          have k9 : ∀ x : KeptW W, x.v.cell? ⟨w.heap.size, 9, none⟩ = _ := fun x => x.cell r9
          have j9 : ∀ x : KeptW W, x.v.cell? ⟨w.heap.size + 1, 9, none⟩ = _ := fun x => x.cell s9
          have k10 : ∀ x : KeptW W, x.v.cell? ⟨w.heap.size, 10, none⟩ = _ := fun x => x.cell r10
          have j10 : ∀ x : KeptW W, x.v.cell? ⟨w.heap.size + 1, 10, none⟩ = _ := fun x => x.cell s10
          have k11 : ∀ x : KeptW W, x.v.cell? ⟨w.heap.size, 11, none⟩ = _ := fun x => x.cell r11
          have j11 : ∀ x : KeptW W, x.v.cell? ⟨w.heap.size + 1, 11, none⟩ = _ := fun x => x.cell s11
          have k12 : ∀ x : KeptW W, x.v.cell? ⟨w.heap.size, 12, none⟩ = _ := fun x => x.cell r12
          have j12 : ∀ x : KeptW W, x.v.cell? ⟨w.heap.size + 1, 12, none⟩ = _ := fun x => x.cell s12
          have k13 : ∀ x : KeptW W, x.v.cell? ⟨w.heap.size, 13, none⟩ = _ := fun x => x.cell r13
          have j13 : ∀ x : KeptW W, x.v.cell? ⟨w.heap.size + 1, 13, none⟩ = _ := fun x => x.cell s13
          have hne : Nonempty (KeptW W) := ⟨⟨W, Below.refl _ _⟩⟩
          clear r0 r1 r2 r3 r4 r5 r6 r7 r8 r9 r10 r11 r12 r13 s0 s1 s2 s3 s4 s5 s6 s7 s8 s9 s10 s11 s12 s13
          go_enter Tryz.func112, Tryz.ntmps112
          go_wp2_with fail
          rw [HW.out]
          clear HW
          refine region_kept (by kernel_rfl) (by kernel_rfl) ?_
          iterate 6 (go_big_quiet_step (fail))
          go_big_quiet_step (exact KeptW.calls (hil _))
          iterate 2 (go_big_quiet_step (fail))
          go_big_quiet_step (exact KeptW.calls (hix _))
          iterate 3 (go_big_quiet_step (fail))
          refine wpQuiet_nil ?_
          rintro _ ⟨y, rfl⟩
          have hby := b_then hb0 y.below
          clear k0 j0 k1 j1 k2 j2 k3 j3 k4 j4 k5 j5 k6 j6 k7 j7 k8 j8 k9 j9 k10 j10 k11 j11 k12 j12 k13 j13
          go_wp2_with fail
          go_ret
          exact ⟨by rw [HM.out]; rfl, hby⟩
      · have HM := Lib.hid (show mb = false by rw [HM'.out, decide_eq_false e1]; rfl)
        clear HM'
        have k0 : ∀ x : KeptW W, x.v.cell? ⟨w.heap.size, 0, none⟩ = _ := fun x => x.cell r0
        have j0 : ∀ x : KeptW W, x.v.cell? ⟨w.heap.size + 1, 0, none⟩ = _ := fun x => x.cell s0
        have k1 : ∀ x : KeptW W, x.v.cell? ⟨w.heap.size, 1, none⟩ = _ := fun x => x.cell r1
        have j1 : ∀ x : KeptW W, x.v.cell? ⟨w.heap.size + 1, 1, none⟩ = _ := fun x => x.cell s1
        have k2 : ∀ x : KeptW W, x.v.cell? ⟨w.heap.size, 2, none⟩ = _ := fun x => x.cell r2
        have j2 : ∀ x : KeptW W, x.v.cell? ⟨w.heap.size + 1, 2, none⟩ = _ := fun x => x.cell s2
        have k3 : ∀ x : KeptW W, x.v.cell? ⟨w.heap.size, 3, none⟩ = _ := fun x => x.cell r3
        have j3 : ∀ x : KeptW W, x.v.cell? ⟨w.heap.size + 1, 3, none⟩ = _ := fun x => x.cell s3
        have k4 : ∀ x : KeptW W, x.v.cell? ⟨w.heap.size, 4, none⟩ = _ := fun x => x.cell r4
        have j4 : ∀ x : KeptW W, x.v.cell? ⟨w.heap.size + 1, 4, none⟩ = _ := fun x => x.cell s4
        have k5 : ∀ x : KeptW W, x.v.cell? ⟨w.heap.size, 5, none⟩ = _ := fun x => x.cell r5
        have j5 : ∀ x : KeptW W, x.v.cell? ⟨w.heap.size + 1, 5, none⟩ = _ := fun x => x.cell s5
        have k6 : ∀ x : KeptW W, x.v.cell? ⟨w.heap.size, 6, none⟩ = _ := fun x => x.cell r6
        have j6 : ∀ x : KeptW W, x.v.cell? ⟨w.heap.size + 1, 6, none⟩ = _ := fun x => x.cell s6
        have k7 : ∀ x : KeptW W, x.v.cell? ⟨w.heap.size, 7, none⟩ = _ := fun x => x.cell r7
        have j7 : ∀ x : KeptW W, x.v.cell? ⟨w.heap.size + 1, 7, none⟩ = _ := fun x => x.cell s7
        have k8 : ∀ x : KeptW W, x.v.cell? ⟨w.heap.size, 8, none⟩ = _ := fun x => x.cell r8
        have j8 : ∀ x : KeptW W, x.v.cell? ⟨w.heap.size + 1, 8, none⟩ = _ := fun x => x.cell s8
        have k9 : ∀ x : KeptW W, x.v.cell? ⟨w.heap.size, 9, none⟩ = _ := fun x => x.cell r9
        have j9 : ∀ x : KeptW W, x.v.cell? ⟨w.heap.size + 1, 9, none⟩ = _ := fun x => x.cell s9
        have k10 : ∀ x : KeptW W, x.v.cell? ⟨w.heap.size, 10, none⟩ = _ := fun x => x.cell r10
        have j10 : ∀ x : KeptW W, x.v.cell? ⟨w.heap.size + 1, 10, none⟩ = _ := fun x => x.cell s10
        have k11 : ∀ x : KeptW W, x.v.cell? ⟨w.heap.size, 11, none⟩ = _ := fun x => x.cell r11
        have j11 : ∀ x : KeptW W, x.v.cell? ⟨w.heap.size + 1, 11, none⟩ = _ := fun x => x.cell s11
        have k12 : ∀ x : KeptW W, x.v.cell? ⟨w.heap.size, 12, none⟩ = _ := fun x => x.cell r12
        have j12 : ∀ x : KeptW W, x.v.cell? ⟨w.heap.size + 1, 12, none⟩ = _ := fun x => x.cell s12
        have k13 : ∀ x : KeptW W, x.v.cell? ⟨w.heap.size, 13, none⟩ = _ := fun x => x.cell r13
        have j13 : ∀ x : KeptW W, x.v.cell? ⟨w.heap.size + 1, 13, none⟩ = _ := fun x => x.cell s13
        have hne : Nonempty (KeptW W) := ⟨⟨W, Below.refl _ _⟩⟩
        clear r0 r1 r2 r3 r4 r5 r6 r7 r8 r9 r10 r11 r12 r13 s0 s1 s2 s3 s4 s5 s6 s7 s8 s9 s10 s11 s12 s13
        go_enter Tryz.func112, Tryz.ntmps112
        go_wp2_with fail
        rw [HW.out]
        clear HW
        refine region_kept (by kernel_rfl) (by kernel_rfl) ?_
        iterate 6 (go_big_quiet_step (fail))
        go_big_quiet_step (exact KeptW.calls (hil _))
        iterate 2 (go_big_quiet_step (fail))
        go_big_quiet_step (exact KeptW.calls (hix _))
        iterate 3 (go_big_quiet_step (fail))
        refine wpQuiet_nil ?_
        rintro _ ⟨y, rfl⟩
        have hby := b_then hb0 y.below
        clear k0 j0 k1 j1 k2 j2 k3 j3 k4 j4 k5 j5 k6 j6 k7 j7 k8 j8 k9 j9 k10 j10 k11 j11 k12 j12 k13 j13
        go_wp2_with fail
        go_ret
        exact ⟨by rw [HM.out]; rfl, hby⟩
end Go.Proofs.YtphoclgibnhjfaaGreat
