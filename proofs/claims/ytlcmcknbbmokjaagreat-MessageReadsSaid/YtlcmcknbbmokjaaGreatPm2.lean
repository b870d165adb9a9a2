/- Contracts: the reference's IsName. · Contracts of the reference: First. · Contracts of check.List, check.Named at requests: message.checkRequests. · Contracts of slices.IndexFunc at requests and a name. · Contract of message.Pairs: requests that are linked, for every list of requests. · Contracts of the reference: At, optional, CheckRequest. · Contract of the reference's CheckRequest. · Lines of messages: their values; CheckLine, of package message and of the reference. -/
import Derived.Test.YtlcmcknbbmokjaaGreatPm1
import Derived.OwnWalk
import Derived.Laws.AppendOwn
import Derived.Laws.Rows
import Derived.Deep.AppendLies
namespace Go.Proofs.YtlcmcknbbmokjaaGreat
open Go Go.RowKit
/-- How the reference's test of a byte goes. -/
inductive NC (i : Nat) (c : Int) : Bool → Prop
  | low (h1 : decide (97 ≤ c) = true) (h2 : decide (c ≤ 122) = true) : NC i c true
  | up (h1 : decide (97 ≤ c) = false) (h3 : decide (65 ≤ c) = true) (h4 : decide (c ≤ 90) = true) : NC i c true
  | head1 (h : ((i : Int) == 0) = true) (h1 : decide (97 ≤ c) = true) (h2 : decide (c ≤ 122) = false) (h3 : decide (65 ≤ c) = true) (h4 : decide (c ≤ 90) = false) : NC i c false
  | head2 (h : ((i : Int) == 0) = true) (h1 : decide (97 ≤ c) = false) (h3 : decide (65 ≤ c) = true) (h4 : decide (c ≤ 90) = false) : NC i c false
  | head3 (h : ((i : Int) == 0) = true) (h1 : decide (97 ≤ c) = false) (h3 : decide (65 ≤ c) = false) : NC i c false
  | high (h : ((i : Int) == 0) = false) (h1 : decide (97 ≤ c) = true) (h2 : decide (c ≤ 122) = false) (h3 : decide (65 ≤ c) = true) (h4 : decide (c ≤ 90) = false) (h9 : (c != 95) = true) (h5 : decide (c < 48) = false) (h6 : decide (57 < c) = true) : NC i c false
  | line (h : ((i : Int) == 0) = false) (h1 : decide (97 ≤ c) = false) (h3 : decide (65 ≤ c) = true) (h4 : decide (c ≤ 90) = false) (h9 : (c != 95) = false) : NC i c true
  | mid (h : ((i : Int) == 0) = false) (h1 : decide (97 ≤ c) = false) (h3 : decide (65 ≤ c) = true) (h4 : decide (c ≤ 90) = false) (h9 : (c != 95) = true) (h5 : decide (c < 48) = false) (h6 : decide (57 < c) = true) : NC i c false
  | less (h : ((i : Int) == 0) = false) (h1 : decide (97 ≤ c) = false) (h3 : decide (65 ≤ c) = false) (h9 : (c != 95) = true) (h5 : decide (c < 48) = true) : NC i c false
  | gap (h : ((i : Int) == 0) = false) (h1 : decide (97 ≤ c) = false) (h3 : decide (65 ≤ c) = false) (h9 : (c != 95) = true) (h5 : decide (c < 48) = false) (h6 : decide (57 < c) = true) : NC i c false
  | digit (h : ((i : Int) == 0) = false) (h1 : decide (97 ≤ c) = false) (h3 : decide (65 ≤ c) = false) (h9 : (c != 95) = true) (h5 : decide (c < 48) = false) (h6 : decide (57 < c) = false) : NC i c true
theorem nc_of (i c : Nat) : NC i (c : Int) (nameC i c) := by
  have e : ∀ b, (b = nameC i c) → NC i (c : Int) b → NC i (c : Int) (nameC i c) := fun b h k => h ▸ k
  have z1 : i = 0 → ((i : Int) == 0) = true := fun h => by simp [h]
  have z0 : i ≠ 0 → ((i : Int) == 0) = false := fun h => by rw [beq_eq_false_iff_ne]; omega
  have n1 : c ≠ 95 → ((c : Int) != 95) = true := fun h => by rw [bne_iff_ne]; omega
  by_cases h1 : 97 ≤ c
  · by_cases h2 : c ≤ 122
    · exact e _ (by unfold nameC letN; rw [decide_eq_true (show (97 : Int) ≤ c by omega), decide_eq_true (show (c : Int) ≤ 122 by omega)]; simp) (.low (decide_eq_true (by omega)) (decide_eq_true (by omega)))
    · by_cases h : i = 0
      · exact e _ (by unfold nameC letN; rw [decide_eq_false (show ¬ (c : Int) ≤ 122 by omega), decide_eq_false (show ¬ (c : Int) ≤ 90 by omega)]; simp [h]) (.head1 (z1 h) (decide_eq_true (by omega)) (decide_eq_false (by omega)) (decide_eq_true (by omega)) (decide_eq_false (by omega)))
      · exact e _ (by unfold nameC letN digN; rw [decide_eq_false (show ¬ (c : Int) ≤ 122 by omega), decide_eq_false (show ¬ (c : Int) ≤ 90 by omega), decide_eq_false (show ¬ (c : Int) ≤ 57 by omega), decide_eq_false (show ¬ c = 95 by omega)]; simp) (.high (z0 h) (decide_eq_true (by omega)) (decide_eq_false (by omega)) (decide_eq_true (by omega)) (decide_eq_false (by omega)) (n1 (by omega)) (decide_eq_false (by omega)) (decide_eq_true (by omega)))
  · by_cases h3 : 65 ≤ c
    · by_cases h4 : c ≤ 90
      · exact e _ (by unfold nameC letN; rw [decide_eq_true (show (65 : Int) ≤ c by omega), decide_eq_true (show (c : Int) ≤ 90 by omega)]; simp) (.up (decide_eq_false (by omega)) (decide_eq_true (by omega)) (decide_eq_true (by omega)))
      · by_cases h : i = 0
        · exact e _ (by unfold nameC letN; rw [decide_eq_false (show ¬ (97 : Int) ≤ c by omega), decide_eq_false (show ¬ (c : Int) ≤ 90 by omega)]; simp [h]) (.head2 (z1 h) (decide_eq_false (by omega)) (decide_eq_true (by omega)) (decide_eq_false (by omega)))
        · by_cases h5 : c = 95
          · exact e _ (by unfold nameC; rw [decide_eq_true h5, decide_eq_true h]; simp) (.line (z0 h) (decide_eq_false (by omega)) (decide_eq_true (by omega)) (decide_eq_false (by omega)) (by simp [h5]))
          · exact e _ (by unfold nameC letN digN; rw [decide_eq_false (show ¬ (97 : Int) ≤ c by omega), decide_eq_false (show ¬ (c : Int) ≤ 90 by omega), decide_eq_false (show ¬ (c : Int) ≤ 57 by omega), decide_eq_false h5]; simp) (.mid (z0 h) (decide_eq_false (by omega)) (decide_eq_true (by omega)) (decide_eq_false (by omega)) (n1 h5) (decide_eq_false (by omega)) (decide_eq_true (by omega)))
    · by_cases h : i = 0
      · exact e _ (by unfold nameC letN; rw [decide_eq_false (show ¬ (97 : Int) ≤ c by omega), decide_eq_false (show ¬ (65 : Int) ≤ c by omega)]; simp [h]) (.head3 (z1 h) (decide_eq_false (by omega)) (decide_eq_false (by omega)))
      · by_cases h5 : c < 48
        · exact e _ (by unfold nameC letN digN; rw [decide_eq_false (show ¬ (97 : Int) ≤ c by omega), decide_eq_false (show ¬ (65 : Int) ≤ c by omega), decide_eq_false (show ¬ (48 : Int) ≤ c by omega), decide_eq_false (show ¬ c = 95 by omega)]; simp) (.less (z0 h) (decide_eq_false (by omega)) (decide_eq_false (by omega)) (n1 (by omega)) (decide_eq_true (by omega)))
        · by_cases h6 : c ≤ 57
          · exact e _ (by unfold nameC digN; rw [decide_eq_true (show (48 : Int) ≤ c by omega), decide_eq_true (show (c : Int) ≤ 57 by omega), decide_eq_true h]; simp) (.digit (z0 h) (decide_eq_false (by omega)) (decide_eq_false (by omega)) (n1 (by omega)) (decide_eq_false (by omega)) (decide_eq_false (by omega)))
          · exact e _ (by unfold nameC letN digN; rw [decide_eq_false (show ¬ (97 : Int) ≤ c by omega), decide_eq_false (show ¬ (65 : Int) ≤ c by omega), decide_eq_false (show ¬ (c : Int) ≤ 57 by omega), decide_eq_false (show ¬ c = 95 by omega)]; simp) (.gap (z0 h) (decide_eq_false (by omega)) (decide_eq_false (by omega)) (n1 (by omega)) (decide_eq_false (by omega)) (decide_eq_true (by omega)))
set_option maxRecDepth 100000 in
set_option maxHeartbeats 2000000 in
theorem qIsName_any (s : ByteArray) (w : World) :
    Calls Tryz.prog 106 #[.string s] w fun e w' => e = .returned (.bool (decide (isName s))) ∧ Below w.heap.size w w' := by
  by_cases h0 : s.size = 0
  · have HN : Hid (decide (isName s) = false) := Lib.hid (decide_eq_false fun h => h.1 h0)
    have hb : ((s.size : Int) == 0) = true := by simp [h0]
    clear h0
    go_enter Tryz.func106, Tryz.ntmps106
    go_wp2_with fail
    go_ret
    exact ⟨by rw [HN.out]; rfl, Below.refl _ _⟩
  · have hb : ((s.size : Int) == 0) = false := by rw [beq_eq_false_iff_ne]; omega
    by_cases h24 : s.size ≤ 24
    · have hb2 : decide ((24 : Int) < s.size) = false := decide_eq_false (by omega)
      have HS : Hid (s.size ≠ 0 ∧ s.size ≤ 24) := Lib.hid ⟨h0, h24⟩
      clear h0
      go_enter Tryz.func106, Tryz.ntmps106
      go_wp2_with fail
      go_loop [3] (fun i => ∃ pos : Nat, pos ≤ s.size ∧ i = .int .i64 pos ∧ Hid (∀ i, i < pos → nameC i (byteAt s i) = true)) (fun i => s.size - (intOf i).toNat)
      case atStart => exact ⟨0, Nat.zero_le _, rfl, Lib.hid (fun i hi => absurd hi (Nat.not_lt_zero _))⟩
      case round =>
        obtain ⟨pos, hps, rfl, HP⟩ := hrel
        by_cases hp : pos < s.size
        · have hnc := nc_of pos (byteAt s pos)
          have HOK : Hid (nameC pos (byteAt s pos) = true → ∀ i, i < pos + 1 → nameC i (byteAt s i) = true) := Lib.hid (fun hok i hi => by
            rcases Nat.lt_or_ge i pos with h | h
            · exact HP.out i h
            · obtain rfl : i = pos := by omega
              exact hok)
          have HBD : Hid (nameC pos (byteAt s pos) = false → decide (isName s) = false) := Lib.hid (fun h => name_bad hp h)
          generalize nameC pos (byteAt s pos) = bb at *
          rw [byteAt_eq hp] at hnc
          cases hnc
          all_goals
            first
            | (have HB := Lib.hid (HBD.out rfl)
               clear HBD HOK
               go_wp2_with fail
               go_ret
               exact ⟨by rw [HB.out]; rfl, Below.refl _ _⟩)
            | (have HP2 := Lib.hid (HOK.out rfl)
               clear HBD HOK
               go_wp2_with fail
               go_round
               case rel => exact ⟨pos + 1, by omega, by go_num, HP2⟩
               case measure => simp [intOf]; omega)
        · obtain rfl : pos = s.size := by omega
          have HB : Hid (decide (isName s) = true) := Lib.hid (decide_eq_true ⟨HS.out.1, HS.out.2, HP.out⟩)
          go_wp2_with fail
          go_ret
          exact ⟨by rw [HB.out]; rfl, Below.refl _ _⟩
    · have HN : Hid (decide (isName s) = false) := Lib.hid (decide_eq_false fun h => h24 h.2.1)
      have hb2 : decide ((24 : Int) < s.size) = true := decide_eq_true (by omega)
      clear h24 h0
      go_enter Tryz.func106, Tryz.ntmps106
      go_wp2_with fail
      go_ret
      exact ⟨by rw [HN.out]; rfl, Below.refl _ _⟩
end Go.Proofs.YtlcmcknbbmokjaaGreat
namespace Go.Proofs.YtlcmcknbbmokjaaGreat
open Go Go.RowKit
theorem qFirst_any (es : List Int) (b c : Nat) (w : World) (hc : ∀ i, i < es.length → w.cell? ⟨b, i, none⟩ = some (.int .i64 (es.getD i 0))) (hl : es.length ≤ 100) :
    Calls Tryz.prog 35 #[.slice (some ⟨b, 0, none⟩) es.length c] w fun r w' => r = .returned (.int .i64 (fst es)) ∧ w' = w := by
  have HC := Lib.hid hc
  clear hc
  go_enter Tryz.func35, Tryz.ntmps35
  go_wp2
  go_loop [3] (fun i => ∃ k : Nat, k ≤ es.length ∧ i = .int .i64 k ∧ Hid (fst es = fst (es.drop k))) (fun i => es.length - (intOf i).toNat)
  case atStart => exact ⟨0, Nat.zero_le _, rfl, Lib.hid (by simp)⟩
  case round =>
    obtain ⟨k, hk, rfl, HF⟩ := hrel
    by_cases hlt : k < es.length
    · have hcell := HC.out k hlt
      have hd := fst_drop es k hlt
      by_cases hz : es.getD k 0 = 0
      · have HD := Lib.hid hd; clear hd
        have HZ := Lib.hid hz
        rw [hz] at hcell
        clear hz
        go_wp2
        go_round
        case rel => exact ⟨k + 1, by omega, by go_num, Lib.hid (by rw [HF.out, HD.out, if_pos HZ.out])⟩
        case measure => simp [intOf]; omega
      · have HD := Lib.hid (show fst es = es.getD k 0 by rw [HF.out, hd, if_neg hz]); clear hd
        generalize es.getD k 0 = x at *
        have hb : (x != 0) = true := by simpa using hz
        clear hz
        go_wp2
        go_ret
        exact ⟨by rw [HD.out]; rfl, rfl⟩
    · have HD := Lib.hid (show fst es = 0 by rw [HF.out, List.drop_of_length_le (by omega)]; rfl)
      go_wp2
      go_ret
      exact ⟨by rw [HD.out]; rfl, rfl⟩
end Go.Proofs.YtlcmcknbbmokjaaGreat
namespace Go.Proofs.YtlcmcknbbmokjaaGreat
open Go Go.RowKit Go.ChangeMaps Go.MapKept
theorem store_func (w : World) (a : Addr) (m : Mode) (fn : Fn) (first captured : Array Value) : (store a (.func fn first captured) m).run Tryz.prog w = stored Tryz.prog w a (.func fn first captured) m := run_store Tryz.prog w a _ m rfl
instance : Inhabited ReqV := ⟨⟨ByteArray.empty, ByteArray.empty, ByteArray.empty, ByteArray.empty, ByteArray.empty, ByteArray.empty, 0, 0, 0, 0, 0, 0, 0⟩⟩
/-- The cells of a slice of requests. -/
structure RqsAt (w : World) (b off : Nat) (l : List ReqV) : Prop where
  c : ∀ k, k < l.length → ∀ t v, (l.getD k default).cells[t]? = some v → w.cell? ⟨b, off + k * 13 + t, none⟩ = some v
theorem RqsAt.below {w w' : World} {b off : Nat} {l : List ReqV} (h : RqsAt w b off l) (hb : Below w.heap.size w w') : RqsAt w' b off l := ⟨fun k hk t v hv => b_old hb (h.c k hk t v hv)⟩
theorem RqsAt.grown {w w' : World} {b off : Nat} {l : List ReqV} {r : Nat} (h : RqsAt w b off l) (hg : w.grownBy w' (some r)) (hne : b ≠ r) : RqsAt w' b off l := ⟨fun k hk t v hv => gb_cell hg (h.c k hk t v hv) hne⟩
theorem RqsAt.row {w : World} {b off : Nat} {l : List ReqV} (h : RqsAt w b off l) {k : Nat} (hk : k < l.length) {q : ReqV} (hq : l.getD k default = q) :
    w.cell? ⟨b, off + k * 13, none⟩ = some (.string q.name) ∧ w.cell? ⟨b, off + k * 13 + 1, none⟩ = some (.string q.carrier) ∧ w.cell? ⟨b, off + k * 13 + 2, none⟩ = some (.string q.kind) ∧ w.cell? ⟨b, off + k * 13 + 3, none⟩ = some (.string q.terminal) ∧ w.cell? ⟨b, off + k * 13 + 4, none⟩ = some (.string q.partner) ∧ w.cell? ⟨b, off + k * 13 + 5, none⟩ = some (.string q.link) ∧ w.cell? ⟨b, off + k * 13 + 6, none⟩ = some (.int .i64 q.from_) ∧ w.cell? ⟨b, off + k * 13 + 7, none⟩ = some (.int .i64 q.to) ∧ w.cell? ⟨b, off + k * 13 + 8, none⟩ = some (.int .i64 q.days) ∧ w.cell? ⟨b, off + k * 13 + 9, none⟩ = some (.int .i64 q.minute) ∧ w.cell? ⟨b, off + k * 13 + 10, none⟩ = some (.int .i64 q.seats) ∧ w.cell? ⟨b, off + k * 13 + 11, none⟩ = some (.int .i64 q.size) ∧ w.cell? ⟨b, off + k * 13 + 12, none⟩ = some (.int .i64 q.noise) := by
  subst hq
  exact ⟨h.c k hk 0 _ rfl, h.c k hk 1 _ rfl, h.c k hk 2 _ rfl, h.c k hk 3 _ rfl, h.c k hk 4 _ rfl, h.c k hk 5 _ rfl, h.c k hk 6 _ rfl, h.c k hk 7 _ rfl, h.c k hk 8 _ rfl, h.c k hk 9 _ rfl, h.c k hk 10 _ rfl, h.c k hk 11 _ rfl, h.c k hk 12 _ rfl⟩
theorem NamedW.grown {w w' : World} {c1 c2 c3 cm m n n' : Nat} {S S' : ByteArray → Bool} (h : NamedW w c1 c2 c3 cm m n S) (hg : w.grownBy w' (some m)) (hS : SeenM w' m n' S') : NamedW w' c1 c2 c3 cm m n' S' :=
  ⟨gb_cell hg h.f1 h.n1, gb_cell hg h.f2 h.n2, gb_cell hg h.f3 h.n3, gb_cell hg h.f4 h.n4, hS, h.n1, h.n2, h.n3, h.n4⟩
theorem NamedW.below {w w' : World} {c1 c2 c3 cm m n : Nat} {S : ByteArray → Bool} (h : NamedW w c1 c2 c3 cm m n S) (hb : Below w.heap.size w w') : NamedW w' c1 c2 c3 cm m n S :=
  h.grown (gb_but (grown_below hb) _) (h.seen.below hb)
/-- The first error of requests, with the names that were seen before them. -/
def namedErr : List ReqV → (ByteArray → Bool) → Int
  | [], _ => 0
  | q :: r, S => if fst [reqErr q, unl (!(S q.name)) 9] ≠ 0 then fst [reqErr q, unl (!(S q.name)) 9] else namedErr r (onceStep S q.name)
theorem namedErr_drop (l : List ReqV) (k : Nat) (h : k < l.length) (S : ByteArray → Bool) (q : ReqV) (hq : l.getD k default = q) :
    namedErr (l.drop k) S = if fst [reqErr q, unl (!(S q.name)) 9] ≠ 0 then fst [reqErr q, unl (!(S q.name)) 9] else namedErr (l.drop (k + 1)) (onceStep S q.name) := by
  subst hq
  rw [List.drop_eq_getElem_cons h]
  simp only [List.getD_eq_getElem?_getD, List.getElem?_eq_getElem h, Option.getD_some]
  rfl
theorem reqList_many (A : Option Addr) (n cap : Nat) (most : Int) (f : Value) (w : World) (h : most < (n : Int)) :
    Calls Tryz.prog 210 #[.slice A n cap, .int .i64 most, f] w fun e w' => e = .returned (.int .i64 5) ∧ w' = w := by
  go_enter Tryz.func210, Tryz.ntmps210
  go_wp2_with fail
  go_ret
  exact ⟨rfl, rfl⟩
set_option maxRecDepth 100000 in
set_option maxHeartbeats 2000000 in
theorem reqList_any (c1 c2 c3 cm m : Nat) (S : ByteArray → Bool) (l : List ReqV) (b off cap : Nat) (most : Int) (w : World) (h : NamedW w c1 c2 c3 cm m 0 S) (hl : RqsAt w b off l) (hbm : b ≠ m) (hn : (l.length : Int) ≤ most) (hm : most ≤ 900)
    (hs : ∀ k, k < l.length → (l.getD k default).name.size ≤ maxLen) :
    Calls Tryz.prog 210 #[.slice (some ⟨b, off, none⟩) l.length cap, .int .i64 most, .func (.func 211) #[] #[.pointer (some ⟨c1, 0, none⟩), .pointer (some ⟨c2, 0, none⟩), .pointer (some ⟨c3, 0, none⟩)]] w
      fun e w' => e = .returned (.int .i64 (namedErr l S)) ∧ w.grownBy w' (some m) := by
  have hgt : ¬ (most < (l.length : Int)) := by omega
  have HN := Lib.hid h
  have HL := Lib.hid hl
  have HS := Lib.hid hs
  clear h hl hs
  have hlen : l.length ≤ 900 := by omega
  go_enter Tryz.func210, Tryz.ntmps210
  go_wp2_with fail
  go_loopw [16] (fun i wr => ∃ (k : Nat) (T : ByteArray → Bool), k ≤ l.length ∧ i = .int .i64 k ∧ Hid (namedErr l S = namedErr (l.drop k) T) ∧ Hid (NamedW wr c1 c2 c3 cm m k T) ∧ Hid (RqsAt wr b off l) ∧ Hid (w.grownBy wr (some m))) (fun i _ => l.length - (intOf i).toNat)
  case atStart => exact ⟨0, S, Nat.zero_le _, rfl, Lib.hid (by simp), HN, HL, Lib.hid (World.grownBy.refl _ _)⟩
  case round =>
    obtain ⟨k, T, hk, rfl, HF, HNW, HQ, HG⟩ := hrel
    by_cases hlt : k < l.length
    · have hd := namedErr_drop l k hlt T _ rfl
      have hsz := HS.out k hlt
      have hrow := HQ.out.row hlt rfl
      generalize l.getD k default = q at hd hsz hrow
      have hcall : ∀ w1 : World, NamedW w1 c1 c2 c3 cm m k T → Calls Tryz.prog 211 #[.agg q.cells, .pointer (some ⟨c1, 0, none⟩), .pointer (some ⟨c2, 0, none⟩), .pointer (some ⟨c3, 0, none⟩)] w1
          fun e w' => e = .returned (.int .i64 (fst [reqErr q, unl (!(T q.name)) 9])) ∧ SeenM w' m (k + 1) (onceStep T q.name) ∧ w1.grownBy w' (some m) := fun w1 h1 => named1_any c1 c2 c3 cm m k T q w1 h1 hsz (by omega)
      generalize fst [reqErr q, unl (!(T q.name)) 9] = e at hd hcall
      generalize onceStep T q.name = T' at hd hcall
      have HD := Lib.hid hd
      clear hd
      obtain ⟨qa, qb, qc, qd, qe, qf, qg, qh, qi, qj, qk, ql, qm⟩ := q
      dsimp only [ReqV.cells] at hcall hrow
      obtain ⟨x0, x1, x2, x3, x4, x5, x6, x7, x8, x9, x10, x11, x12⟩ := hrow
      go_wp2_with fail
      refine (hcall _ (HNW.out.below (below_alloc _ _))).mono ?_
      rintro e1 w1 ⟨rfl, hS1, hg1⟩
      have HN1 : Hid (NamedW w1 c1 c2 c3 cm m (k + 1) T') := Lib.hid ((HNW.out.below (below_alloc _ _)).grown hg1 hS1)
      have hg2 : wr.grownBy w1 (some m) := gb_trans (gb_but (grown_below (below_alloc _ _)) _) hg1
      have HG1 : Hid (w.grownBy w1 (some m)) := Lib.hid (gb_trans HG.out hg2)
      have HQ1 : Hid (RqsAt w1 b off l) := Lib.hid (HQ.out.grown hg2 hbm)
      clear x0 x1 x2 x3 x4 x5 x6 x7 x8 x9 x10 x11 x12 hg1 hg2 hS1 hcall
      by_cases he : e = 0
      · subst he
        go_wp2_with fail
        go_round
        case rel => exact ⟨k + 1, T', by omega, by go_num, Lib.hid (by rw [HF.out, HD.out, if_neg (by simp)]), HN1, HQ1, HG1⟩
        case measure => simp [intOf]; omega
      · have hb : (e != 0) = true := by simpa using he
        have HE := Lib.hid (show namedErr l S = e by rw [HF.out, HD.out, if_pos he])
        clear he
        go_wp2_with fail
        go_ret
        exact ⟨by rw [HE.out]; rfl, HG1.out⟩
    · have HE := Lib.hid (show namedErr l S = 0 by rw [HF.out, List.drop_of_length_le (by omega)]; rfl)
      go_wp2_with fail
      go_ret
      exact ⟨by rw [HE.out]; rfl, HG.out⟩
set_option maxRecDepth 100000 in
set_option maxHeartbeats 2000000 in
theorem reqNamed_any (l : List ReqV) (b off cap : Nat) (most : Int) (w : World) (hl : RqsAt w b off l) (hbs : b < w.heap.size) (hn : (l.length : Int) ≤ most) (hm : most ≤ 900)
    (hs : ∀ k, k < l.length → (l.getD k default).name.size ≤ maxLen) :
    Calls Tryz.prog 170 #[.slice (some ⟨b, off, none⟩) l.length cap, .int .i64 most, .func (.func 171) #[] #[], .func (.func 144) #[] #[]] w
      fun e w' => e = .returned (.int .i64 (namedErr l fun _ => false)) ∧ Below w.heap.size w w' := by
  have HL := Lib.hid hl
  have HS := Lib.hid hs
  clear hl hs
  go_enter Tryz.func170, Tryz.ntmps170
  go_wp2_with fail
  obtain ⟨W2, HW2, hb2, hs2, x0, x1⟩ : ∃ W2, (w.alloc (.cells #[.func (.func 171) #[] #[]] 231)).alloc (.cells #[.func (.func 144) #[] #[]] 198) = W2 ∧
      Below w.heap.size w W2 ∧ W2.heap.size = w.heap.size + 2 ∧ W2.cell? ⟨w.heap.size, 0, none⟩ = some (.func (.func 171) #[] #[]) ∧ W2.cell? ⟨w.heap.size + 1, 0, none⟩ = some (.func (.func 144) #[] #[]) :=
    ⟨_, rfl, below_alloc2 _ _ _, by simp, b_old (below_alloc _ _) (cell_fresh w [_] _ 0 _ rfl), by have := cell_fresh (w.alloc (.cells #[.func (.func 171) #[] #[]] 231)) [.func (.func 144) #[] #[]] 198 0 (.func (.func 144) #[] #[]) rfl; rw [show (w.alloc (.cells #[.func (.func 171) #[] #[]] 231)).heap.size = w.heap.size + 1 by simp] at this; exact this⟩
  rw [HW2]
  clear HW2
  have hon := Once_new W2
  rw [hs2] at hon
  refine hon.mono ?_
  rintro e1 w1 ⟨rfl, hS1, hcm, hb1, hs1⟩
  clear hon
  have hB1 : Below w.heap.size w w1 := hb2.trans (hb1.mono (by omega))
  have y0 := b_keep hb1 (show w.heap.size < w.heap.size + 2 by omega) x0
  have y1 := b_keep hb1 (show w.heap.size + 1 < w.heap.size + 2 by omega) x1
  have HS1 := Lib.hid hs1
  have hsf := store_func
  clear x0 x1 hb1 hb2 hs1
  go_wp2_with fail
  have hs1 := HS1.out
  have hb3 := below_alloc w1 (.cells #[.func (.func 222) #[] #[.pointer (some ⟨w.heap.size + 2 + 1, 0, none⟩)]] 215)
  have hNW : NamedW (w1.alloc (.cells #[.func (.func 222) #[] #[.pointer (some ⟨w.heap.size + 2 + 1, 0, none⟩)]] 215)) (w.heap.size + 1) w1.heap.size w.heap.size (w.heap.size + 2 + 1) (w.heap.size + 2) 0 (fun _ => false) :=
    ⟨b_old hb3 y1, cell_fresh w1 [_] _ 0 _ rfl, b_old hb3 y0, b_old hb3 hcm, hS1.below hb3, by omega, by omega, by omega, by omega⟩
  have hB3 := hB1.trans (hb3.mono (by omega))
  refine (reqList_any _ _ _ _ _ _ l b off cap most _ hNW (HL.out.below hB3) (by omega) hn hm HS.out).mono ?_
  rintro e2 w2 ⟨rfl, hg⟩
  have hB := hB3.grown hg (by simp; omega) (by rintro k ⟨⟩; omega)
  clear hNW hg hb3
  go_wp2_with fail
  go_ret
  exact ⟨rfl, hB⟩
set_option maxRecDepth 100000 in
theorem reqNamed_many (A : Option Addr) (n cap : Nat) (most : Int) (w : World) (h : most < (n : Int)) :
    Calls Tryz.prog 170 #[.slice A n cap, .int .i64 most, .func (.func 171) #[] #[], .func (.func 144) #[] #[]] w
      fun e w' => e = .returned (.int .i64 5) ∧ Below w.heap.size w w' := by
  go_enter Tryz.func170, Tryz.ntmps170
  go_wp2_with fail
  obtain ⟨W2, HW2, hb2⟩ : ∃ W2, (w.alloc (.cells #[.func (.func 171) #[] #[]] 231)).alloc (.cells #[.func (.func 144) #[] #[]] 198) = W2 ∧
      Below w.heap.size w W2 := ⟨_, rfl, below_alloc2 _ _ _⟩
  rw [HW2]
  clear HW2
  refine (Once_new W2).mono ?_
  rintro e1 w1 ⟨rfl, hS1, hcm, hb1, hs1⟩
  have hB1 := b_then hb2 hb1
  have hsf := store_func
  clear hS1 hcm hb1 hb2 hs1
  go_wp2_with fail
  have hB3 := b_then hB1 (below_alloc w1 (.cells #[.func (.func 222) #[] #[.pointer (some ⟨W2.heap.size + 1, 0, none⟩)]] 215))
  refine (reqList_many _ _ _ _ _ _ h).mono ?_
  rintro e2 w2 ⟨rfl, rfl⟩
  go_wp2_with fail
  go_ret
  exact ⟨rfl, hB3⟩
/-- The error of requests. -/
def reqsErr (l : List ReqV) : Int := if 64 < l.length then 5 else namedErr l fun _ => false
theorem checkReqs_any (l : List ReqV) (b off cap : Nat) (w : World) (hl : RqsAt w b off l) (hbs : b < w.heap.size) (hs : ∀ k, k < l.length → (l.getD k default).name.size ≤ maxLen) :
    Calls Tryz.prog 94 #[.slice (some ⟨b, off, none⟩) l.length cap] w fun e w' => e = .returned (.int .i64 (reqsErr l)) ∧ Below w.heap.size w w' := by
  have hH : Calls Tryz.prog 170 #[.slice (some ⟨b, off, none⟩) l.length cap, .int .i64 64, .func (.func 171) #[] #[], .func (.func 144) #[] #[]] w
      fun e w' => e = .returned (.int .i64 (reqsErr l)) ∧ Below w.heap.size w w' := by
    unfold reqsErr
    by_cases h : 64 < l.length
    · rw [if_pos h]; exact reqNamed_many _ _ _ _ _ (by omega)
    · rw [if_neg h]; exact reqNamed_any l b off cap 64 w hl hbs (by omega) (by omega) hs
  generalize reqsErr l = e at *
  generalize l.length = n at *
  go_enter Tryz.func94, Tryz.ntmps94
  go_wp2_with fail
  refine hH.mono ?_
  rintro e2 w2 ⟨rfl, hb⟩
  go_wp2_with fail
  go_ret
  exact ⟨rfl, hb⟩
end Go.Proofs.YtlcmcknbbmokjaaGreat
namespace Go.Proofs.YtlcmcknbbmokjaaGreat
open Go Go.RowKit
theorem isOf_any (s : ByteArray) (q : ReqV) (w : World) : Calls Tryz.prog 116 #[.string s, .agg q.cells] w fun r w' => r = .returned (.bool (q.name.toList == s.toList)) ∧ Below w.heap.size w w' := by
  obtain ⟨name, carrier, kind, terminal, partner, link, a, b, d, m, u, z, n⟩ := q
  simp only [ReqV.cells]
  go_enter Tryz.func116, Tryz.ntmps116
  go_wp2_with fail
  go_ret
  exact ⟨rfl, below_alloc _ _⟩
/-- The index of the first request with a name, counted from i, or -1. -/
def findIx (s : ByteArray) : List ReqV → Nat → Int
  | [], _ => -1
  | q :: r, i => if q.name.toList == s.toList then i else findIx s r (i + 1)
theorem findIx_drop (s : ByteArray) (l : List ReqV) (k : Nat) (h : k < l.length) (q : ReqV) (hq : l.getD k default = q) :
    findIx s (l.drop k) k = if q.name.toList == s.toList then (k : Int) else findIx s (l.drop (k + 1)) (k + 1) := by
  subst hq
  rw [List.drop_eq_getElem_cons h]
  simp only [List.getD_eq_getElem?_getD, List.getElem?_eq_getElem h, Option.getD_some]
  rfl
theorem findIx_at (s : ByteArray) : ∀ (l : List ReqV) (i : Nat), findIx s l i = -1 ∨ ∃ k, k < l.length ∧ findIx s l i = ((i + k : Nat) : Int)
  | [], _ => .inl rfl
  | q :: r, i => by
    unfold findIx
    split
    · exact .inr ⟨0, by simp, by simp⟩
    · rcases findIx_at s r (i + 1) with h | ⟨k, hk, h⟩
      · exact .inl h
      · exact .inr ⟨k + 1, by simpa using hk, by rw [h]; congr 1; omega⟩
set_option maxRecDepth 100000 in
set_option maxHeartbeats 2000000 in
theorem indexQ_any (s : ByteArray) (l : List ReqV) (b off cap : Nat) (w : World) (hl : RqsAt w b off l) (hn : l.length ≤ 900) :
    Calls Tryz.prog 95 #[.slice (some ⟨b, off, none⟩) l.length cap, .func (.func 116) #[.string s] #[]] w
      fun e w' => e = .returned (.int .i64 (findIx s l 0)) ∧ Below w.heap.size w w' := by
  have HL := Lib.hid hl
  clear hl
  go_enter Tryz.func95, Tryz.ntmps95
  go_wp2_with fail
  go_loopw [8] (fun i wr => ∃ (k : Nat), k ≤ l.length ∧ i = .int .i64 k ∧ Hid (findIx s l 0 = findIx s (l.drop k) k) ∧ Hid (RqsAt wr b off l) ∧ Hid (Below w.heap.size w wr)) (fun i _ => l.length - (intOf i).toNat)
  case atStart => exact ⟨0, Nat.zero_le _, rfl, Lib.hid (by simp), HL, Lib.hid (Below.refl _ _)⟩
  case round =>
    obtain ⟨k, hk, rfl, HF, HQ, HB⟩ := hrel
    by_cases hlt : k < l.length
    · have hd := findIx_drop s l k hlt _ rfl
      have hrow := HQ.out.row hlt rfl
      generalize l.getD k default = q at hd hrow
      have hcall := isOf_any s q
      generalize (q.name.toList == s.toList) = p at hd hcall
      have HD := Lib.hid hd
      clear hd
      obtain ⟨qa, qb, qc, qd, qe, qf, qg, qh, qi, qj, qk, ql, qm⟩ := q
      dsimp only [ReqV.cells] at hcall hrow
      obtain ⟨x0, x1, x2, x3, x4, x5, x6, x7, x8, x9, x10, x11, x12⟩ := hrow
      go_wp2_with fail
      refine (hcall _).mono ?_
      rintro e1 w1 ⟨rfl, hb1⟩
      have HB1 : Hid (Below w.heap.size w w1) := Lib.hid (b_then HB.out hb1)
      have HQ1 : Hid (RqsAt w1 b off l) := Lib.hid (HQ.out.below hb1)
      clear x0 x1 x2 x3 x4 x5 x6 x7 x8 x9 x10 x11 x12 hb1 hcall
      cases p
      · go_wp2_with fail
        go_round
        case rel => exact ⟨k + 1, by omega, by go_num, Lib.hid (by rw [HF.out, HD.out, if_neg (by simp)]), HQ1, HB1⟩
        case measure => simp [intOf]; omega
      · have HE := Lib.hid (show findIx s l 0 = k by rw [HF.out, HD.out, if_pos rfl])
        go_wp2_with fail
        go_ret
        exact ⟨by rw [HE.out]; rfl, HB1.out⟩
    · have HE := Lib.hid (show findIx s l 0 = -1 by rw [HF.out, List.drop_of_length_le (by omega)]; rfl)
      go_wp2_with fail
      go_ret
      exact ⟨by rw [HE.out]; rfl, HB.out⟩
/-- The request that another one names as its link can be linked with it. -/
def fitsB (q r : ReqV) : Bool := (r.link.toList == q.name.toList) && (!(r.kind.toList == q.kind.toList) && (r.carrier.toList == q.carrier.toList))
set_option maxRecDepth 100000 in
theorem fits_any (q r : ReqV) (w : World) : Calls Tryz.prog 117 #[.agg q.cells, .agg r.cells] w fun e w' => e = .returned (.bool (fitsB q r)) ∧ Below w.heap.size w w' := by
  have HF : Hid (fitsB q r = ((r.link.toList == q.name.toList) && (!(r.kind.toList == q.kind.toList) && (r.carrier.toList == q.carrier.toList)))) := Lib.hid rfl
  obtain ⟨name, carrier, kind, terminal, partner, link, a, b, d, m, u, z, n⟩ := q
  obtain ⟨name', carrier', kind', terminal', partner', link', a', b', d', m', u', z', n'⟩ := r
  simp only [ReqV.cells] at *
  cases h1 : (link'.toList == name.toList)
  · have HG := Lib.hid (HF.out.trans (by rw [h1, Bool.false_and]))
    go_enter Tryz.func117, Tryz.ntmps117
    go_wp2_with fail
    go_ret
    exact ⟨by rw [HG.out]; rfl, below_alloc2 _ _ _⟩
  · cases h2 : (kind'.toList == kind.toList)
    · have HG := Lib.hid (HF.out.trans (by rw [h1, h2, Bool.true_and, Bool.not_false, Bool.true_and]))
      go_enter Tryz.func117, Tryz.ntmps117
      go_wp2_with fail
      go_ret
      exact ⟨by rw [HG.out]; rfl, below_alloc2 _ _ _⟩
    · have HG := Lib.hid (HF.out.trans (by rw [h1, h2, Bool.true_and, Bool.not_true, Bool.false_and]))
      go_enter Tryz.func117, Tryz.ntmps117
      go_wp2_with fail
      go_ret
      exact ⟨by rw [HG.out]; rfl, below_alloc2 _ _ _⟩
end Go.Proofs.YtlcmcknbbmokjaaGreat
namespace Go.Proofs.YtlcmcknbbmokjaaGreat
open Go Go.RowKit Go.ChangeMaps Go.MapKept
def prFlat (l : List (Int × Int)) : List Value := (l.map fun s => [Value.int .i64 s.1, Value.int .i64 s.2]).flatten
theorem prFlat_snoc (l : List (Int × Int)) (a b : Int) : prFlat (l ++ [(a, b)]) = prFlat l ++ [.int .i64 a, .int .i64 b] := by simp [prFlat]
theorem pr_down {w : World} {base base' : Nat} {e : TypeId} {size : Nat} {v : Value} {n : Nat} {xs : List Value} (h : w.ownsRow base e size v n xs) (hb : base' ≤ base) : w.ownsRow base' e size v n xs := by
  refine ⟨h.1, ?_⟩
  rcases h.2 with h0 | ⟨g, cap, cur, hv, hg, r⟩
  · exact .inl h0
  · exact .inr ⟨g, cap, cur, hv, Nat.le_trans hb hg, r⟩
theorem pr_below {w w' : World} {base : Nat} {e : TypeId} {size : Nat} {v : Value} {n : Nat} {xs : List Value} (h : w.ownsRow base e size v n xs) (hb : Below w.heap.size w w') : w'.ownsRow base e size v n xs :=
  h.kept (grown_below hb) (by cases h : v.ownBlock with
    | none => exact .inl rfl
    | some k => exact .inr (by simp))
theorem pr_blk {w : World} {base : Nat} {e : TypeId} {size : Nat} {v : Value} {n : Nat} {xs : List Value} (h : w.ownsRow base e size v n xs) : ∀ k, v.ownBlock = some k → base ≤ k := by
  intro k hk
  rcases h.2 with ⟨hv, _⟩ | ⟨g, cap, cur, hv, hb, _⟩
  · subst hv; simp [Value.ownBlock] at hk
  · subst hv; simp only [Value.ownBlock, Option.some.injEq] at hk; omega
theorem prInfo : (Tryz.prog.info? 117).map (fun i => (i.zero, i.size, i.bytes)) = some (some (.agg #[.int .i64 0, .int .i64 0]), 2, 16) := by kernel_rfl
theorem prInfo_parts : ∃ i0, Tryz.prog.info? 117 = some i0 ∧ i0.zero = some (.agg #[.int .i64 0, .int .i64 0]) ∧ i0.size = 2 ∧ i0.bytes = 16 := by
  have h := prInfo
  cases hp : Tryz.prog.info? 117 with
  | none => rw [hp] at h; simp at h
  | some i => rw [hp] at h; simp only [Option.map_some, Option.some.injEq, Prod.mk.injEq] at h; exact ⟨i, rfl, h.1, h.2.1, h.2.2⟩
theorem heap_new (w : World) (o : Obj) : (w.alloc o).heap[w.heap.size]? = some o := by
  show (w.heap.push _)[_]? = _; simp
theorem ReqW.below {w w' : World} {b : Nat} {q : ReqV} (h : ReqW w b q) (hb : Below w.heap.size w w') : ReqW w' b q :=
  ⟨b_old hb h.c0, b_old hb h.c1, b_old hb h.c2, b_old hb h.c3, b_old hb h.c4, b_old hb h.c5, b_old hb h.c6, b_old hb h.c7, b_old hb h.c8, b_old hb h.c9, b_old hb h.c10, b_old hb h.c11, b_old hb h.c12⟩
/-- What message.Pairs does from the request i on. -/
def pairsGo (L : List ReqV) : List ReqV → Nat → List (Int × Int) → List (Int × Int) × Int
  | [], _, acc => (acc, 0)
  | q :: r, i, acc =>
    if (q.link.toList == []) = true then pairsGo L r (i + 1) acc
    else if findIx q.link L 0 < 0 then ([], 10)
    else if fitsB q (L.getD (findIx q.link L 0).toNat default) = false then ([], 32)
    else if (q.kind.toList == [65]) = true then pairsGo L r (i + 1) (acc ++ [((i : Int), findIx q.link L 0)])
    else pairsGo L r (i + 1) acc
theorem pairsGo_drop (L l : List ReqV) (k : Nat) (h : k < l.length) (q : ReqV) (hq : l.getD k default = q) (acc : List (Int × Int)) :
    pairsGo L (l.drop k) k acc =
      if (q.link.toList == []) = true then pairsGo L (l.drop (k + 1)) (k + 1) acc
      else if findIx q.link L 0 < 0 then ([], 10)
      else if fitsB q (L.getD (findIx q.link L 0).toNat default) = false then ([], 32)
      else if (q.kind.toList == [65]) = true then pairsGo L (l.drop (k + 1)) (k + 1) (acc ++ [((k : Int), findIx q.link L 0)])
      else pairsGo L (l.drop (k + 1)) (k + 1) acc := by
  subst hq
  rw [List.drop_eq_getElem_cons h]
  simp only [List.getD_eq_getElem?_getD, List.getElem?_eq_getElem h, Option.getD_some]
  rfl
def pairsOf (l : List ReqV) : List (Int × Int) × Int := if reqsErr l ≠ 0 then ([], reqsErr l) else pairsGo l l 0 []
set_option maxRecDepth 100000 in
set_option maxHeartbeats 4000000 in
theorem Pairs_any (l : List ReqV) (b off cap : Nat) (w : World) (hl : RqsAt w b off l) (hbs : b < w.heap.size) (hs : ∀ k, k < l.length → (l.getD k default).name.size ≤ maxLen) :
    Calls Tryz.prog 57 #[.slice (some ⟨b, off, none⟩) l.length cap] w fun r w' =>
      ∃ v, r = .returned (.tuple #[v, .int .i64 (pairsOf l).2]) ∧ w'.ownsRow w.heap.size 117 2 v (pairsOf l).1.length (prFlat (pairsOf l).1) ∧ Below w.heap.size w w' := by
  have hH := checkReqs_any l b off cap w hl hbs hs
  have HL := Lib.hid hl
  have HP : Hid (pairsOf l = if reqsErr l ≠ 0 then ([], reqsErr l) else pairsGo l l 0 []) := Lib.hid rfl
  have hle : reqsErr l = 0 → l.length ≤ 64 := by
    intro h
    unfold reqsErr at h
    by_cases h2 : 64 < l.length
    · rw [if_pos h2] at h; omega
    · omega
  clear hl hs
  generalize reqsErr l = re at *
  obtain ⟨i0, hi, hz0, hz1, hz2⟩ := prInfo_parts
  go_enter Tryz.func57, Tryz.ntmps57
  go_wp2_with fail
  refine hH.mono ?_
  rintro e1 w1 ⟨rfl, hb1⟩
  by_cases hre : re = 0
  · subst hre
    have hlen := hle rfl
    have HG : Hid (pairsOf l = pairsGo l l 0 []) := Lib.hid (by rw [HP.out, if_neg (by simp)])
    have HL1 : Hid (RqsAt w1 b off l) := Lib.hid (HL.out.below hb1)
    have hb0 : ((0 : Int) != 0) = false := rfl
    clear HP HL hH hle
    go_wp2_with fail
    go_loopw [5, 16] (fun v5 v16 wr => ∃ (k : Nat) (acc : List (Int × Int)), k ≤ l.length ∧ v16 = .int .i64 k ∧ Hid (pairsOf l = pairsGo l (l.drop k) k acc) ∧ acc.length ≤ k ∧
        wr.ownsRow w1.heap.size 117 2 v5 acc.length (prFlat acc) ∧ Hid (RqsAt wr b off l) ∧ Hid (Below w1.heap.size w1 wr)) (fun _ i _ => l.length - (intOf i).toNat)
    case atStart => exact ⟨0, [], Nat.zero_le _, rfl, Lib.hid (by rw [HG.out]; simp), by simp, World.ownsRow_nil _ _ _ _, HL1, Lib.hid (Below.refl _ _)⟩
    case round =>
      obtain ⟨k, acc, hk, rfl, HF, hacc, hown, HQ, HB⟩ := hrel
      by_cases hlt : k < l.length
      · have hd := pairsGo_drop l l k hlt _ rfl acc
        have hrow := HQ.out.row hlt rfl
        generalize l.getD k default = q at hd hrow
        obtain ⟨W, HW, hbW, R⟩ := req_new wr q 26
        have hix := fun w hl => indexQ_any q.link l b off cap w hl (by omega)
        have HFit := fun (r : ReqV) => fits_any q r
        have HD := Lib.hid (HF.out.trans hd)
        clear hd HF
        have hownW := pr_below hown hbW
        have HQW : Hid (RqsAt W b off l) := Lib.hid (HQ.out.below hbW)
        have HBW : Hid (Below w1.heap.size w1 W) := Lib.hid (b_then HB.out hbW)
        obtain ⟨fitq, hfitq⟩ : ∃ f : ReqV → Bool, f = fitsB q := ⟨_, rfl⟩
        rw [← hfitq] at HD HFit
        clear hfitq
        obtain ⟨qa, qb, qc, qd, qe, qf, qg, qh, qi, qj, qk, ql, qm⟩ := q
        dsimp only [ReqV.cells] at HFit hrow HW
        dsimp only at HD hix
        obtain ⟨x0, x1, x2, x3, x4, x5, x6, x7, x8, x9, x10, x11, x12⟩ := hrow
        obtain ⟨r0, r1, r2, r3, r4, r5, r6, r7, r8, r9, r10, r11, r12⟩ := R
        dsimp only at r0 r1 r2 r3 r4 r5 r6 r7 r8 r9 r10 r11 r12
        cases hlk : (qf.toList == ([] : List UInt8))
        · rw [hlk, if_neg (by simp)] at HD
          go_wp2_with fail
          rw [HW.out]
          refine (hix W HQW.out).mono ?_
          rintro e2 w2 ⟨rfl, hb2⟩
          have hown2 := pr_below hownW hb2
          have HQ2 : Hid (RqsAt w2 b off l) := Lib.hid (HQW.out.below hb2)
          have HB2 : Hid (Below w1.heap.size w1 w2) := Lib.hid (b_then HBW.out hb2)
          have hat := findIx_at qf l 0
          have r0 := b_old hb2 r0
          have r1 := b_old hb2 r1
          have r2 := b_old hb2 r2
          have r3 := b_old hb2 r3
          have r4 := b_old hb2 r4
          have r5 := b_old hb2 r5
          have r6 := b_old hb2 r6
          have r7 := b_old hb2 r7
          have r8 := b_old hb2 r8
          have r9 := b_old hb2 r9
          have r10 := b_old hb2 r10
          have r11 := b_old hb2 r11
          have r12 := b_old hb2 r12
          clear x0 x1 x2 x3 x4 x5 x6 x7 x8 x9 x10 x11 x12 hix HW hown hownW HQW HBW HQ HB hb2 hbW
          generalize findIx qf l 0 = o at *
          rcases hat with rfl | ⟨j, hj, ho⟩
          · have HE := Lib.hid (show pairsOf l = ([], 10) by rw [HD.out, if_pos (by decide)])
            go_wp2_with fail
            go_ret2
            rw [HE.out]
            exact ⟨_, rfl, World.ownsRow_nil _ _ _ _, b_then hb1 HB2.out⟩
          · rw [Nat.zero_add] at ho
            subst ho
            have hrowj := HQ2.out.row hj rfl
            rw [if_neg (by omega), Int.toNat_natCast] at HD
            generalize l.getD j default = r at hrowj HD
            have hfr := HFit r
            obtain ⟨y0, y1, y2, y3, y4, y5, y6, y7, y8, y9, y10, y11, y12⟩ := hrowj
            generalize fitq r = ft at HD hfr
            clear HFit
            go_wp2_with fail
            have k0 : ∀ x : KeptW w2, x.v.cell? ⟨wr.heap.size, 0, none⟩ = _ := fun x => x.cell r0
            have k1 : ∀ x : KeptW w2, x.v.cell? ⟨wr.heap.size, 1, none⟩ = _ := fun x => x.cell r1
            have k2 : ∀ x : KeptW w2, x.v.cell? ⟨wr.heap.size, 2, none⟩ = _ := fun x => x.cell r2
            have k3 : ∀ x : KeptW w2, x.v.cell? ⟨wr.heap.size, 3, none⟩ = _ := fun x => x.cell r3
            have k4 : ∀ x : KeptW w2, x.v.cell? ⟨wr.heap.size, 4, none⟩ = _ := fun x => x.cell r4
            have k5 : ∀ x : KeptW w2, x.v.cell? ⟨wr.heap.size, 5, none⟩ = _ := fun x => x.cell r5
            have k6 : ∀ x : KeptW w2, x.v.cell? ⟨wr.heap.size, 6, none⟩ = _ := fun x => x.cell r6
            have k7 : ∀ x : KeptW w2, x.v.cell? ⟨wr.heap.size, 7, none⟩ = _ := fun x => x.cell r7
            have k8 : ∀ x : KeptW w2, x.v.cell? ⟨wr.heap.size, 8, none⟩ = _ := fun x => x.cell r8
            have k9 : ∀ x : KeptW w2, x.v.cell? ⟨wr.heap.size, 9, none⟩ = _ := fun x => x.cell r9
            have k10 : ∀ x : KeptW w2, x.v.cell? ⟨wr.heap.size, 10, none⟩ = _ := fun x => x.cell r10
            have k11 : ∀ x : KeptW w2, x.v.cell? ⟨wr.heap.size, 11, none⟩ = _ := fun x => x.cell r11
            have k12 : ∀ x : KeptW w2, x.v.cell? ⟨wr.heap.size, 12, none⟩ = _ := fun x => x.cell r12
            have j0 : ∀ x : KeptW w2, x.v.cell? ⟨b, off + j * 13, none⟩ = _ := fun x => x.cell y0
            have j1 : ∀ x : KeptW w2, x.v.cell? ⟨b, off + j * 13 + 1, none⟩ = _ := fun x => x.cell y1
            have j2 : ∀ x : KeptW w2, x.v.cell? ⟨b, off + j * 13 + 2, none⟩ = _ := fun x => x.cell y2
            have j3 : ∀ x : KeptW w2, x.v.cell? ⟨b, off + j * 13 + 3, none⟩ = _ := fun x => x.cell y3
            have j4 : ∀ x : KeptW w2, x.v.cell? ⟨b, off + j * 13 + 4, none⟩ = _ := fun x => x.cell y4
            have j5 : ∀ x : KeptW w2, x.v.cell? ⟨b, off + j * 13 + 5, none⟩ = _ := fun x => x.cell y5
            have j6 : ∀ x : KeptW w2, x.v.cell? ⟨b, off + j * 13 + 6, none⟩ = _ := fun x => x.cell y6
            have j7 : ∀ x : KeptW w2, x.v.cell? ⟨b, off + j * 13 + 7, none⟩ = _ := fun x => x.cell y7
            have j8 : ∀ x : KeptW w2, x.v.cell? ⟨b, off + j * 13 + 8, none⟩ = _ := fun x => x.cell y8
            have j9 : ∀ x : KeptW w2, x.v.cell? ⟨b, off + j * 13 + 9, none⟩ = _ := fun x => x.cell y9
            have j10 : ∀ x : KeptW w2, x.v.cell? ⟨b, off + j * 13 + 10, none⟩ = _ := fun x => x.cell y10
            have j11 : ∀ x : KeptW w2, x.v.cell? ⟨b, off + j * 13 + 11, none⟩ = _ := fun x => x.cell y11
            have j12 : ∀ x : KeptW w2, x.v.cell? ⟨b, off + j * 13 + 12, none⟩ = _ := fun x => x.cell y12
            have hne : Nonempty (KeptW w2) := ⟨⟨w2, Below.refl _ _⟩⟩
            refine region_kept (by kernel_rfl) (by kernel_rfl) ?_
            iterate 5 (go_big_quiet_step (fail))
            go_big_quiet_step (exact KeptW.calls (hfr _))
            go_big_quiet_step (fail)
            refine wpQuiet_nil ?_
            rintro _ ⟨x, rfl⟩
            have hownx := pr_below hown2 x.below
            have HQx : Hid (RqsAt x.v b off l) := Lib.hid (HQ2.out.below x.below)
            have HBx : Hid (Below w1.heap.size w1 x.v) := Lib.hid (b_then HB2.out x.below)
            have z2 := k2 x
            clear k0 k1 k2 k3 k4 k5 k6 k7 k8 k9 k10 k11 k12 j0 j1 j2 j3 j4 j5 j6 j7 j8 j9 j10 j11 j12 hown2 HQ2 HB2 hfr hne
            cases ft
            · have HE := Lib.hid (show pairsOf l = ([], 32) by rw [HD.out, if_pos rfl])
              go_wp2_with fail
              go_ret2
              rw [HE.out]
              exact ⟨_, rfl, World.ownsRow_nil _ _ _ _, b_then hb1 HBx.out⟩
            · rw [if_neg (by simp)] at HD
              cases hkd : (qc.toList == [65])
              · rw [hkd, if_neg (by simp)] at HD
                go_wp2_with fail
                refine ⟨⟨k + 1, acc, by omega, by go_num, HD, by omega, hownx, HQx, HBx⟩, by simp [intOf]; omega⟩
              · rw [hkd, if_pos rfl] at HD
                go_wp2_with (at_builtin; refine Hid.out ?_)
                refine Lib.hid ?_
                have hsx := HBx.out.size
                refine wpList_append_own _ rfl _ _ 113 rfl w1.heap.size 117 i0 (.agg #[.int .i64 0, .int .i64 0]) 2 16 Tryz.underlying113 hi hz0 hz1 hz2 rfl (by decide) _ acc.length _ rfl (hownx.alloc _) ⟨x.v.heap.size, 0, none⟩ 1 1 [.int .i64 k, .int .i64 j] rfl rfl
                  (World.news_of_block (cs := #[.int .i64 k, .int .i64 j]) (t := 117) (fr := (0, 0)) (heap_new x.v _)) (by simp [Value.oneCell']) (by unfold maxLen; omega) (by omega) (by simp; omega) ?_
                intro v' w4 hown' hgrow _
                have hgrow2 : (x.v.alloc (.cells #[.int .i64 k, .int .i64 j] 117)).grownBy w4 u5.ownBlock := hgrow
                have hb4 : Below w1.heap.size w1 w4 := HBx.out.trans (((Below.refl _ x.v).alloc HBx.out.size _).grown hgrow2 (by have := HBx.out.size; simp; omega) (pr_blk hownx))
                have HQ4 : Hid (RqsAt w4 b off l) := Lib.hid ⟨fun k hk t v hv => by
                  have hbl : b < w1.heap.size := Nat.lt_of_lt_of_le hbs hb1.size
                  rw [hb4.cell (p := ⟨b, _, none⟩) hbl]; exact HL1.out.c k hk t v hv⟩
                clear hgrow hgrow2 hownx
                rw [← prFlat_snoc] at hown'
                go_wp2_with fail
                refine ⟨⟨k + 1, acc ++ [((k : Int), (j : Int))], by omega, by go_num, HD, by simp; omega, by simpa using hown', HQ4, Lib.hid hb4⟩, by simp [intOf]; omega⟩
        · rw [hlk, if_pos rfl] at HD
          clear HFit hix
          go_wp2_with fail
          rw [HW.out]
          refine ⟨⟨k + 1, acc, by omega, by go_num, HD, by omega, hownW, HQW, HBW⟩, by simp [intOf]; omega⟩
      · have hkn : k = l.length := by omega
        have HE := Lib.hid (show pairsOf l = (acc, 0) by rw [HF.out, List.drop_of_length_le (by omega)]; rfl)
        go_wp2_with fail
        go_ret2
        rw [HE.out]
        exact ⟨_, rfl, pr_down hown hb1.size, b_then hb1 HB.out⟩
  · have HG : Hid (pairsOf l = ([], re)) := Lib.hid (by rw [HP.out, if_pos hre])
    have hb0 : (re != 0) = true := by simpa using hre
    clear HP HL hH hle hre
    go_wp2_with fail
    go_ret2
    rw [HG.out]
    exact ⟨_, rfl, World.ownsRow_nil _ _ _ _, hb1⟩
end Go.Proofs.YtlcmcknbbmokjaaGreat
namespace Go.Proofs.YtlcmcknbbmokjaaGreat
open Go Go.RowKit
theorem hFirst_new (es : List Int) (b n c T : Nat) (w : World) (hb : b = w.heap.size) (hn : n = es.length) (hl : es.length ≤ 100) :
    Calls Tryz.prog 35 #[.slice (some ⟨b, 0, none⟩) n c] (w.alloc (.cells (es.map (Value.int .i64)).toArray T)) fun r w' => r = .returned (.int .i64 (fst es)) ∧ w' = w.alloc (.cells (es.map (Value.int .i64)).toArray T) := by
  subst hn hb
  exact qFirst_any es _ c _ (fun i hi => cell_fresh _ _ _ _ _ (by simp [hi])) hl
theorem refOpt_any (s : ByteArray) (w : World) : Calls Tryz.prog 173 #[.string s] w fun r w' => r = .returned (.bool (s.toList == [] || decide (isName s))) ∧ Below w.heap.size w w' := by
  cases h : (s.toList == [])
  · go_enter Tryz.func173, Tryz.ntmps173
    go_wp2_with fail
    refine (qIsName_any _ _).mono ?_
    rintro e w1 ⟨rfl, hb⟩
    go_wp2_with fail
    go_ret
    exact ⟨rfl, hb⟩
  · go_enter Tryz.func173, Tryz.ntmps173
    go_wp2_with fail
    go_ret
    exact ⟨rfl, Below.refl _ _⟩
set_option maxRecDepth 100000 in
set_option maxHeartbeats 2000000 in
theorem refAt_any (s : ByteArray) (l : List ReqV) (n b off cap : Nat) (w : World) (hl : RqsAt w b off l) (hn : n ≤ l.length) (h9 : l.length ≤ 900) :
    Calls Tryz.prog 56 #[.slice (some ⟨b, off, none⟩) n cap, .string s] w fun e w' => e = .returned (.int .i64 (findIx s (l.take n) 0)) ∧ ∃ m, w' = w.drewN m := by
  have HL := Lib.hid hl
  have hlen : (l.take n).length = n := by simp; omega
  clear hl
  go_enter Tryz.func56, Tryz.ntmps56
  go_wp2_with fail
  go_loopw [5] (fun i wr => ∃ (k : Nat), k ≤ n ∧ i = .int .i64 k ∧ Hid (findIx s (l.take n) 0 = findIx s ((l.take n).drop k) k) ∧ ∃ m, wr = w.drewN m) (fun i _ => n - (intOf i).toNat)
  case atStart => exact ⟨0, Nat.zero_le _, rfl, Lib.hid (by simp), 0, rfl⟩
  case round =>
    obtain ⟨k, hk, rfl, HF, m, rfl⟩ := hrel
    by_cases hlt : k < n
    · have hd := findIx_drop s (l.take n) k (by omega) _ rfl
      have hq : (l.take n).getD k default = l.getD k default := by simp [List.getD_eq_getElem?_getD, List.getElem?_take_of_lt hlt]
      rw [hq] at hd
      obtain ⟨x0, -⟩ := HL.out.row (show k < l.length by omega) rfl
      generalize (l.getD k default).name = nm at hd x0
      have HD := Lib.hid hd
      clear hd hq
      have y0 : (w.drewN m).cell? ⟨b, off + k * 13, none⟩ = some (.string nm) := x0
      clear x0
      cases hp : (nm.toList == s.toList)
      · rw [hp] at HD
        go_wp2_with fail
        go_round
        case rel => exact ⟨k + 1, by omega, by go_num, Lib.hid (by rw [HF.out, HD.out, if_neg (by simp)]), m, rfl⟩
        case measure => simp [intOf]; omega
      · rw [hp] at HD
        have HE := Lib.hid (show findIx s (l.take n) 0 = k by rw [HF.out, HD.out, if_pos rfl])
        go_wp2_with fail
        go_ret
        exact ⟨by rw [HE.out]; rfl, m, rfl⟩
    · have HE := Lib.hid (show findIx s (l.take n) 0 = -1 by rw [HF.out, List.drop_of_length_le (by omega)]; rfl)
      go_wp2_with fail
      go_ret
      exact ⟨by rw [HE.out]; rfl, m, rfl⟩
end Go.Proofs.YtlcmcknbbmokjaaGreat
namespace Go.Proofs.YtlcmcknbbmokjaaGreat
open Go Go.RowKit
set_option maxRecDepth 100000 in
set_option maxHeartbeats 4000000 in
theorem refReq_any (q : ReqV) (w : World) :
    Calls Tryz.prog 100 #[.agg q.cells] w fun r w' => r = .returned (.int .i64 (reqErr q)) ∧ Below w.heap.size w w' := by
  have HE : Hid (reqErr q = fst [unl (decide (isName q.name)) 8, unl (decide (isName q.carrier)) 8, unl (decide (isName q.partner)) 8, unl (q.terminal.toList == [] || decide (isName q.terminal)) 8, unl (q.link.toList == [] || decide (isName q.link)) 8,
      unl (isKindB q.kind) 13, unl (q.link.toList != q.name.toList) 32, perErr q.from_ q.to q.days, rng q.minute 0 1439, rng q.seats 0 999, rng q.size 1 9, rng q.noise 0 99]) := Lib.hid rfl
  generalize reqErr q = re at HE ⊢
  have h1 := qIsName_any q.name
  have h2 := qIsName_any q.carrier
  have h3 := qIsName_any q.partner
  have h4 := refOpt_any q.terminal
  have h5 := refOpt_any q.link
  generalize decide (isName q.name) = p1 at h1 HE
  generalize decide (isName q.carrier) = p2 at h2 HE
  generalize decide (isName q.partner) = p3 at h3 HE
  generalize (q.terminal.toList == [] || decide (isName q.terminal)) = p4 at h4 HE
  generalize (q.link.toList == [] || decide (isName q.link)) = p5 at h5 HE
  obtain ⟨W, HW, hb0, R⟩ := req_new w q 26
  obtain ⟨name, carrier, kind, terminal, partner, link, a, b, d, m, s, z, n⟩ := q
  obtain ⟨r0, r1, r2, r3, r4, r5, r6, r7, r8, r9, r10, r11, r12⟩ := R
  simp only [ReqV.cells, isKindB] at *
  have k0 : ∀ x : KeptW W, x.v.cell? ⟨w.heap.size, 0, none⟩ = _ := fun x => x.cell r0
  have k1 : ∀ x : KeptW W, x.v.cell? ⟨w.heap.size, 1, none⟩ = _ := fun x => x.cell r1
  have k2 : ∀ x : KeptW W, x.v.cell? ⟨w.heap.size, 2, none⟩ = _ := fun x => x.cell r2
  have k3 : ∀ x : KeptW W, x.v.cell? ⟨w.heap.size, 3, none⟩ = _ := fun x => x.cell r3
  have k4 : ∀ x : KeptW W, x.v.cell? ⟨w.heap.size, 4, none⟩ = _ := fun x => x.cell r4
  have k5 : ∀ x : KeptW W, x.v.cell? ⟨w.heap.size, 5, none⟩ = _ := fun x => x.cell r5
  have k6 : ∀ x : KeptW W, x.v.cell? ⟨w.heap.size, 6, none⟩ = _ := fun x => x.cell r6
  have k7 : ∀ x : KeptW W, x.v.cell? ⟨w.heap.size, 7, none⟩ = _ := fun x => x.cell r7
  have k8 : ∀ x : KeptW W, x.v.cell? ⟨w.heap.size, 8, none⟩ = _ := fun x => x.cell r8
  have k9 : ∀ x : KeptW W, x.v.cell? ⟨w.heap.size, 9, none⟩ = _ := fun x => x.cell r9
  have k10 : ∀ x : KeptW W, x.v.cell? ⟨w.heap.size, 10, none⟩ = _ := fun x => x.cell r10
  have k11 : ∀ x : KeptW W, x.v.cell? ⟨w.heap.size, 11, none⟩ = _ := fun x => x.cell r11
  have k12 : ∀ x : KeptW W, x.v.cell? ⟨w.heap.size, 12, none⟩ = _ := fun x => x.cell r12
  clear r0 r1 r2 r3 r4 r5 r6 r7 r8 r9 r10 r11 r12
  obtain ⟨x0, hx0⟩ : ∃ x : KeptW W, W = x.v := ⟨⟨W, Below.refl _ _⟩, rfl⟩
  have HX := Lib.hid (HW.out.trans hx0)
  clear hx0 HW
  go_enter Tryz.func100, Tryz.ntmps100
  go_wp2_with fail
  rw [HX.out]
  clear HX
  go_wp2_with fail
  refine (KeptW.calls (h1 _)).mono ?_
  rintro e1 _ ⟨rfl, x1, rfl⟩
  cases p1
  · have HZ := Lib.hid (show re = 8 by rw [HE.out]; simp [fst, unl])
    go_wp2_with fail
    go_ret
    exact ⟨by rw [HZ.out]; rfl, b_then hb0 x1.below⟩
  go_wp2_with fail
  refine (KeptW.calls (h2 _)).mono ?_
  rintro e2 _ ⟨rfl, x2, rfl⟩
  cases p2
  · have HZ := Lib.hid (show re = 8 by rw [HE.out]; simp [fst, unl])
    go_wp2_with fail
    go_ret
    exact ⟨by rw [HZ.out]; rfl, b_then hb0 x2.below⟩
  go_wp2_with fail
  refine (KeptW.calls (h3 _)).mono ?_
  rintro e3 _ ⟨rfl, x3, rfl⟩
  cases p3
  · have HZ := Lib.hid (show re = 8 by rw [HE.out]; simp [fst, unl])
    go_wp2_with fail
    go_ret
    exact ⟨by rw [HZ.out]; rfl, b_then hb0 x3.below⟩
  go_wp2_with fail
  refine (KeptW.calls (h4 _)).mono ?_
  rintro e4 _ ⟨rfl, x4, rfl⟩
  cases p4
  · have HZ := Lib.hid (show re = 8 by rw [HE.out]; simp [fst, unl])
    go_wp2_with fail
    go_ret
    exact ⟨by rw [HZ.out]; rfl, b_then hb0 x4.below⟩
  go_wp2_with fail
  refine (KeptW.calls (h5 _)).mono ?_
  rintro e5 _ ⟨rfl, x5, rfl⟩
  cases p5
  · have HZ := Lib.hid (show re = 8 by rw [HE.out]; simp [fst, unl])
    go_wp2_with fail
    go_ret
    exact ⟨by rw [HZ.out]; rfl, b_then hb0 x5.below⟩
  have hper := hPeriod_any a b d
  generalize perErr a b d = pe at hper HE
  cases ha : (kind.toList == [65])
  · cases hd : (kind.toList == [68])
    · have HZ := Lib.hid (show re = 13 by rw [HE.out]; simp [fst, unl, ha, hd])
      go_wp2_with fail
      go_ret
      exact ⟨by rw [HZ.out]; rfl, b_then hb0 x5.below⟩
    · cases hl : (link.toList == name.toList)
      · go_wp2_with fail
        refine (KeptW.calls (hper _)).mono ?_
        rintro e6 _ ⟨rfl, x6, rfl⟩
        by_cases hpe : pe = 0
        · subst hpe
          have HR := Lib.hid (show re = fst [rng m 0 1439, rng s 0 999, rng z 1 9, rng n 0 99] by rw [HE.out]; simp [fst, unl, bne, ha, hd, hl])
          clear HE hper
          have m9 : ∀ y : KeptW x6.v, y.v.cell? ⟨w.heap.size, 9, none⟩ = _ := fun y => y.cell (k9 x6)
          have m10 : ∀ y : KeptW x6.v, y.v.cell? ⟨w.heap.size, 10, none⟩ = _ := fun y => y.cell (k10 x6)
          have m11 : ∀ y : KeptW x6.v, y.v.cell? ⟨w.heap.size, 11, none⟩ = _ := fun y => y.cell (k11 x6)
          have m12 : ∀ y : KeptW x6.v, y.v.cell? ⟨w.heap.size, 12, none⟩ = _ := fun y => y.cell (k12 x6)
          have hne6 : Nonempty (KeptW x6.v) := ⟨⟨x6.v, Below.refl _ _⟩⟩
          clear k0 k1 k2 k3 k4 k5 k6 k7 k8 k9 k10 k11 k12
          go_wp2_with fail
          refine tail_kept 12 (by kernel_rfl) (by kernel_rfl) ?_
          simp only [List.take_succ_cons, List.take_zero, List.drop_succ_cons, List.drop_zero]
          iterate 4
            iterate 2 (go_big_quiet_step (fail))
            go_big_quiet_step (exact KeptW.calls_same (hRange_any _ _ _ _))
          refine wpQuiet_nil ?_
          rintro _ ⟨y, rfl⟩
          have hby := b_then (b_then hb0 x6.below) y.below
          clear m9 m10 m11 m12
          go_wp2_with fail
          refine (hFirst_new [_, _, _, _] _ _ _ _ _ rfl rfl (by simp)).mono ?_
          rintro e7 w7 ⟨rfl, hw⟩
          have hb7 : Below w.heap.size w w7 := by rw [hw]; exact b_then hby (below_alloc _ _)
          clear hw
          go_wp2_with fail
          go_ret
          exact ⟨by rw [HR.out]; rfl, hb7⟩
        · have hb : (pe != 0) = true := by simpa using hpe
          have HZ := Lib.hid (show re = pe by rw [HE.out]; simp [fst, unl, bne, ha, hd, hl, hpe])
          clear hpe
          go_wp2_with fail
          go_ret
          exact ⟨by rw [HZ.out]; rfl, b_then hb0 x6.below⟩
      · have HZ := Lib.hid (show re = 32 by rw [HE.out]; simp [fst, unl, bne, ha, hd, hl])
        go_wp2_with fail
        go_ret
        exact ⟨by rw [HZ.out]; rfl, b_then hb0 x5.below⟩
  · cases hl : (link.toList == name.toList)
    · go_wp2_with fail
      refine (KeptW.calls (hper _)).mono ?_
      rintro e6 _ ⟨rfl, x6, rfl⟩
      by_cases hpe : pe = 0
      · subst hpe
        have HR := Lib.hid (show re = fst [rng m 0 1439, rng s 0 999, rng z 1 9, rng n 0 99] by rw [HE.out]; simp [fst, unl, bne, ha, hl])
        clear HE hper
        have m9 : ∀ y : KeptW x6.v, y.v.cell? ⟨w.heap.size, 9, none⟩ = _ := fun y => y.cell (k9 x6)
        have m10 : ∀ y : KeptW x6.v, y.v.cell? ⟨w.heap.size, 10, none⟩ = _ := fun y => y.cell (k10 x6)
        have m11 : ∀ y : KeptW x6.v, y.v.cell? ⟨w.heap.size, 11, none⟩ = _ := fun y => y.cell (k11 x6)
        have m12 : ∀ y : KeptW x6.v, y.v.cell? ⟨w.heap.size, 12, none⟩ = _ := fun y => y.cell (k12 x6)
        have hne6 : Nonempty (KeptW x6.v) := ⟨⟨x6.v, Below.refl _ _⟩⟩
        clear k0 k1 k2 k3 k4 k5 k6 k7 k8 k9 k10 k11 k12
        go_wp2_with fail
        refine tail_kept 12 (by kernel_rfl) (by kernel_rfl) ?_
        simp only [List.take_succ_cons, List.take_zero, List.drop_succ_cons, List.drop_zero]
        iterate 4
          iterate 2 (go_big_quiet_step (fail))
          go_big_quiet_step (exact KeptW.calls_same (hRange_any _ _ _ _))
        refine wpQuiet_nil ?_
        rintro _ ⟨y, rfl⟩
        have hby := b_then (b_then hb0 x6.below) y.below
        clear m9 m10 m11 m12
        go_wp2_with fail
        refine (hFirst_new [_, _, _, _] _ _ _ _ _ rfl rfl (by simp)).mono ?_
        rintro e7 w7 ⟨rfl, hw⟩
        have hb7 : Below w.heap.size w w7 := by rw [hw]; exact b_then hby (below_alloc _ _)
        clear hw
        go_wp2_with fail
        go_ret
        exact ⟨by rw [HR.out]; rfl, hb7⟩
      · have hb : (pe != 0) = true := by simpa using hpe
        have HZ := Lib.hid (show re = pe by rw [HE.out]; simp [fst, unl, bne, ha, hl, hpe])
        clear hpe
        go_wp2_with fail
        go_ret
        exact ⟨by rw [HZ.out]; rfl, b_then hb0 x6.below⟩
    · have HZ := Lib.hid (show re = 32 by rw [HE.out]; simp [fst, unl, bne, ha, hl])
      go_wp2_with fail
      go_ret
      exact ⟨by rw [HZ.out]; rfl, b_then hb0 x5.below⟩
end Go.Proofs.YtlcmcknbbmokjaaGreat
namespace Go.Proofs.YtlcmcknbbmokjaaGreat
open Go Go.RowKit
/-- A line: an action and a request. -/
structure LineV where
  act : ByteArray
  q : ReqV
def LineV.cells (l : LineV) : Array Value := #[.string l.act, .string l.q.name, .string l.q.carrier, .string l.q.kind, .string l.q.terminal, .string l.q.partner, .string l.q.link, .int .i64 l.q.from_, .int .i64 l.q.to, .int .i64 l.q.days, .int .i64 l.q.minute, .int .i64 l.q.seats, .int .i64 l.q.size, .int .i64 l.q.noise]
structure LineW (w : World) (b : Nat) (l : LineV) : Prop where
  c0 : w.cell? ⟨b, 0, none⟩ = some (.string l.act)
  c1 : w.cell? ⟨b, 1, none⟩ = some (.string l.q.name)
  c2 : w.cell? ⟨b, 2, none⟩ = some (.string l.q.carrier)
  c3 : w.cell? ⟨b, 3, none⟩ = some (.string l.q.kind)
  c4 : w.cell? ⟨b, 4, none⟩ = some (.string l.q.terminal)
  c5 : w.cell? ⟨b, 5, none⟩ = some (.string l.q.partner)
  c6 : w.cell? ⟨b, 6, none⟩ = some (.string l.q.link)
  c7 : w.cell? ⟨b, 7, none⟩ = some (.int .i64 l.q.from_)
  c8 : w.cell? ⟨b, 8, none⟩ = some (.int .i64 l.q.to)
  c9 : w.cell? ⟨b, 9, none⟩ = some (.int .i64 l.q.days)
  c10 : w.cell? ⟨b, 10, none⟩ = some (.int .i64 l.q.minute)
  c11 : w.cell? ⟨b, 11, none⟩ = some (.int .i64 l.q.seats)
  c12 : w.cell? ⟨b, 12, none⟩ = some (.int .i64 l.q.size)
  c13 : w.cell? ⟨b, 13, none⟩ = some (.int .i64 l.q.noise)
theorem line_new (w : World) (l : LineV) (T : TypeId) : ∃ W, Hid (w.alloc (.cells l.cells T) = W) ∧ Below w.heap.size w W ∧ LineW W w.heap.size l := by
  refine ⟨_, Lib.hid rfl, below_alloc w _, ?_⟩
  unfold LineV.cells
  constructor <;> simp
theorem LineW.below {w w' : World} {b : Nat} {l : LineV} (h : LineW w b l) (hb : Below w.heap.size w w') : LineW w' b l :=
  ⟨b_old hb h.c0, b_old hb h.c1, b_old hb h.c2, b_old hb h.c3, b_old hb h.c4, b_old hb h.c5, b_old hb h.c6, b_old hb h.c7, b_old hb h.c8, b_old hb h.c9, b_old hb h.c10, b_old hb h.c11, b_old hb h.c12, b_old hb h.c13⟩
def lineErr (l : LineV) : Int := fst [unl (actB l.act.data.toList) 13, reqErr l.q]
set_option maxRecDepth 100000 in
set_option maxHeartbeats 1000000 in
theorem CheckLine_any (l : LineV) (hs : l.act.size ≤ maxLen) (w : World) :
    Calls Tryz.prog 62 #[.agg l.cells] w fun r w' => r = .returned (.int .i64 (lineErr l)) ∧ Below w.heap.size w w' := by
  have HE : Hid (lineErr l = fst [unl (actB l.act.data.toList) 13, reqErr l.q]) := Lib.hid rfl
  have hact := isAction_any l.act hs
  have hreq := CheckRequest_any l.q
  generalize actB l.act.data.toList = ab at HE hact
  generalize reqErr l.q = re at HE hreq
  obtain ⟨W, HW, hb0, R⟩ := line_new w l 28
  generalize lineErr l = le at HE ⊢
  obtain ⟨act, q⟩ := l
  obtain ⟨name, carrier, kind, terminal, partner, link, a, b, d, m, s, z, n⟩ := q
  obtain ⟨r0, r1, r2, r3, r4, r5, r6, r7, r8, r9, r10, r11, r12, r13⟩ := R
  simp only [LineV.cells, ReqV.cells] at *
  have k0 : ∀ x : KeptW W, x.v.cell? ⟨w.heap.size, 0, none⟩ = _ := fun x => x.cell r0
  have k1 : ∀ x : KeptW W, x.v.cell? ⟨w.heap.size, 1, none⟩ = _ := fun x => x.cell r1
  have k2 : ∀ x : KeptW W, x.v.cell? ⟨w.heap.size, 2, none⟩ = _ := fun x => x.cell r2
  have k3 : ∀ x : KeptW W, x.v.cell? ⟨w.heap.size, 3, none⟩ = _ := fun x => x.cell r3
  have k4 : ∀ x : KeptW W, x.v.cell? ⟨w.heap.size, 4, none⟩ = _ := fun x => x.cell r4
  have k5 : ∀ x : KeptW W, x.v.cell? ⟨w.heap.size, 5, none⟩ = _ := fun x => x.cell r5
  have k6 : ∀ x : KeptW W, x.v.cell? ⟨w.heap.size, 6, none⟩ = _ := fun x => x.cell r6
  have k7 : ∀ x : KeptW W, x.v.cell? ⟨w.heap.size, 7, none⟩ = _ := fun x => x.cell r7
  have k8 : ∀ x : KeptW W, x.v.cell? ⟨w.heap.size, 8, none⟩ = _ := fun x => x.cell r8
  have k9 : ∀ x : KeptW W, x.v.cell? ⟨w.heap.size, 9, none⟩ = _ := fun x => x.cell r9
  have k10 : ∀ x : KeptW W, x.v.cell? ⟨w.heap.size, 10, none⟩ = _ := fun x => x.cell r10
  have k11 : ∀ x : KeptW W, x.v.cell? ⟨w.heap.size, 11, none⟩ = _ := fun x => x.cell r11
  have k12 : ∀ x : KeptW W, x.v.cell? ⟨w.heap.size, 12, none⟩ = _ := fun x => x.cell r12
  have k13 : ∀ x : KeptW W, x.v.cell? ⟨w.heap.size, 13, none⟩ = _ := fun x => x.cell r13
  have hne : Nonempty (KeptW W) := ⟨⟨W, Below.refl _ _⟩⟩
  clear r0 r1 r2 r3 r4 r5 r6 r7 r8 r9 r10 r11 r12 r13
  go_enter Tryz.func62, Tryz.ntmps62
  go_wp2_with fail
  rw [HW.out]
  refine tail_kept 7 (by kernel_rfl) (by kernel_rfl) ?_
  simp only [List.take_succ_cons, List.take_zero, List.drop_succ_cons, List.drop_zero]
  iterate 2 (go_big_quiet_step (fail))
  go_big_quiet_step (exact KeptW.calls (hact _))
  go_big_quiet_step (exact KeptW.calls_same (unless_any _ _ _))
  iterate 2 (go_big_quiet_step (fail))
  go_big_quiet_step (exact KeptW.calls (hreq _))
  refine wpQuiet_nil ?_
  rintro _ ⟨x, rfl⟩
  have hbx := b_then hb0 x.below
  clear k0 k1 k2 k3 k4 k5 k6 k7 k8 k9 k10 k11 k12 k13 hb0
  go_wp2_with fail
  refine (fe_new [_, _] _ _ _ _ _ rfl rfl (by simp)).mono ?_
  rintro e2 w2 ⟨rfl, hw⟩
  have hb2 : Below w.heap.size w w2 := by rw [hw]; exact b_then hbx (below_alloc _ _)
  clear hw
  go_wp2_with fail
  go_ret
  exact ⟨by rw [HE.out]; rfl, hb2⟩
set_option maxRecDepth 100000 in
set_option maxHeartbeats 1000000 in
theorem refLine_any (l : LineV) (w : World) :
    Calls Tryz.prog 69 #[.agg l.cells] w fun r w' => r = .returned (.int .i64 (lineErr l)) ∧ Below w.heap.size w w' := by
  have HE : Hid (lineErr l = fst [unl (asksB l.act.data.toList || repliesB l.act.data.toList) 13, reqErr l.q]) := Lib.hid rfl
  have ha := asks_any l.act
  have hr := replies_any l.act
  have hreq := refReq_any l.q
  generalize asksB l.act.data.toList = ab at HE ha
  generalize repliesB l.act.data.toList = rb at HE hr
  generalize reqErr l.q = re at HE hreq
  obtain ⟨W, HW, hb0, R⟩ := line_new w l 32
  generalize lineErr l = le at HE ⊢
  obtain ⟨act, q⟩ := l
  obtain ⟨name, carrier, kind, terminal, partner, link, a, b, d, m, s, z, n⟩ := q
  obtain ⟨r0, r1, r2, r3, r4, r5, r6, r7, r8, r9, r10, r11, r12, r13⟩ := R
  simp only [LineV.cells, ReqV.cells] at *
  have k0 : ∀ x : KeptW W, x.v.cell? ⟨w.heap.size, 0, none⟩ = _ := fun x => x.cell r0
  have k1 : ∀ x : KeptW W, x.v.cell? ⟨w.heap.size, 1, none⟩ = _ := fun x => x.cell r1
  have k2 : ∀ x : KeptW W, x.v.cell? ⟨w.heap.size, 2, none⟩ = _ := fun x => x.cell r2
  have k3 : ∀ x : KeptW W, x.v.cell? ⟨w.heap.size, 3, none⟩ = _ := fun x => x.cell r3
  have k4 : ∀ x : KeptW W, x.v.cell? ⟨w.heap.size, 4, none⟩ = _ := fun x => x.cell r4
  have k5 : ∀ x : KeptW W, x.v.cell? ⟨w.heap.size, 5, none⟩ = _ := fun x => x.cell r5
  have k6 : ∀ x : KeptW W, x.v.cell? ⟨w.heap.size, 6, none⟩ = _ := fun x => x.cell r6
  have k7 : ∀ x : KeptW W, x.v.cell? ⟨w.heap.size, 7, none⟩ = _ := fun x => x.cell r7
  have k8 : ∀ x : KeptW W, x.v.cell? ⟨w.heap.size, 8, none⟩ = _ := fun x => x.cell r8
  have k9 : ∀ x : KeptW W, x.v.cell? ⟨w.heap.size, 9, none⟩ = _ := fun x => x.cell r9
  have k10 : ∀ x : KeptW W, x.v.cell? ⟨w.heap.size, 10, none⟩ = _ := fun x => x.cell r10
  have k11 : ∀ x : KeptW W, x.v.cell? ⟨w.heap.size, 11, none⟩ = _ := fun x => x.cell r11
  have k12 : ∀ x : KeptW W, x.v.cell? ⟨w.heap.size, 12, none⟩ = _ := fun x => x.cell r12
  have k13 : ∀ x : KeptW W, x.v.cell? ⟨w.heap.size, 13, none⟩ = _ := fun x => x.cell r13
  clear r0 r1 r2 r3 r4 r5 r6 r7 r8 r9 r10 r11 r12 r13
  obtain ⟨x0, hx0⟩ : ∃ x : KeptW W, W = x.v := ⟨⟨W, Below.refl _ _⟩, rfl⟩
  have HX := Lib.hid (HW.out.trans hx0)
  clear hx0 HW
  go_enter Tryz.func69, Tryz.ntmps69
  go_wp2_with fail
  rw [HX.out]
  clear HX
  go_wp2_with fail
  refine (KeptW.calls (ha _)).mono ?_
  rintro e1 _ ⟨rfl, x1, rfl⟩
  cases ab
  · go_wp2_with fail
    refine (KeptW.calls (hr _)).mono ?_
    rintro e2 _ ⟨rfl, x2, rfl⟩
    cases rb
    · have HZ := Lib.hid (show le = 13 by rw [HE.out]; simp [fst, unl])
      go_wp2_with fail
      go_ret
      exact ⟨by rw [HZ.out]; rfl, b_then hb0 x2.below⟩
    · have HZ := Lib.hid (show le = re by rw [HE.out]; by_cases h : re = 0 <;> simp [fst, unl, h])
      go_wp2_with fail
      refine (KeptW.calls (hreq _)).mono ?_
      rintro e3 _ ⟨rfl, x3, rfl⟩
      go_wp2_with fail
      go_ret
      exact ⟨by rw [HZ.out]; rfl, b_then hb0 x3.below⟩
  · have HZ := Lib.hid (show le = re by rw [HE.out]; by_cases h : re = 0 <;> simp [fst, unl, h])
    go_wp2_with fail
    refine (KeptW.calls (hreq _)).mono ?_
    rintro e3 _ ⟨rfl, x3, rfl⟩
    go_wp2_with fail
    go_ret
    exact ⟨by rw [HZ.out]; rfl, b_then hb0 x3.below⟩
end Go.Proofs.YtlcmcknbbmokjaaGreat
