/- Contract of the statements: turnround/turnroundlaw02.ownResults, for every list. -/
import Derived.Test.YtlcmcknbbmokjaaGreatRmRes
namespace Go.Proofs.YtlcmcknbbmokjaaGreat
open Go Go.RowKit Ev Go.ChangeMaps Go.MapKept
theorem OwnRes_info : ∃ i0, Tryz.prog.info? 111 = some i0 ∧ i0.zero = some (.agg #[.string ⟨#[]⟩, .bool false, .int .i64 0]) ∧ i0.size = 3 ∧ i0.bytes = 32 := by
  have h : (Tryz.prog.info? 111).map (fun i => (i.zero, i.size, i.bytes)) = some (some (.agg #[.string ⟨#[]⟩, .bool false, .int .i64 0]), 3, 32) := by kernel_rfl
  cases hp : Tryz.prog.info? 111 with
  | none => rw [hp] at h; simp at h
  | some i => rw [hp] at h; simp only [Option.map_some, Option.some.injEq, Prod.mk.injEq] at h; exact ⟨i, rfl, h.1, h.2.1, h.2.2⟩
set_option maxRecDepth 100000 in
set_option maxHeartbeats 4000000 in
theorem OwnRes_some (L : List ResV) (b off cap : Nat) (w : World) (hl : RowsAt ResV.cells 3 w b off L) (hn : L.length ≤ 5000) :
    Calls Tryz.prog 52 #[.slice (some ⟨b, off, none⟩) L.length cap] w fun e w' => SlR ResV.cells 3 111 e w' w.heap.size L ∧ Below w.heap.size w w' := by
  have HL := Lib.hid hl
  clear hl
  obtain ⟨i0, hi, hz0, hz1, hz2⟩ := OwnRes_info
  go_enter Tryz.func52, Tryz.ntmps52
  go_wp2_with fail
  go_loopw [3, 5, 8] (fun v3 _ i wr => ∃ (k : Nat), k ≤ L.length ∧ i = .int .i64 k ∧ wr.ownsRow w.heap.size 111 3 v3 k (flatG ResV.cells (L.take k)) ∧ Hid (Below w.heap.size w wr)) (fun _ _ i _ => L.length - (intOf i).toNat)
  case atStart => exact ⟨0, Nat.zero_le _, rfl, World.ownsRow_nil _ _ _ _, Lib.hid (Below.refl _ _)⟩
  case round =>
    obtain ⟨k, hk, rfl, hown, HB⟩ := hrel
    by_cases hlt : k < L.length
    · have hrow := (HL.out.below HB.out).c k hlt
      have HT : Hid (flatG ResV.cells (L.take (k + 1)) = flatG ResV.cells (L.take k) ++ (L.getD k default).cells.toList) := Lib.hid (flatG_take L k hlt)
      generalize L.getD k default = l at hrow HT
      obtain ⟨zname, zgranted, zminute⟩ := l
      simp only [ResV.cells] at HT hrow
      have x0 := hrow 0 _ rfl
      have x1 := hrow 1 _ rfl
      have x2 := hrow 2 _ rfl
      clear hrow
      simp only [Nat.add_zero] at x0
      have hlen := flatG_len (f := ResV.cells) (k := 3) (fun _ => rfl) (L.take k)
      rw [List.length_take, Nat.min_eq_left hk] at hlen
      generalize flatG ResV.cells (L.take k) = fl at *
      have hsz := HB.out.size
      have hownA := hown.alloc (.cells #[.string zname, .bool zgranted, .int .i64 zminute] 120)
      have hownB := hownA.alloc (.cells #[.string zname, .bool zgranted, .int .i64 zminute] 111)
      have hbA : Below w.heap.size w (wr.alloc (.cells #[.string zname, .bool zgranted, .int .i64 zminute] 120)) := b_then HB.out (below_alloc _ _)
      have hsA := hbA.size
      have HNB : Hid (((wr.alloc (.cells #[.string zname, .bool zgranted, .int .i64 zminute] 120)).alloc (.cells #[.string zname, .bool zgranted, .int .i64 zminute] 111)).heap[wr.heap.size + 1]? = some (.cells #[.string zname, .bool zgranted, .int .i64 zminute] 111 (0, 0))) := Lib.hid (by
        have h1 := heap_new (wr.alloc (.cells #[.string zname, .bool zgranted, .int .i64 zminute] 120)) (.cells #[.string zname, .bool zgranted, .int .i64 zminute] 111)
        rwa [show (wr.alloc (.cells #[.string zname, .bool zgranted, .int .i64 zminute] 120)).heap.size = wr.heap.size + 1 by simp] at h1)
      go_wp2_with (at_builtin; refine Hid.out ?_)
      refine Lib.hid ?_
      refine wpList_append_own _ rfl _ _ 81 rfl w.heap.size 111 i0 (.agg #[.string ⟨#[]⟩, .bool false, .int .i64 0]) 3 32 Tryz.underlying81 hi hz0 hz1 hz2 rfl (by decide) _ k _ rfl hownB ⟨wr.heap.size + 1, 0, none⟩ 1 1 [.string zname, .bool zgranted, .int .i64 zminute] rfl rfl
        (World.news_of_block (cs := #[.string zname, .bool zgranted, .int .i64 zminute]) (t := 111) (fr := (0, 0)) HNB.out) (by simp [Value.oneCell']) (by unfold maxLen; omega) (by omega) (by simp; omega) ?_
      intro v' w4 hown' hgrow _
      have hb4 : Below w.heap.size w w4 := (hbA.trans ((Below.refl _ _).alloc hsA _)).grown hgrow (by simp; omega) (pr_blk hownB)
      clear hgrow hown hownA hownB hbA hsA x0 x1 x2
      rw [show fl ++ [.string zname, .bool zgranted, .int .i64 zminute] = flatG ResV.cells (L.take (k + 1)) from HT.out.symm] at hown'
      go_wp2_with fail
      refine ⟨⟨k + 1, by omega, by go_num, by simpa using hown', Lib.hid hb4⟩, by simp [intOf]; omega⟩
    · obtain rfl : k = L.length := by omega
      rw [List.take_length] at hown
      go_wp2_with fail
      go_ret
      exact ⟨⟨_, rfl, hown⟩, HB.out⟩
set_option maxRecDepth 100000 in
theorem OwnRes_zero (A : Option Addr) (c : Nat) (w : World) :
    Calls Tryz.prog 52 #[.slice A 0 c] w fun e w' => SlR ResV.cells 3 111 e w' w.heap.size [] ∧ Below w.heap.size w w' := by
  go_enter Tryz.func52, Tryz.ntmps52
  go_wp2_with fail
  go_loopw [3, 5, 8] (fun v3 _ i wr => v3 = .slice none 0 0 ∧ i = .int .i64 0 ∧ wr = w) (fun _ _ _ _ => 0)
  case atStart => exact ⟨rfl, rfl, rfl⟩
  case round =>
    obtain ⟨rfl, rfl, rfl⟩ := hrel
    go_wp2_with fail
    go_ret
    exact ⟨⟨_, rfl, World.ownsRow_nil _ _ _ _⟩, Below.refl _ _⟩
theorem OwnRes_any (L : List ResV) (v : Value) (w w' : World) (hv : SlArg ResV.cells 3 w v L) (hb : Below w.heap.size w w') (hn : L.length ≤ 5000) :
    Calls Tryz.prog 52 #[v] w' fun e w'' => SlR ResV.cells 3 111 e w'' w'.heap.size L ∧ Below w'.heap.size w' w'' := by
  rcases hv with ⟨rfl, A, c, rfl⟩ | ⟨h0, b, off, cap, rfl, hl, hc, hs⟩
  · exact OwnRes_zero A c w'
  · exact OwnRes_some L b off cap w' (hl.below hb) hn
end Go.Proofs.YtlcmcknbbmokjaaGreat
