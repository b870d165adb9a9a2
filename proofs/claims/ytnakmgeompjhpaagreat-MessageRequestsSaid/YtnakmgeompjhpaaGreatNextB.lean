
/- The runes of a text, one by one: a byte below 128 is a rune of its own; at any other byte the rune is 128 or more. -/
import Derived.Test.YtnakmgeompjhpaaGreatHeap
import Derived.Laws.RangeString
import Derived.Laws.RangeAny
import Derived.Lib.OthersKept
namespace Go.Proofs.YtnakmgeompjhpaaGreat
open Go Go.RowKit
def byteAt (s : ByteArray) (i : Nat) : Nat := if h : i < s.size then (s[i]'h).toNat else 0
theorem byteAt_eq {s : ByteArray} {i : Nat} (h : i < s.size) : byteAt s i = (s[i]'h).toNat := dif_pos h
theorem byteAt_lt (s : ByteArray) (i : Nat) : byteAt s i < 256 := by
  unfold byteAt
  split
  · exact UInt8.toNat_lt _
  · omega
theorem next_byte {P : Program} (wr : World) (k pos : Nat) (s : ByteArray) (hit : wr.heap[k]? = some (.stringIter s pos)) (h : pos < s.size) :
    ∃ (r p2 : Nat), (∀ ty, (Instr.next (.pointer (some ⟨k, 0, none⟩)) true ty).run P wr = .ok (.tuple #[.bool true, .int .i64 pos, .int .i32 r]) (wr.iterAt k s p2)) ∧ (byteAt s pos < 128 → r = byteAt s pos ∧ p2 = pos + 1) ∧ (128 ≤ byteAt s pos → 128 ≤ r) ∧ r ≤ 2147483647 := by
  rw [byteAt_eq h]
  refine ⟨(Utf8.decode s pos).1, pos + (Utf8.decode s pos).2, fun ty => Lib.run_next_any_at wr k s pos ty hit h, fun ha => ?_, fun ha => (decode_high s pos h ha).1, decode_le s pos⟩
  rw [decode_ascii s pos h ha]
  exact ⟨rfl, rfl⟩
theorem nb_below (V : World) (k : Nat) (s : ByteArray) (pos : Nat) : Below k V (World.iterAt V k s pos) := ⟨rfl, rfl, rfl, by simp [World.iterAt], fun j hj => by
  simp only [World.iterAt]
  rw [Array.getElem?_setIfInBounds, if_neg (by omega)]⟩
end Go.Proofs.YtnakmgeompjhpaaGreat
