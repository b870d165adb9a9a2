/- Rows of structs, of any type whose values are a fixed number of cells. -/
import Derived.Test.YtlcmcknbbmokjaaGreatPm24
import Derived.Test.YtlcmcknbbmokjaaGreatRmCopied
namespace Go.Proofs.YtlcmcknbbmokjaaGreat
open Go Go.RowKit Go.ChangeMaps Go.MapKept
section
variable {α : Type} {f : α → Array Value} {k : Nat}
def flatG (f : α → Array Value) (l : List α) : List Value := (l.map fun x => (f x).toList).flatten
theorem flatG_snoc (l : List α) (x : α) : flatG f (l ++ [x]) = flatG f l ++ (f x).toList := by simp [flatG]
theorem flatG_len (hk : ∀ x, (f x).size = k) (l : List α) : (flatG f l).length = l.length * k := by
  induction l with
  | nil => simp [flatG]
  | cons x r ih =>
    have e : flatG f (x :: r) = (f x).toList ++ flatG f r := by simp [flatG]
    rw [e, List.length_append, ih, Array.length_toList, hk x, List.length_cons, Nat.add_mul, Nat.one_mul, Nat.add_comm]
/-- A call that has returned a slice of these structs, of its own. -/
structure SlR (f : α → Array Value) (k : Nat) (T : TypeId) (e : Ending) (w' : World) (N : Nat) (l : List α) : Prop where
  ex : ∃ v, e = .returned v ∧ w'.ownsRow N T k v l.length (flatG f l)
end
section
variable {α : Type} [Inhabited α] {f : α → Array Value} {k : Nat}
/-- The cells of a slice of structs. -/
structure RowsAt (f : α → Array Value) (k : Nat) (w : World) (b off : Nat) (l : List α) : Prop where
  c : ∀ i, i < l.length → ∀ t v, (f (l.getD i default))[t]? = some v → w.cell? ⟨b, off + i * k + t, none⟩ = some v
theorem RowsAt.below {w w' : World} {b off : Nat} {l : List α} (h : RowsAt f k w b off l) (hb : Below w.heap.size w w') : RowsAt f k w' b off l := ⟨fun i hi t v hv => b_old hb (h.c i hi t v hv)⟩
theorem RowsAt.grown {w w' : World} {b off : Nat} {l : List α} {r : Nat} (h : RowsAt f k w b off l) (hg : w.grownBy w' (some r)) (hne : b ≠ r) : RowsAt f k w' b off l := ⟨fun i hi t v hv => gb_cell hg (h.c i hi t v hv) hne⟩
theorem flatG_at (hk : ∀ x, (f x).size = k) (l : List α) : ∀ (i t : Nat), i < l.length → t < k → (flatG f l)[i * k + t]? = (f (l.getD i default))[t]? := by
  induction l with
  | nil => intro i t h; simp at h
  | cons x r ih =>
    intro i t h ht
    have e : flatG f (x :: r) = (f x).toList ++ flatG f r := by simp [flatG]
    have hs : (f x).toList.length = k := by rw [Array.length_toList, hk x]
    cases i with
    | zero => rw [e, List.getElem?_append_left (by omega)]; simp
    | succ j =>
      have e2 : (j + 1) * k + t = k + (j * k + t) := by rw [Nat.add_mul, Nat.one_mul]; omega
      rw [e, e2, List.getElem?_append_right (by omega), hs, Nat.add_sub_cancel_left, ih j t (by simpa using h) ht]
      simp
theorem flatG_take (l : List α) (i : Nat) (h : i < l.length) : flatG f (l.take (i + 1)) = flatG f (l.take i) ++ (f (l.getD i default)).toList := by
  rw [← flatG_snoc]
  congr 1
  rw [List.take_succ_eq_append_getElem h]; simp [List.getD_eq_getElem?_getD, List.getElem?_eq_getElem h]
theorem rowsG_own (hk : ∀ x, (f x).size = k) {T : TypeId} {w : World} {base g c : Nat} {l : List α} (h : w.ownsRow base T k (.slice (some ⟨g, 0, none⟩) l.length c) l.length (flatG f l)) : RowsAt f k w g 0 l :=
  ⟨fun i hi t v hv => by
    have ht : t < k := by
      have := (Array.getElem?_eq_some_iff.1 hv).1
      rwa [hk] at this
    have hlt : i * k + t < l.length * k := by
      have : (i + 1) * k ≤ l.length * k := Nat.mul_le_mul_right k hi
      rw [Nat.add_mul, Nat.one_mul] at this
      omega
    have e : w.cell? ⟨g, i * k + t, none⟩ = (flatG f l)[i * k + t]? := h.cellAt _ hlt
    rw [flatG_at hk l i t hi ht, hv] at e
    rw [Nat.zero_add]
    exact e⟩
theorem rowsG_cells (hk : ∀ x, (f x).size = k) (hp : 0 < k) {w : World} {b off : Nat} {l : List α} (h : RowsAt f k w b off l) : ∀ j u, (flatG f l)[j]? = some u → w.cell? ((⟨b, off, none⟩ : Addr).add j) = some u := fun j u hu => by
  have hj : j < l.length * k := by
    have := (List.getElem?_eq_some_iff.1 hu).1
    rwa [flatG_len hk] at this
  have hi : j / k < l.length := Nat.div_lt_of_lt_mul (by rwa [Nat.mul_comm])
  have hd := Nat.div_add_mod' j k
  have e := flatG_at hk l (j / k) (j % k) hi (Nat.mod_lt _ hp)
  rw [hd, hu] at e
  have := h.c (j / k) hi (j % k) u e.symm
  rw [Go.WideShapes.add_plain]
  rw [Nat.add_assoc, hd] at this
  exact this
/-- A value that is a slice of these structs. -/
def SlArg (f : α → Array Value) (k : Nat) (w : World) (v : Value) (l : List α) : Prop :=
  (l = [] ∧ ∃ A c, v = .slice A 0 c) ∨ (0 < l.length ∧ ∃ b off cap, v = .slice (some ⟨b, off, none⟩) l.length cap ∧ RowsAt f k w b off l ∧ l.length ≤ cap ∧ b < w.heap.size)
theorem SlArg.len {w : World} {v : Value} {l : List α} (h : SlArg f k w v l) : ∃ A c, v = .slice A l.length c := by
  rcases h with ⟨rfl, A, c, rfl⟩ | ⟨_, b, off, cap, rfl, _⟩
  · exact ⟨A, c, rfl⟩
  · exact ⟨_, _, rfl⟩
theorem SlArg.below {w w' : World} {v : Value} {l : List α} (h : SlArg f k w v l) (hb : Below w.heap.size w w') : SlArg f k w' v l := by
  rcases h with h | ⟨h0, b, off, cap, hv, hl, hc, hg⟩
  · exact .inl h
  · exact .inr ⟨h0, b, off, cap, hv, hl.below hb, hc, Nat.lt_of_lt_of_le hg hb.size⟩
theorem slArg_own (hk : ∀ x, (f x).size = k) (hp : 0 < k) {T : TypeId} {w : World} {base : Nat} {v : Value} {l : List α} (h : w.ownsRow base T k v l.length (flatG f l)) : SlArg f k w v l := by
  rcases Nat.eq_zero_or_pos l.length with h0 | h0
  · have e : l = [] := List.length_eq_zero_iff.1 h0
    rw [h0] at h
    obtain ⟨A, c, rfl⟩ := pr_zero h
    exact .inl ⟨e, A, c, rfl⟩
  · have h' := h
    rw [show l.length = (l.length - 1) + 1 by omega] at h'
    obtain ⟨g, cp, hv⟩ := ownsRow_succ h'
    rw [Nat.sub_add_cancel h0] at hv
    subst hv
    have hR := rowsG_own hk h
    have hne : ∃ u, (f (l.getD 0 default))[0]? = some u := ⟨_, Array.getElem?_eq_getElem (by rw [hk]; exact hp)⟩
    obtain ⟨u, hu⟩ := hne
    exact .inr ⟨h0, g, 0, cp, rfl, hR, own_cap h, cell_in (hR.c 0 h0 0 u hu)⟩
end
/-- Struct equality, field by field. -/
theorem eqF_nil {P : Program} (d : Nat) (xs ys : Array Value) (w : World) : (Op.eqFields d xs ys []).run P w = .ok true w := by simp [Op.eqFields]
theorem eqF_cons {P : Program} {d : Nat} {xs ys : Array Value} {f : Field} {fs : List Field} {w : World} {a b : Value} {r s : Bool} (hn : f.name ≠ "_") (ha : (part f.type xs f.offset).run P w = .ok a w) (hb : (part f.type ys f.offset).run P w = .ok b w)
    (hr : (Op.equalIn d f.type a b).run P w = .ok r w) (hs : (Op.eqFields d xs ys fs).run P w = .ok s w) : (Op.eqFields d xs ys (f :: fs)).run P w = .ok (r && s) w := by
  simp only [Op.eqFields, if_pos hn, Sem.run_bind, ha, hb, hr, Result.andThen_ok, Sem.run_ite]
  cases r
  · simp
  · simpa using hs
end Go.Proofs.YtlcmcknbbmokjaaGreat
