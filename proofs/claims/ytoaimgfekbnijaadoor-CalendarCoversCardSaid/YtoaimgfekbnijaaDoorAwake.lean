/- The statements' first test: the program returns the results of the examples of chapter 1. -/
import Derived.Test.YtoaimgfekbnijaaDoorAwRun
import Derived.Test.YtoaimgfekbnijaaDoorPrint2
namespace Go.Proofs.YtoaimgfekbnijaaDoor
open Go Go.RowKit Ev
theorem reads_below {l : Lst} {w w' : World} (h : Reads l w) (hb : Below w.heap.size w w') : Reads l w' := fun x hx => by
  obtain ⟨t, fr, e⟩ := h x hx
  exact ⟨t, fr, by rw [hb.block _ (Array.getElem?_eq_some_iff.1 e).1]; exact e⟩
theorem reads_cell {l : Lst} {w : World} (h : Reads l w) {g : Nat} {T : TypeId} {cs : Array Value} (hm : (g, T, cs) ∈ l) (i : Nat) (v : Value) (hv : cs[i]? = some v) : w.cell? ⟨g, i, none⟩ = some v := by
  obtain ⟨t, fr, e⟩ := h _ hm
  rw [cell_rd, e]
  exact hv
theorem reads_tab {w : World} (h : Reads lst w) : HeldTab w := fun i hi => by
  refine reads_cell h (g := 2) (.tail _ (.tail _ (.head _))) i _ ?_
  match i, hi with
  | 0, _ | 1, _ | 2, _ | 3, _ | 4, _ | 5, _ | 6, _ | 7, _ | 8, _ | 9, _ | 10, _ | 11, _ => rfl
theorem gPow : Tryd.prog.globalNamed "internal/strconv.uint64pow10" = some 3 := by kernel_rfl
theorem reads_pow {w : World} (h : Reads lst w) : HeldPow w := by
  obtain ⟨t, fr, e⟩ := h _ (.tail _ (.tail _ (.tail _ (.head _))))
  show World.var? _ _ _ = _
  unfold World.var?
  rw [gPow]
  simp only [Option.bind_some]
  rw [e]
  rfl
theorem date_59 : IsDate 59 2000 2 29 := by constructor <;> decide
theorem text_59 : dateT 2000 2 29 = ⟨#[50, 48, 48, 48, 45, 48, 50, 45, 50, 57]⟩ := by rfl
theorem known_print : ∀ x ∈ tblPrint, Known Tryd.prog lst x := known_cons ⟨fun w hw => by
  have h := PrintDate_ok 59 2000 29 2 w (reads_tab hw) (reads_pow hw) (by decide) (by decide) date_59
  rw [text_59] at h
  exact h⟩ (known_nil _ _)
theorem known_all {P : Program} {G : Nat} {o : Orc} {n : Nat} {l : Lst} {t : Tbl} (ho : OrcOk P G o) (hl : goodL G l = true) (h : (t.all fun x => runs P G o n l x) = true) : ∀ x ∈ t, Known P l x := fun x hx =>
  known ho hl (List.all_eq_true.1 h x hx)
theorem no_orc : OrcOk Tryd.prog gN noOrc := orc_none _ _
theorem known_tbl : ∀ x ∈ tblAll, Known Tryd.prog lst x := by
  intro x hx
  simp only [tblAll, List.mem_append] at hx
  rcases hx with ((((hx | hx) | hx) | hx) | hx) | hx
  · exact known_print x hx
  · exact known_all no_orc good_lst run_one x hx
  · exact known_all no_orc good_lst run_two x hx
  · exact known_all no_orc good_lst run_three x hx
  · exact known_all no_orc good_lst run_four x hx
  · exact known_all no_orc good_lst run_has x hx
theorem awake_true (w : World) (h : Reads lst w) : Calls Tryd.prog 13 #[] w fun e w' => e = .returned (.bool true) ∧ Below w.heap.size w w' :=
  (known (memo_ok good_lst known_tbl no_orc) good_lst run_awake).calls w h
end Go.Proofs.YtoaimgfekbnijaaDoor
