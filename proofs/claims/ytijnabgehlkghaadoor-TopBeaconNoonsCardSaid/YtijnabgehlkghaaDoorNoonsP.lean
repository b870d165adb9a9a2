/- For every offset, year and place, TopBeaconNoons returns true and leaves its arguments as they were: local noon comes once each day, and the seasons are told by the clock. Conditions: the row's own (the three package-level variables of package calendar that it lists hold what the program's text lays; the card ties them to the text). -/
import Derived.Test.YtijnabgehlkghaaDoorCards
import Derived.Test.YtijnabgehlkghaaDoorTie
import Derived.Test.YtijnabgehlkghaaDoorNoons
import Derived.Test.YtijnabgehlkghaaDoorLaid
import Derived.WalkKit
import Derived.ProofKit
import Derived.OpenShut
import Derived.Deep.DeepHandedRow
import Derived.Lib.LaidTab
namespace Go.Proofs.YtijnabgehlkghaaDoor.topBeaconNoons
open Go.ChangeShapes Go.WideShapes Go.ChangeAt Go.RowKit
theorem own : ownKnob Tryd.prog.godebug = none := by kernel_rfl
theorem tab_of {W : World} (h : laidMetH Tryd.prog Rows.topBeaconNoonsRow.laid W) : HeldTab W ∧ HeldSea W := by
  have h1 : laidMet Tryd.prog Rows.topBeaconNoonsRow.laid W := h
  have t := Lib.tabIs_of_head (zs := Cal.tab) gTab gTabT Tryd.underlying130 Tryd.underlying3 cellsInt cells12 h1
  have h2 := laidMet.tail h1
  have a := sea_cells gFirst gFirstT h2
  have b := sea_cells gLast gLastT (laidMet.tail h2)
  exact ⟨fun i hi => t.cell gTab i hi, ⟨a.1, a.2, b.1, b.2⟩⟩
set_option maxRecDepth 100000 in
theorem contract (H : Type) (enc : TypeId × Value → H) (W : World) (base : Nat) (args : Array Value) (ds gs : List (DataW H)) (before : List MemPlace)
    (hval : ∀ (j : Nat) t v, Tryd.f12.params[j]? = some t → args[j]? = some v → Value.okWide Tryd.prog W .any base t v)
    (hW : DataW.Whole enc Tryd.prog Tryd.f12.params.toList Rows.topBeaconNoonsSpec.vars false W args.toList ds gs before) (hL : laidMetH Tryd.prog Rows.topBeaconNoonsRow.laid W) :
    Calls Tryd.prog 12 args W fun e W' => ∃ v, e = .returned v ∧ Rows.topBeaconNoonsSpec.post enc Tryd.prog Tryd.f12 false true false false W args v W' := by
  have hW' := hW
  obtain ⟨p, q, hA0, hV, rfl, hfz, hnd⟩ := hW
  have hA : DataW.TrodAll enc Tryd.prog W 0 (fun _ => true) true Tryd.f12.params.toList args.toList ds p := hA0
  rw [Tryd.params12] at hA hval
  obtain ⟨v0, vs0, d0, ds0, p0, q0, hargs, rfl, rfl, h0, r0⟩ := trodAll_cons hA
  obtain ⟨v1, vs1, d1, ds1, p1, q1, rfl, rfl, rfl, h1, r1⟩ := trodAll_cons r0
  obtain ⟨v2, vs2, d2, ds2, p2, q2, rfl, rfl, rfl, h2, r2⟩ := trodAll_cons r1
  obtain ⟨rfl, rfl, rfl⟩ := trodAll_nil r2
  obtain rfl : args = #[v0, v1, v2] := by cases args; simp_all
  obtain ⟨rfl, rfl⟩ := trodVars_none hV
  obtain ⟨a0, rfl, rfl, rfl, w0⟩ := open_int Tryd.underlying3 (hval 0 3 v0 rfl rfl) h0
  obtain ⟨a1, rfl, rfl, rfl, w1⟩ := open_int Tryd.underlying90 (hval 1 90 v1 rfl rfl) h1
  obtain ⟨a2, rfl, rfl, rfl, w2⟩ := open_int Tryd.underlying90 (hval 2 90 v2 rfl rfl) h2
  clear hA0
  simp only [List.append_nil] at hW'
  have b1 : 0 ≤ a1 ∧ a1 ≤ 65535 := u16_bd w1
  have b2 : 0 ≤ a2 ∧ a2 ≤ 65535 := u16_bd w2
  obtain ⟨ht, hs⟩ := tab_of hL
  refine (Noons_true a0 a1 a2 W ht hs b1.1 b1.2 b2.1 b2.2).mono ?_
  intro e W' h
  have h' : e = .returned (.bool true) ∧ Below W.heap.size W W' := h
  obtain ⟨he, hg⟩ := h'
  subst he
  exact ⟨_, rfl, post_of_below (pa := []) (pv := []) hW' (fun _ _ _ => (trodAll_cons_mk (shut_bool Tryd.underlying4 _) trodAll_mk0)) (fun _ _ => (trodAll_cons_mk (shut_int Tryd.underlying3 w0) (trodAll_cons_mk (shut_int Tryd.underlying90 w1) (trodAll_cons_mk (shut_int Tryd.underlying90 w2) trodAll_mk0)))) (fun _ _ => rfl) rfl
    hg (ok_one (by kernel_rfl) rfl (okWide_bool_mk Tryd.underlying4 _))⟩
/-- The settled world, with what the three variables are laid with. -/
noncomputable def laidWorld (os : Os) : World :=
  let W := World.holding Tryd.prog os ⟨#[], #[], []⟩
  { W with heap := ((W.heap.modify 0 fun
      | .cells _ t z => .cells #[.int .i64 2000, .string ⟨#[83]⟩] t z
      | o => o).modify 1 fun
      | .cells _ t z => .cells #[.int .i64 2272, .string ⟨#[87]⟩] t z
      | o => o).modify 2 fun
      | .cells _ t z => .cells #[.int .i64 31, .int .i64 28, .int .i64 31, .int .i64 30, .int .i64 31, .int .i64 30, .int .i64 31, .int .i64 31, .int .i64 30, .int .i64 31, .int .i64 30, .int .i64 31] t z
      | o => o }
theorem laid_met (os : Os) : laidMet Tryd.prog Rows.topBeaconNoonsRow.laid ((laidWorld os).forCall (fun _ _ => 0) ⟨#[], #[.int .i64 0, .int .u16 0, .int .u16 0], []⟩).memory :=
  laidMet_of_run' 8 (by kernel_rfl) (by kernel_rfl)
theorem reads (os : Os) {H : Type} (enc : TypeId × Value → H) : ∃ places, DataW.whole enc Tryd.prog ((laidWorld os).forCall (fun _ _ => 0) ⟨#[], #[.int .i64 0, .int .u16 0, .int .u16 0], []⟩).memory Tryd.f12.params.toList Rows.topBeaconNoonsSpec.vars false #[Value.int .i64 0, .int .u16 0, .int .u16 0].toList 8 = some ([.lit (.int .i64 0), .lit (.int .u16 0), .lit (.int .u16 0)], [], places) :=
  ⟨[], by kernel_rfl⟩
set_option maxRecDepth 100000 in
theorem lifted (os : Os) (started : os.Started) (H : Type) (enc : TypeId × Value → H) (F : Stop.Interp) :
    ReturnsInHanded {} Tryd.checked os 12 .any ((OpenSpec.ofChange Rows.topBeaconNoonsSpec).preRow enc Tryd.prog Tryd.f12 Rows.topBeaconNoonsRow.domain false Rows.topBeaconNoonsRow.laid) (((OpenSpec.ofChange Rows.topBeaconNoonsSpec).at F).post enc Tryd.prog Tryd.f12 false true false false) := by
  obtain ⟨places, hx⟩ := reads os enc
  refine returnsInHanded_of_row (C := Tryd.checked) (s := OpenSpec.ofChange Rows.topBeaconNoonsSpec) own started (by kernel_rfl) Tryd.func12
    (witness_row_at (enc := enc) (C := Tryd.checked) false (laidWorld os) #[.int .i64 0, .int .u16 0, .int .u16 0] rfl (by kernel_rfl) (by kernel_rfl) (by kernel_rfl)
      (OpenSpec.preRow_of_cond 8 hx (by kernel_rfl) (fun k hk => by cases hk) (by kernel_rfl) (laid_met os))) ?_
  intro W base args ds gs before hval hW _ _ _ hL _ _
  exact contract H enc W base args ds gs before hval hW hL
theorem said : Rows.TopBeaconNoonsSaid :=
  OpenClaim.holds_of_cond 12 Tryd.f12 rfl rfl rfl rfl rfl rfl rfl ⟨rfl, rfl, rfl, rfl, rfl⟩ rfl rfl rfl rfl rfl (by kernel_rfl) Tryd.func12 (by kernel_rfl)
    (of_decide_eq_true (by kernel_rfl)) (by unfold Func.isWrapper; first | (rw [if_pos (by decide +kernel)]; kernel_rfl) | (rw [if_neg (by decide +kernel)]; exact ⟨rfl, rfl⟩))
    (fun os started H enc _ F => by rw [OpenClaim.pre_eq_preRow]; exact lifted os started H enc F)
theorem plain (f : FuncId) (fn : Func) (hf : Tryd.pinned.checked.prog.funcNamed "turnround/turnroundtop.TopBeaconNoons" = some f) (hfn : Tryd.pinned.checked.prog.funcs[f]? = some fn) :
    false = Tryd.pinned.checked.prog.looks [] ∧ ∀ (j : Nat) t, fn.params[j]? = some t → Tryd.pinned.checked.prog.wantsStandIn t = false := by
  obtain rfl : f = 12 := Option.some.inj ((show Tryd.prog.funcNamed "turnround/turnroundtop.TopBeaconNoons" = some 12 by kernel_rfl).symm.trans hf) |>.symm
  obtain rfl : fn = Tryd.f12 := (Option.some.inj (Tryd.func12.symm.trans hfn)).symm
  refine ⟨by kernel_rfl, fun j t ht => ?_⟩
  rw [Tryd.params12] at ht
  have h3 : Tryd.prog.wantsStandIn 3 = false := by kernel_rfl
  have h16 : Tryd.prog.wantsStandIn 90 = false := by kernel_rfl
  have hm : t = 3 ∨ t = 90 := by
    have := Array.mem_of_getElem? ht
    simp at this; omega
  rcases hm with rfl | rfl
  · exact h3
  · exact h16
/-- The statement of the card. -/
theorem card : Rows.TopBeaconNoonsCardSaid :=
  Claim7.holds_tied_plain_at .later [] _ _ _ _ said (fun _ h => by cases h) (by kernel_rfl) (fun _ h => by cases h) topBeaconNoons_row_tie rfl ⟨rfl, rfl⟩ (by kernel_rfl) rfl plain (by kernel_rfl)
end Go.Proofs.YtijnabgehlkghaaDoor.topBeaconNoons
