/- Structs are compared: requests, lines, results, entries. -/
import Derived.Test.YtlcmcknbbmokjaaGreatRmRowsG
import Derived.Test.YtlcmcknbbmokjaaGreatRmRes
import Derived.Test.YtlcmcknbbmokjaaGreatRmEnt
import Derived.Laws.StructEq
namespace Go.Proofs.YtlcmcknbbmokjaaGreat
open Go Go.RowKit
def reqEqB (q p : ReqV) : Bool := ((q.name.toList == p.name.toList) && ((q.carrier.toList == p.carrier.toList) && ((q.kind.toList == p.kind.toList) && ((q.terminal.toList == p.terminal.toList) && ((q.partner.toList == p.partner.toList) && ((q.link.toList == p.link.toList) && (((q.from_ == p.from_ && (q.to == p.to && (q.days == p.days && true)))) && ((q.minute == p.minute) && ((q.seats == p.seats) && ((q.size == p.size) && ((q.noise == p.noise) && true)))))))))))
theorem reqEqB_iff (q p : ReqV) : reqEqB q p = true ↔ q = p := by
  obtain ⟨a0, a1, a2, a3, a4, a5, a6, a7, a8, a9, a10, a11, a12⟩ := q
  obtain ⟨b0, b1, b2, b3, b4, b5, b6, b7, b8, b9, b10, b11, b12⟩ := p
  simp only [reqEqB, Bool.and_eq_true, beq_iff_eq, ReqV.mk.injEq, and_true]
  constructor
  · rintro ⟨h0, h1, h2, h3, h4, h5, ⟨h6, h7, h8⟩, h9, h10, h11, h12⟩
    exact ⟨toList_inj' h0, toList_inj' h1, toList_inj' h2, toList_inj' h3, toList_inj' h4, toList_inj' h5, h6, h7, h8, h9, h10, h11, h12⟩
  · rintro ⟨rfl, rfl, rfl, rfl, rfl, rfl, rfl, rfl, rfl, rfl, rfl, rfl, rfl⟩
    simp
theorem eqI (d : Nat) (a b : Int) (w : World) : (Op.equalIn (d + 1) 3 (.int .i64 a) (.int .i64 b)).run Tryz.prog w = .ok (a == b) w := run_equalIn_int w d 3 .i64 .i64 a b Tryz.underlying3
theorem eqBo (d : Nat) (a b : Bool) (w : World) : (Op.equalIn (d + 1) 4 (.bool a) (.bool b)).run Tryz.prog w = .ok (a == b) w := run_equalIn_bool w d 4 a b Tryz.underlying4
theorem eqS (d : Nat) (a b : ByteArray) (w : World) : (Op.equalIn (d + 1) 9 (.string a) (.string b)).run Tryz.prog w = .ok (a.toList == b.toList) w := run_equalIn_string w d 9 a b Tryz.underlying9
theorem isAgg3 (w : World) : (isAgg 3).run Tryz.prog w = .ok false w := by kernel_rfl
theorem isAgg4 (w : World) : (isAgg 4).run Tryz.prog w = .ok false w := by kernel_rfl
theorem isAggS (w : World) : (isAgg 9).run Tryz.prog w = .ok false w := by kernel_rfl
theorem isAggP (w : World) : (isAgg 24).run Tryz.prog w = .ok true w := by kernel_rfl
theorem isAggR (w : World) : (isAgg 26).run Tryz.prog w = .ok true w := by kernel_rfl
theorem szP (w : World) : (sizeOf 24).run Tryz.prog w = .ok 3 w := Tryz.sizeOf24 w
theorem szR (w : World) : (sizeOf 26).run Tryz.prog w = .ok 13 w := Tryz.sizeOf26 w
theorem part_one {P : Program} {t : TypeId} {cs : Array Value} {o : Nat} {v : Value} {w : World} (h : (isAgg t).run P w = .ok false w) (hv : cs[o]? = some v) : (part t cs o).run P w = .ok v w := by
  simp [part, Sem.run_bind, h, hv, Result.andThen_ok]
theorem part_agg {P : Program} {t : TypeId} {cs : Array Value} {o n : Nat} {w : World} (h : (isAgg t).run P w = .ok true w) (hs : (sizeOf t).run P w = .ok n w) : (part t cs o).run P w = .ok (.agg (cs.extract o (o + n))) w := by
  simp [part, Sem.run_bind, h, hs, Result.andThen_ok]
theorem eqIn_per' (d : Nat) (a b c a' b' c' : Int) (w : World) :
    (Op.equalIn (d + 1 + 1) 24 (.agg #[.int .i64 a, .int .i64 b, .int .i64 c]) (.agg #[.int .i64 a', .int .i64 b', .int .i64 c'])).run Tryz.prog w = .ok (a == a' && (b == b' && (c == c' && true))) w := by
  rw [run_equalIn_struct w (d + 1) 24 _ _ (by kernel_rfl) (by kernel_rfl)]
  simp only [Program.fieldsOf, Tryz.underlying24]
  refine eqF_cons (by decide) (part_one (isAgg3 w) rfl) (part_one (isAgg3 w) rfl) (eqI d a a' w) ?_
  refine eqF_cons (by decide) (part_one (isAgg3 w) rfl) (part_one (isAgg3 w) rfl) (eqI d b b' w) ?_
  refine eqF_cons (by decide) (part_one (isAgg3 w) rfl) (part_one (isAgg3 w) rfl) (eqI d c c' w) ?_
  exact eqF_nil _ _ _ _
theorem eqIn_req (d : Nat) (q p : ReqV) (w : World) :
    (Op.equalIn (d + 1 + 1 + 1) 26 (.agg q.cells) (.agg p.cells)).run Tryz.prog w = .ok (reqEqB q p) w := by
  rw [run_equalIn_struct w (d + 1 + 1) 26 _ _ (by kernel_rfl) (by kernel_rfl)]
  simp only [Program.fieldsOf, Tryz.underlying26]
  refine eqF_cons (by decide) (part_one (isAggS w) rfl) (part_one (isAggS w) rfl) (eqS (d + 1) q.name p.name w) ?_
  refine eqF_cons (by decide) (part_one (isAggS w) rfl) (part_one (isAggS w) rfl) (eqS (d + 1) q.carrier p.carrier w) ?_
  refine eqF_cons (by decide) (part_one (isAggS w) rfl) (part_one (isAggS w) rfl) (eqS (d + 1) q.kind p.kind w) ?_
  refine eqF_cons (by decide) (part_one (isAggS w) rfl) (part_one (isAggS w) rfl) (eqS (d + 1) q.terminal p.terminal w) ?_
  refine eqF_cons (by decide) (part_one (isAggS w) rfl) (part_one (isAggS w) rfl) (eqS (d + 1) q.partner p.partner w) ?_
  refine eqF_cons (by decide) (part_one (isAggS w) rfl) (part_one (isAggS w) rfl) (eqS (d + 1) q.link p.link w) ?_
  refine eqF_cons (by decide) (part_agg (isAggP w) (szP w)) (part_agg (isAggP w) (szP w)) (eqIn_per' d q.from_ q.to q.days p.from_ p.to p.days w) ?_
  refine eqF_cons (by decide) (part_one (isAgg3 w) rfl) (part_one (isAgg3 w) rfl) (eqI (d + 1) q.minute p.minute w) ?_
  refine eqF_cons (by decide) (part_one (isAgg3 w) rfl) (part_one (isAgg3 w) rfl) (eqI (d + 1) q.seats p.seats w) ?_
  refine eqF_cons (by decide) (part_one (isAgg3 w) rfl) (part_one (isAgg3 w) rfl) (eqI (d + 1) q.size p.size w) ?_
  refine eqF_cons (by decide) (part_one (isAgg3 w) rfl) (part_one (isAgg3 w) rfl) (eqI (d + 1) q.noise p.noise w) ?_
  exact eqF_nil _ _ _ _
theorem eqIn_line (d : Nat) (q p : LineV) (w : World) :
    (Op.equalIn (d + 1 + 1 + 1 + 1) 32 (.agg q.cells) (.agg p.cells)).run Tryz.prog w = .ok (q.act.toList == p.act.toList && (reqEqB q.q p.q && true)) w := by
  rw [run_equalIn_struct w (d + 1 + 1 + 1) 32 _ _ (by kernel_rfl) (by kernel_rfl)]
  simp only [Program.fieldsOf, Tryz.underlying32]
  refine eqF_cons (by decide) (part_one (isAggS w) rfl) (part_one (isAggS w) rfl) (eqS (d + 1 + 1) q.act p.act w) ?_
  refine eqF_cons (by decide) (part_agg (isAggR w) (szR w)) (part_agg (isAggR w) (szR w)) (eqIn_req d q.q p.q w) ?_
  exact eqF_nil _ _ _ _
theorem eqIn_res (d : Nat) (q p : ResV) (w : World) :
    (Op.equalIn (d + 1 + 1) 111 (.agg q.cells) (.agg p.cells)).run Tryz.prog w = .ok (q.name.toList == p.name.toList && ((q.granted == p.granted) && ((q.minute == p.minute) && true))) w := by
  rw [run_equalIn_struct w (d + 1) 111 _ _ (by kernel_rfl) (by kernel_rfl)]
  simp only [Program.fieldsOf, Tryz.underlying111]
  refine eqF_cons (by decide) (part_one (isAggS w) rfl) (part_one (isAggS w) rfl) (eqS d q.name p.name w) ?_
  refine eqF_cons (by decide) (part_one (isAgg4 w) rfl) (part_one (isAgg4 w) rfl) (eqBo d q.granted p.granted w) ?_
  refine eqF_cons (by decide) (part_one (isAgg3 w) rfl) (part_one (isAgg3 w) rfl) (eqI d q.minute p.minute w) ?_
  exact eqF_nil _ _ _ _
theorem eqIn_ent (d : Nat) (q p : EntV) (w : World) :
    (Op.equalIn (d + 1 + 1 + 1 + 1) 163 (.agg q.cells) (.agg p.cells)).run Tryz.prog w = .ok (reqEqB q.q p.q && ((q.historic == p.historic) && ((q.day == p.day) && true))) w := by
  rw [run_equalIn_struct w (d + 1 + 1 + 1) 163 _ _ (by kernel_rfl) (by kernel_rfl)]
  simp only [Program.fieldsOf, Tryz.underlying163]
  refine eqF_cons (by decide) (part_agg (isAggR w) (szR w)) (part_agg (isAggR w) (szR w)) (eqIn_req d q.q p.q w) ?_
  refine eqF_cons (by decide) (part_one (isAgg4 w) rfl) (part_one (isAgg4 w) rfl) (eqBo (d + 1 + 1) q.historic p.historic w) ?_
  refine eqF_cons (by decide) (part_one (isAgg3 w) rfl) (part_one (isAgg3 w) rfl) (eqI (d + 1 + 1) q.day p.day w) ?_
  exact eqF_nil _ _ _ _
theorem sameLn (q : LineV) (w : World) : (Op.equalIn 10000 32 (.agg q.cells) (.agg q.cells)).run Tryz.prog w = .ok true w := by
  rw [show (10000 : Nat) = 9996 + 1 + 1 + 1 + 1 from rfl, eqIn_line]; simp [(reqEqB_iff q.q q.q).2 rfl]
theorem sameRs (q : ResV) (w : World) : (Op.equalIn 10000 111 (.agg q.cells) (.agg q.cells)).run Tryz.prog w = .ok true w := by
  rw [show (10000 : Nat) = 9998 + 1 + 1 from rfl, eqIn_res]; simp
theorem sameEn (q : EntV) (w : World) : (Op.equalIn 10000 163 (.agg q.cells) (.agg q.cells)).run Tryz.prog w = .ok true w := by
  rw [show (10000 : Nat) = 9996 + 1 + 1 + 1 + 1 from rfl, eqIn_ent]; simp [(reqEqB_iff q.q q.q).2 rfl]
theorem sameRq (q : ReqV) (w : World) : (Op.equalIn 10000 26 (.agg q.cells) (.agg q.cells)).run Tryz.prog w = .ok true w := by
  rw [show (10000 : Nat) = 9997 + 1 + 1 + 1 from rfl, eqIn_req, (reqEqB_iff q q).2 rfl]
theorem eqReq (q p : ReqV) (w : World) : (Op.equalIn 10000 26 (.agg q.cells) (.agg p.cells)).run Tryz.prog w = .ok (reqEqB q p) w := by
  rw [show (10000 : Nat) = 9997 + 1 + 1 + 1 from rfl, eqIn_req]
end Go.Proofs.YtlcmcknbbmokjaaGreat
