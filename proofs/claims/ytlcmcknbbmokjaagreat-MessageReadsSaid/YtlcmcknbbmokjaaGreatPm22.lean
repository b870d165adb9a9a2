/- Contract of the reference: PrintMessage of a message without error. -/
import Derived.Test.YtlcmcknbbmokjaaGreatPm15
import Derived.Test.YtlcmcknbbmokjaaGreatPm21
namespace Go.Proofs.YtlcmcknbbmokjaaGreat
open Go Go.RowKit
def bodyT (L : List LineV) : ByteArray := ⟨(Lib.join ((L.map lineN).map (·.data.toList)) []).toArray⟩
theorem bodyT_snoc (L : List LineV) (x : LineV) : bodyT (L ++ [x]) = bodyT L ++ lineN x := by
  unfold bodyT
  cases L with
  | nil =>
    show (⟨(Lib.join [(lineN x).data.toList] []).toArray⟩ : ByteArray) = ⟨#[]⟩ ++ lineN x
    rw [Lib.join_one, emp_app]
  | cons a r =>
    rw [show (((a :: r) ++ [x]).map lineN).map (·.data.toList) = (((a :: r).map lineN).map (·.data.toList)) ++ [(lineN x).data.toList] by simp, join_snoc _ _ _ (by simp), List.append_nil, cat_any]
theorem msgT_eq (h : HeadV) (L : List LineV) : msgT h L = headT h h.day.toNat ++ bodyT L ++ ⟨#[69, 78, 68, 32]⟩ ++ widT L.length 2 ++ ⟨#[10]⟩ := by
  show headT h h.day.toNat ++ bodyT L ++ footT L.length = _
  unfold footT
  simp only [ByteArray.append_assoc]
theorem bodyT_size {h : HeadV} {L : List LineV} (ok : MsgOk h L) (k : Nat) : (bodyT (L.take k)).size ≤ 22464 := by
  have := join_le ((L.take k).map lineN) [] 351 (fun x hx => by
    obtain ⟨l, hl, rfl⟩ := List.mem_map.1 hx
    obtain ⟨j, hj, rfl⟩ := List.getElem_of_mem (List.mem_of_mem_take hl)
    have := ok.lines j hj
    rw [List.getD_eq_getElem?_getD, List.getElem?_eq_getElem hj] at this
    exact lineN_size this)
  rw [List.length_map] at this
  have h2 := ok.len
  have h3 : (L.take k).length ≤ L.length := by simp; omega
  simp only [List.length_nil, Nat.add_zero] at this
  show (Lib.join (((L.take k).map lineN).map (·.data.toList)) []).toArray.size ≤ _
  rw [List.size_toArray]
  omega
set_option maxRecDepth 100000 in
set_option maxHeartbeats 4000000 in
theorem qPrintMessage_any (h : HeadV) (L : List LineV) (v : Value) (w w' : World) (hv : LnArg w v L) (hb : Below w.heap.size w w') (ok : MsgOk h L) :
    Calls Tryz.prog 22 #[.agg (h.cells v)] w' fun e w'' => e = .returned (.string (msgT h L)) ∧ Below w'.heap.size w' w'' := by
  obtain ⟨d, hd, hd5⟩ := ok.day
  have hdn : h.day.toNat = d := by omega
  have HME := Lib.hid (msgT_eq h L)
  rw [hdn] at HME
  have hj := fun b c w hc => joined_any (headWs h d) b c w hc (by rw [show (headWs h d).length = 5 from rfl]; decide) (fun x hx => by
    simp only [headWs, List.mem_cons, List.not_mem_nil, or_false] at hx
    rcases hx with rfl | rfl | rfl | rfl | rfl
    · decide
    · exact Nat.le_trans ok.kind (by decide)
    · exact Nat.le_trans ok.airport (by decide)
    · exact Nat.le_trans ok.season (by decide)
    · rw [widT_size]; decide)
  have HJ := Lib.hid hj
  have hjs : (jn (headWs h d) (headWs h d).length).size ≤ 400 := by
    have := headT_size ok d
    rw [show headT h d = jn (headWs h d) (headWs h d).length ++ ⟨#[10]⟩ from rfl, ByteArray.size_append] at this
    omega
  have HHT : Hid (jn (headWs h d) (headWs h d).length ++ ⟨#[10]⟩ = headT h d) := Lib.hid rfl
  have HHS := Lib.hid (headT_size ok d)
  have HWD := Lib.hid (fun W => qwide2_any d 5 W (by decide) (by decide) (by omega))
  have HWN := Lib.hid (fun W => qwide2_any L.length 2 W (by decide) (by decide) (by have := ok.len; omega))
  have HWS := Lib.hid (show (headWs h d) = [⟨#[83, 76, 79, 84, 83]⟩, h.kind, h.airport, h.season, widT d 5] from rfl)
  have HOK := Lib.hid ok
  have hn64 := ok.len
  obtain ⟨A, c, hve⟩ := hv.len
  have HV := Lib.hid hv
  obtain ⟨W, HW, hb0, R⟩ := head_new w' h v 38
  have HB0 := Lib.hid hb0
  have HBB := Lib.hid (b_then hb hb0)
  have hw2 := widT_size L.length 2
  generalize msgT h L = mt at *
  generalize headT h d = ht at *
  generalize jn (headWs h d) (headWs h d).length = jt at *
  generalize headWs h d = ws at *
  generalize widT d 5 = dt at *
  generalize widT L.length 2 = nt at *
  subst hve
  obtain ⟨kind, airport, season, day⟩ := h
  simp only [HeadV.cells] at *
  subst hd
  clear hb hb0 hv hj ok hd5 hdn
  go_enter Tryz.func22, Tryz.ntmps22
  obtain ⟨r0, r1, r2, r3, r4⟩ := R
  go_wp2_with fail
  rw [HW.out]
  clear HW
  have k0 : ∀ x : KeptW W, x.v.cell? ⟨w'.heap.size, 0, none⟩ = some (.string kind) := fun x => x.cell r0
  have k1 : ∀ x : KeptW W, x.v.cell? ⟨w'.heap.size, 1, none⟩ = some (.string airport) := fun x => x.cell r1
  have k2 : ∀ x : KeptW W, x.v.cell? ⟨w'.heap.size, 2, none⟩ = some (.string season) := fun x => x.cell r2
  have k3 : ∀ x : KeptW W, x.v.cell? ⟨w'.heap.size, 3, none⟩ = some (.int .i64 (d : Int)) := fun x => x.cell r3
  have k4 : ∀ x : KeptW W, x.v.cell? ⟨w'.heap.size, 4, none⟩ = some (.slice A L.length c) := fun x => x.cell r4
  have hne : Nonempty (KeptW W) := ⟨⟨W, Below.refl _ _⟩⟩
  clear r0 r1 r2 r3 r4
  refine tail_kept 9 (by kernel_rfl) (by kernel_rfl) ?_
  simp only [List.take_succ_cons, List.take_zero, List.drop_succ_cons, List.drop_zero]
  iterate 8 (go_big_quiet_step (fail))
  go_big_quiet_step (exact KeptW.calls (HWD.out _))
  refine wpQuiet_nil ?_
  rintro _ ⟨x, rfl⟩
  have hjs' := hjs
  have HBX := Lib.hid (b_then HB0.out x.below)
  have HXB := Lib.hid x.below
  have hl5 : ws.length = 5 := by rw [HWS.out]; rfl
  have hcl := HJ.out x.v.heap.size 5 (x.v.alloc (.cells #[.string ⟨#[83, 76, 79, 84, 83]⟩, .string kind, .string airport, .string season, .string dt] 9)) (fun j y hj => by
    rw [HWS.out] at hj
    exact cell_fresh x.v [.string ⟨#[83, 76, 79, 84, 83]⟩, .string kind, .string airport, .string season, .string dt] _ j (.string y) (by
      have := congrArg (Option.map Value.string) hj
      rw [← List.getElem?_map] at this
      exact this))
  rw [hl5] at hcl
  have HCL := Lib.hid hcl
  clear hcl HJ HWS HWD hl5
  have HBA := Lib.hid (below_alloc x.v (.cells #[.string ⟨#[83, 76, 79, 84, 83]⟩, .string kind, .string airport, .string season, .string dt] 9))
  go_wp2_with fail
  refine HCL.out.mono ?_
  rintro e1 w2 ⟨rfl, hw2e⟩
  have HB2 : Hid (Below x.v.heap.size x.v w2) := Lib.hid (by rw [hw2e]; exact HBA.out)
  clear hw2e HCL HBA
  go_wp2_with fail
  have k4' : Hid (∀ wr : World, Below w2.heap.size w2 wr → wr.cell? ⟨w'.heap.size, 4, none⟩ = some (.slice A L.length c)) := Lib.hid (fun wr hwr => b_old hwr (b_old HB2.out (k4 x)))
  clear k0 k1 k2 k3 k4 hne
  go_loopw [3, 4] (fun t i wr => ∃ k : Nat, k ≤ L.length ∧ i = .int .i64 k ∧ t = .string (ht ++ bodyT (L.take k)) ∧ Hid (Below w2.heap.size w2 wr)) (fun _ i _ => L.length - (intOf i).toNat)
  case atStart => exact ⟨0, Nat.zero_le _, rfl, by rw [← HHT.out]; show _ = Value.string (jt ++ ⟨#[10]⟩ ++ ⟨#[]⟩); rw [show (⟨#[]⟩ : ByteArray) = ByteArray.empty from rfl, ByteArray.append_empty], Lib.hid (Below.refl _ _)⟩
  case round =>
    obtain ⟨k, hk, rfl, rfl, HB⟩ := hrel
    have q4 := k4'.out wr HB.out
    have hbs := bodyT_size HOK.out k
    have hhs := HHS.out
    have hts : (ht ++ bodyT (L.take k)).size ≤ 22900 := by rw [ByteArray.size_append]; omega
    by_cases hlt : k < L.length
    · have HLN : Hid (LnArg wr (.slice A L.length c) L) := Lib.hid (HV.out.below (b_then (b_then (b_then HBB.out HXB.out) HB2.out) HB.out))
      obtain ⟨b, off, hA, hl⟩ : ∃ b off, A = some ⟨b, off, none⟩ ∧ LnsAt wr b off L := by
        rcases HLN.out with ⟨rfl, _⟩ | ⟨_, b, off, cap, he, hl, _, _⟩
        · simp at hlt
        · cases he; exact ⟨b, off, rfl, hl⟩
      subst hA
      have hrow := hl.row hlt rfl
      have hok := HOK.out.lines k hlt
      have hsn : bodyT (L.take (k + 1)) = bodyT (L.take k) ++ lineN (L.getD k default) := by
        rw [← bodyT_snoc]
        congr 1
        rw [List.take_succ_eq_append_getElem hlt]; simp [List.getD_eq_getElem?_getD, List.getElem?_eq_getElem hlt]
      have HC := Lib.hid (fun x => qPrintLine_any (L.getD k default) hok x)
      have hls := lineT_size hok
      have HSN : Hid (ht ++ bodyT (L.take (k + 1)) = ht ++ bodyT (L.take k) ++ lineT (L.getD k default) ++ ⟨#[10]⟩) := Lib.hid (by rw [hsn]; unfold lineN; simp only [ByteArray.append_assoc])
      generalize lineT (L.getD k default) = lt at HC hls HSN
      generalize L.getD k default = l at hrow HC
      have hts2 : (ht ++ bodyT (L.take k) ++ lt).size ≤ 23300 := by rw [ByteArray.size_append]; omega
      obtain ⟨qact, ⟨qname, qcarrier, qkind, qterminal, qpartner, qlink, qa, qb, qd, qm, qs, qz, qn⟩⟩ := l
      simp only [LineV.cells] at HC hrow
      obtain ⟨z0, z1, z2, z3, z4, z5, z6, z7, z8, z9, z10, z11, z12, z13⟩ := hrow
      clear hok hsn hl
      generalize ht ++ bodyT (L.take k) = tt at *
      go_wp2_with fail
      refine (HC.out _).mono ?_
      rintro e3 w3 ⟨rfl, hb3⟩
      have HB3 := Lib.hid (b_then HB.out hb3)
      clear z0 z1 z2 z3 z4 z5 z6 z7 z8 z9 z10 z11 z12 z13 hb3 HC q4
      go_wp2_with fail
      go_round
      case rel => exact ⟨k + 1, by omega, by go_num, by rw [HSN.out], HB3⟩
      case measure => simp [intOf]; omega
    · obtain rfl : k = L.length := by omega
      have HM : Hid (mt = ht ++ bodyT (L.take L.length) ++ ⟨#[69, 78, 68, 32]⟩ ++ nt ++ ⟨#[10]⟩) := Lib.hid (by rw [HME.out, List.take_length])
      generalize ht ++ bodyT (L.take L.length) = tt at *
      have ht2 : (tt ++ (⟨#[69, 78, 68, 32]⟩ : ByteArray)).size ≤ 22904 := by rw [ByteArray.size_append]; exact Nat.add_le_add_right hts 4
      go_wp2_with fail
      refine (HWN.out wr).mono ?_
      rintro e3 w3 ⟨rfl, hb3⟩
      have HB3 := Lib.hid (b_then (b_then (b_then HBX.out HB2.out) HB.out) hb3)
      have ht3 : (tt ++ (⟨#[69, 78, 68, 32]⟩ : ByteArray) ++ nt).size ≤ 22906 := by rw [ByteArray.size_append]; omega
      clear hb3 q4
      go_wp2_with fail
      go_ret
      exact ⟨by rw [HM.out]; rfl, HB3.out⟩
end Go.Proofs.YtlcmcknbbmokjaaGreat
