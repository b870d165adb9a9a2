/- Contract of the reference's CheckLines. -/
import Derived.Test.YtphoclgibnhjfaaGreatPm17
namespace Go.Proofs.YtphoclgibnhjfaaGreat
open Go Go.RowKit Ev
theorem kind_match {kind act : ByteArray} (hk : kindM kind = true) (ha : actB act.data.toList = true) :
    ((actKB act).toList == kind.toList) = !(asksB act.data.toList != (kind.toList == [82, 69, 81])) := by
  unfold kindM at hk
  simp only [Bool.or_eq_true, beq_iff_eq] at hk
  unfold actB at ha
  rw [Bool.or_eq_true] at ha
  unfold actKB
  rw [ByteArray.toList_eq]
  show ((actK act.data.toList).toArray.toList == kind.toList) = _
  rw [List.toList_toArray]
  generalize act.data.toList = s at *
  rcases ha with ha | ha
  · have h2 := ha
    unfold asksB at ha
    simp only [Bool.or_eq_true, beq_iff_eq] at ha
    rw [h2]
    have hA : actK s = [82, 69, 81] := by rcases ha with h | h | h | h | h <;> (subst h; rfl)
    rw [hA]
    rcases hk with hk | hk <;> rw [hk] <;> rfl
  · unfold repliesB at ha
    simp only [Bool.or_eq_true, beq_iff_eq] at ha
    have hA : actK s = [65, 78, 83] ∧ asksB s = false := by rcases ha with h | h | h | h <;> (subst h; exact ⟨rfl, rfl⟩)
    rw [hA.1, hA.2]
    rcases hk with hk | hk <;> rw [hk] <;> rfl
set_option maxRecDepth 100000 in
set_option maxHeartbeats 8000000 in
theorem refLines_any (kind : ByteArray) (L : List LineV) (b off cap : Nat) (w : World) (hl : LnsAt w b off L) (hn : L.length ≤ 900) (hk : kindM kind = true) :
    Calls Tryz.prog 60 #[.string kind, .slice (some ⟨b, off, none⟩) L.length cap] w fun e w' => e = .returned (.tuple #[.int .i64 (wlGo kind L zeroLine 0).1, .int .i64 (wlGo kind L zeroLine 0).2]) ∧ Below w.heap.size w w' := by
  have HL := Lib.hid hl
  have HK := Lib.hid hk
  clear hl hk
  obtain ⟨P, hP⟩ : ∃ P, P = wlGo kind L zeroLine 0 := ⟨_, rfl⟩
  rw [← hP]
  have HG := Lib.hid hP
  clear hP
  go_enter Tryz.func60, Tryz.ntmps60
  go_wp2_with fail
  go_loopw [6, 7, 8] (fun i _ _ wr => ∃ (k : Nat) (x : LineV), k ≤ L.length ∧ i = .int .i64 k ∧ Hid (P = wlGo kind (L.drop k) x k) ∧ Hid ((k = 0 ∧ x = zeroLine) ∨ (∃ m, k = m + 1 ∧ x = L.getD m default)) ∧ Hid (Below w.heap.size w wr)) (fun i _ _ _ => L.length - (intOf i).toNat)
  case atStart => exact ⟨0, zeroLine, Nat.zero_le _, rfl, Lib.hid (by rw [HG.out]; simp), Lib.hid (.inl ⟨rfl, rfl⟩), Lib.hid (Below.refl _ _)⟩
  case round =>
    obtain ⟨k, x, hk, rfl, HF, HX, HB⟩ := hrel
    clear HG
    by_cases hlt : k < L.length
    · have hd := wlGo_drop kind L k hlt _ rfl x
      have hrow := (HL.out.below HB.out).row hlt rfl
      have HGD : Hid (L.getD k default = L.getD k default) := Lib.hid rfl
      obtain ⟨l, hlx⟩ : ∃ l, L.getD k default = l := ⟨_, rfl⟩
      rw [hlx] at hd hrow
      have HLX := Lib.hid hlx
      clear hlx HGD
      have HD := Lib.hid (HF.out.trans hd)
      clear hd HF
      have HE : Hid (lnErr kind x l = fst [lineErr l, unl ((actKB l.act).toList == kind.toList) 18, unl (mayB x l) 11]) := Lib.hid rfl
      have HACT : Hid (lineErr l = 0 → ((actKB l.act).toList == kind.toList) = !(asksB l.act.data.toList != (kind.toList == [82, 69, 81]))) := Lib.hid fun h => kind_match HK.out (line_act h)
      have hck := refLine_any l
      have hask := asks_any l.act
      have HMB : Hid (mayB x l = if (x.act.toList == [67]) = true then l.act.toList == [82] && (l.q.carrier.toList == x.q.carrier.toList && l.q.name.toList == x.q.name.toList) else !(l.act.toList == [82])) := Lib.hid rfl
      generalize lnErr kind x l = le at HE HD
      generalize lineErr l = e0 at HE hck HACT
      generalize ((actKB l.act).toList == kind.toList) = km at HE HACT
      generalize asksB l.act.data.toList = ab at hask HACT
      generalize mayB x l = mb at HE HMB
      obtain ⟨z0, z1, z2, z3, z4, z5, z6, z7, z8, z9, z10, z11, z12, z13⟩ := hrow
      rcases HX.out with ⟨h0, hx⟩ | ⟨m, hm, hx⟩
      · subst h0 hx
        obtain ⟨qact, ⟨qname, qcarrier, qkind, qterminal, qpartner, qlink, qa, qb, qd, qm, qs, qz, qn⟩⟩ := l
        simp only [LineV.cells, Nat.zero_mul, Nat.add_zero] at *
        clear HX
        go_wp2_with fail
        refine (hck _).mono ?_
        rintro e1 w1 ⟨rfl, hb1⟩
        have HB1 := Lib.hid (b_then HB.out hb1)
        replace z0 := b_old hb1 z0
        replace z1 := b_old hb1 z1
        replace z2 := b_old hb1 z2
        clear hck hb1 HB
        by_cases he : e0 = 0
        · subst he
          have HA := Lib.hid (HACT.out rfl)
          clear HACT
          go_wp2_with fail
          refine (hask _).mono ?_
          rintro e2 w2 ⟨rfl, hb2⟩
          have HB2 := Lib.hid (b_then HB1.out hb2)
          replace z0 := b_old hb2 z0
          replace z1 := b_old hb2 z1
          replace z2 := b_old hb2 z2
          clear hask hb2 HB1
          cases hkq : (ab != (kind.toList == [82, 69, 81]))
          · rw [hkq] at HA
            have hk2 : (ab == (kind.toList == [82, 69, 81])) = true := by revert hkq; cases ab <;> cases (kind.toList == [82, 69, 81]) <;> decide
            clear hkq
            have HLE := Lib.hid (show le = if mb = true then 0 else 11 by rw [HE.out, HA.out]; cases mb <;> rfl)
            clear HE HA
            cases hl : (qact.toList == [82])
            · have HMT := Lib.hid (show mb = true by rw [HMB.out, if_neg (by show ¬ ((⟨#[]⟩ : ByteArray).toList == [67]) = true; rw [empty_toList]; decide)]; rw [hl]; rfl)
              have HP := Lib.hid (show P = wlGo kind (L.drop (1)) ⟨qact, ⟨qname, qcarrier, qkind, qterminal, qpartner, qlink, qa, qb, qd, qm, qs, qz, qn⟩⟩ (1) by rw [HD.out, HLE.out, HMT.out]; rfl)
              clear HD HLE HMT HMB
              go_wp2_with fail
              have kz0 : ∀ y : KeptW w2, y.v.cell? ⟨b, off, none⟩ = _ := fun y => y.cell z0
              have kz1 : ∀ y : KeptW w2, y.v.cell? ⟨b, off + 1, none⟩ = _ := fun y => y.cell z1
              have kz2 : ∀ y : KeptW w2, y.v.cell? ⟨b, off + 2, none⟩ = _ := fun y => y.cell z2
              have hne : Nonempty (KeptW w2) := ⟨⟨w2, Below.refl _ _⟩⟩
              refine region_kept (by kernel_rfl) (by kernel_rfl) ?_
              iterate 45 (go_big_quiet_step (fail))
              refine wpQuiet_nil ?_
              rintro _ ⟨y, rfl⟩
              have HBy := Lib.hid (b_then HB2.out y.below)
              have x0 := kz0 y
              clear kz0 kz1 kz2 hne
              go_wp2_with fail
              go_roundw
              case rel => exact ⟨1, ⟨qact, ⟨qname, qcarrier, qkind, qterminal, qpartner, qlink, qa, qb, qd, qm, qs, qz, qn⟩⟩, by omega, by go_num, Lib.hid HP.out, Lib.hid (.inr ⟨0, rfl, HLX.out.symm⟩), HBy⟩
              case measure => simp [intOf]; omega
            · have HMT := Lib.hid (show mb = false by rw [HMB.out, if_neg (by show ¬ ((⟨#[]⟩ : ByteArray).toList == [67]) = true; rw [empty_toList]; decide)]; rw [hl]; rfl)
              have HP := Lib.hid (show P = (((0 : Nat) : Int), 11) by rw [HD.out, HLE.out, HMT.out]; rfl)
              clear HD HLE HMT HMB
              go_wp2_with fail
              have kz0 : ∀ y : KeptW w2, y.v.cell? ⟨b, off, none⟩ = _ := fun y => y.cell z0
              have kz1 : ∀ y : KeptW w2, y.v.cell? ⟨b, off + 1, none⟩ = _ := fun y => y.cell z1
              have kz2 : ∀ y : KeptW w2, y.v.cell? ⟨b, off + 2, none⟩ = _ := fun y => y.cell z2
              have hne : Nonempty (KeptW w2) := ⟨⟨w2, Below.refl _ _⟩⟩
              refine region_kept (by kernel_rfl) (by kernel_rfl) ?_
              iterate 45 (go_big_quiet_step (fail))
              refine wpQuiet_nil ?_
              rintro _ ⟨y, rfl⟩
              have HBy := Lib.hid (b_then HB2.out y.below)
              have x0 := kz0 y
              clear kz0 kz1 kz2 hne
              go_wp2_with fail
              go_ret2
              exact ⟨by rw [HP.out]; rfl, HBy.out⟩
          · rw [hkq] at HA
            have hk2 : (ab == (kind.toList == [82, 69, 81])) = false := by revert hkq; cases ab <;> cases (kind.toList == [82, 69, 81]) <;> decide
            clear hkq
            have HLE := Lib.hid (show le = 18 by rw [HE.out, HA.out]; rfl)
            have HP := Lib.hid (show P = (((0 : Nat) : Int), 18) by rw [HD.out, HLE.out]; rfl)
            clear HE HA HD HLE HMB
            go_wp2_with fail
            have kz0 : ∀ y : KeptW w2, y.v.cell? ⟨b, off, none⟩ = _ := fun y => y.cell z0
            have kz1 : ∀ y : KeptW w2, y.v.cell? ⟨b, off + 1, none⟩ = _ := fun y => y.cell z1
            have kz2 : ∀ y : KeptW w2, y.v.cell? ⟨b, off + 2, none⟩ = _ := fun y => y.cell z2
            have hne : Nonempty (KeptW w2) := ⟨⟨w2, Below.refl _ _⟩⟩
            refine region_kept (by kernel_rfl) (by kernel_rfl) ?_
            iterate 45 (go_big_quiet_step (fail))
            refine wpQuiet_nil ?_
            rintro _ ⟨y, rfl⟩
            have HBy := Lib.hid (b_then HB2.out y.below)
            have x0 := kz0 y
            clear kz0 kz1 kz2 hne
            go_wp2_with fail
            go_ret2
            exact ⟨by rw [HP.out]; rfl, HBy.out⟩
        · have hz : (e0 == 0) = false := by simpa using he
          have hz2 : (e0 != 0) = true := by simpa using he
          have HLE := Lib.hid (show le = e0 by rw [HE.out]; simp [fst, he])
          have HP := Lib.hid (show P = (((0 : Nat) : Int), e0) by rw [HD.out, HLE.out, if_pos he])
          clear HE HD HLE HMB HACT hask he
          go_wp2_with fail
          have kz0 : ∀ y : KeptW w1, y.v.cell? ⟨b, off, none⟩ = _ := fun y => y.cell z0
          have kz1 : ∀ y : KeptW w1, y.v.cell? ⟨b, off + 1, none⟩ = _ := fun y => y.cell z1
          have kz2 : ∀ y : KeptW w1, y.v.cell? ⟨b, off + 2, none⟩ = _ := fun y => y.cell z2
          have hne : Nonempty (KeptW w1) := ⟨⟨w1, Below.refl _ _⟩⟩
          refine region_kept (by kernel_rfl) (by kernel_rfl) ?_
          iterate 45 (go_big_quiet_step (fail))
          refine wpQuiet_nil ?_
          rintro _ ⟨y, rfl⟩
          have HBy := Lib.hid (b_then HB1.out y.below)
          have x0 := kz0 y
          clear kz0 kz1 kz2 hne
          go_wp2_with fail
          go_ret2
          exact ⟨by rw [HP.out]; rfl, HBy.out⟩
      · subst hm
        obtain ⟨p0, p1, p2, -⟩ := (HL.out.below HB.out).row (show m < L.length by omega) hx.symm
        clear HX hx
        obtain ⟨qact, ⟨qname, qcarrier, qkind, qterminal, qpartner, qlink, qa, qb, qd, qm, qs, qz, qn⟩⟩ := l
        obtain ⟨pact, ⟨pname, pcarrier, pkind, pterminal, ppartner, plink, pa, pb, pd, pm, ps, pz, pn⟩⟩ := x
        simp only [LineV.cells] at *
        have hm1 : (0 : Int) < (m : Int) + 1 := by omega
        go_wp2_with fail
        refine (hck _).mono ?_
        rintro e1 w1 ⟨rfl, hb1⟩
        have HB1 := Lib.hid (b_then HB.out hb1)
        replace z0 := b_old hb1 z0
        replace z1 := b_old hb1 z1
        replace z2 := b_old hb1 z2
        replace p0 := b_old hb1 p0
        replace p1 := b_old hb1 p1
        replace p2 := b_old hb1 p2
        clear hck hb1 HB
        by_cases he : e0 = 0
        · subst he
          have HA := Lib.hid (HACT.out rfl)
          clear HACT
          go_wp2_with fail
          refine (hask _).mono ?_
          rintro e2 w2 ⟨rfl, hb2⟩
          have HB2 := Lib.hid (b_then HB1.out hb2)
          replace z0 := b_old hb2 z0
          replace z1 := b_old hb2 z1
          replace z2 := b_old hb2 z2
          replace p0 := b_old hb2 p0
          replace p1 := b_old hb2 p1
          replace p2 := b_old hb2 p2
          clear hask hb2 HB1
          cases hkq : (ab != (kind.toList == [82, 69, 81]))
          · rw [hkq] at HA
            have hk2 : (ab == (kind.toList == [82, 69, 81])) = true := by revert hkq; cases ab <;> cases (kind.toList == [82, 69, 81]) <;> decide
            clear hkq
            have HLE := Lib.hid (show le = if mb = true then 0 else 11 by rw [HE.out, HA.out]; cases mb <;> rfl)
            clear HE HA
            cases hx67 : (pact.toList == [67])
            · cases hl : (qact.toList == [82])
              · have HMT := Lib.hid (show mb = true by rw [HMB.out, hx67, if_neg (by simp), hl]; rfl)
                have HP := Lib.hid (show P = wlGo kind (L.drop (m + 1 + 1)) ⟨qact, ⟨qname, qcarrier, qkind, qterminal, qpartner, qlink, qa, qb, qd, qm, qs, qz, qn⟩⟩ (m + 1 + 1) by rw [HD.out, HLE.out, HMT.out]; rfl)
                clear HD HLE HMT HMB
                go_wp2_with fail
                have kz0 : ∀ y : KeptW w2, y.v.cell? ⟨b, off + (m + 1) * 14, none⟩ = _ := fun y => y.cell z0
                have kz1 : ∀ y : KeptW w2, y.v.cell? ⟨b, off + (m + 1) * 14 + 1, none⟩ = _ := fun y => y.cell z1
                have kz2 : ∀ y : KeptW w2, y.v.cell? ⟨b, off + (m + 1) * 14 + 2, none⟩ = _ := fun y => y.cell z2
                have kp0 : ∀ y : KeptW w2, y.v.cell? ⟨b, off + m * 14, none⟩ = _ := fun y => y.cell p0
                have kp1 : ∀ y : KeptW w2, y.v.cell? ⟨b, off + m * 14 + 1, none⟩ = _ := fun y => y.cell p1
                have kp2 : ∀ y : KeptW w2, y.v.cell? ⟨b, off + m * 14 + 2, none⟩ = _ := fun y => y.cell p2
                have hne : Nonempty (KeptW w2) := ⟨⟨w2, Below.refl _ _⟩⟩
                refine region_kept (by kernel_rfl) (by kernel_rfl) ?_
                iterate 45 (go_big_quiet_step (fail))
                refine wpQuiet_nil ?_
                rintro _ ⟨y, rfl⟩
                have HBy := Lib.hid (b_then HB2.out y.below)
                have x0 := kz0 y
                clear kz0 kz1 kz2 kp0 kp1 kp2 hne
                go_wp2_with fail
                go_roundw
                case rel => exact ⟨m + 1 + 1, ⟨qact, ⟨qname, qcarrier, qkind, qterminal, qpartner, qlink, qa, qb, qd, qm, qs, qz, qn⟩⟩, by omega, by go_num, Lib.hid HP.out, Lib.hid (.inr ⟨m + 1, rfl, HLX.out.symm⟩), HBy⟩
                case measure => simp [intOf]; omega
              · have HMT := Lib.hid (show mb = false by rw [HMB.out, hx67, if_neg (by simp), hl]; rfl)
                have HP := Lib.hid (show P = (((m + 1 : Nat) : Int), 11) by rw [HD.out, HLE.out, HMT.out]; rfl)
                clear HD HLE HMT HMB
                go_wp2_with fail
                have kz0 : ∀ y : KeptW w2, y.v.cell? ⟨b, off + (m + 1) * 14, none⟩ = _ := fun y => y.cell z0
                have kz1 : ∀ y : KeptW w2, y.v.cell? ⟨b, off + (m + 1) * 14 + 1, none⟩ = _ := fun y => y.cell z1
                have kz2 : ∀ y : KeptW w2, y.v.cell? ⟨b, off + (m + 1) * 14 + 2, none⟩ = _ := fun y => y.cell z2
                have kp0 : ∀ y : KeptW w2, y.v.cell? ⟨b, off + m * 14, none⟩ = _ := fun y => y.cell p0
                have kp1 : ∀ y : KeptW w2, y.v.cell? ⟨b, off + m * 14 + 1, none⟩ = _ := fun y => y.cell p1
                have kp2 : ∀ y : KeptW w2, y.v.cell? ⟨b, off + m * 14 + 2, none⟩ = _ := fun y => y.cell p2
                have hne : Nonempty (KeptW w2) := ⟨⟨w2, Below.refl _ _⟩⟩
                refine region_kept (by kernel_rfl) (by kernel_rfl) ?_
                iterate 45 (go_big_quiet_step (fail))
                refine wpQuiet_nil ?_
                rintro _ ⟨y, rfl⟩
                have HBy := Lib.hid (b_then HB2.out y.below)
                have x0 := kz0 y
                clear kz0 kz1 kz2 kp0 kp1 kp2 hne
                go_wp2_with fail
                go_ret2
                exact ⟨by rw [HP.out]; rfl, HBy.out⟩
            · have HMB2 := Lib.hid (show mb = (qact.toList == [82] && (qcarrier.toList == pcarrier.toList && qname.toList == pname.toList)) by rw [HMB.out, hx67]; rfl)
              clear HMB
              cases hl : (qact.toList == [82])
              · have HMT := Lib.hid (show mb = false by rw [HMB2.out, hl]; rfl)
                have HP := Lib.hid (show P = (((m + 1 : Nat) : Int), 11) by rw [HD.out, HLE.out, HMT.out]; rfl)
                clear HD HLE HMT HMB2
                go_wp2_with fail
                have kz0 : ∀ y : KeptW w2, y.v.cell? ⟨b, off + (m + 1) * 14, none⟩ = _ := fun y => y.cell z0
                have kz1 : ∀ y : KeptW w2, y.v.cell? ⟨b, off + (m + 1) * 14 + 1, none⟩ = _ := fun y => y.cell z1
                have kz2 : ∀ y : KeptW w2, y.v.cell? ⟨b, off + (m + 1) * 14 + 2, none⟩ = _ := fun y => y.cell z2
                have kp0 : ∀ y : KeptW w2, y.v.cell? ⟨b, off + m * 14, none⟩ = _ := fun y => y.cell p0
                have kp1 : ∀ y : KeptW w2, y.v.cell? ⟨b, off + m * 14 + 1, none⟩ = _ := fun y => y.cell p1
                have kp2 : ∀ y : KeptW w2, y.v.cell? ⟨b, off + m * 14 + 2, none⟩ = _ := fun y => y.cell p2
                have hne : Nonempty (KeptW w2) := ⟨⟨w2, Below.refl _ _⟩⟩
                refine region_kept (by kernel_rfl) (by kernel_rfl) ?_
                iterate 45 (go_big_quiet_step (fail))
                refine wpQuiet_nil ?_
                rintro _ ⟨y, rfl⟩
                have HBy := Lib.hid (b_then HB2.out y.below)
                have x0 := kz0 y
                clear kz0 kz1 kz2 kp0 kp1 kp2 hne
                go_wp2_with fail
                go_ret2
                exact ⟨by rw [HP.out]; rfl, HBy.out⟩
              · cases hcar : (qcarrier.toList == pcarrier.toList)
                · have HMT := Lib.hid (show mb = false by rw [HMB2.out, hl, hcar]; rfl)
                  have HP := Lib.hid (show P = (((m + 1 : Nat) : Int), 11) by rw [HD.out, HLE.out, HMT.out]; rfl)
                  clear HD HLE HMT HMB2
                  go_wp2_with fail
                  have kz0 : ∀ y : KeptW w2, y.v.cell? ⟨b, off + (m + 1) * 14, none⟩ = _ := fun y => y.cell z0
                  have kz1 : ∀ y : KeptW w2, y.v.cell? ⟨b, off + (m + 1) * 14 + 1, none⟩ = _ := fun y => y.cell z1
                  have kz2 : ∀ y : KeptW w2, y.v.cell? ⟨b, off + (m + 1) * 14 + 2, none⟩ = _ := fun y => y.cell z2
                  have kp0 : ∀ y : KeptW w2, y.v.cell? ⟨b, off + m * 14, none⟩ = _ := fun y => y.cell p0
                  have kp1 : ∀ y : KeptW w2, y.v.cell? ⟨b, off + m * 14 + 1, none⟩ = _ := fun y => y.cell p1
                  have kp2 : ∀ y : KeptW w2, y.v.cell? ⟨b, off + m * 14 + 2, none⟩ = _ := fun y => y.cell p2
                  have hne : Nonempty (KeptW w2) := ⟨⟨w2, Below.refl _ _⟩⟩
                  refine region_kept (by kernel_rfl) (by kernel_rfl) ?_
                  iterate 45 (go_big_quiet_step (fail))
                  refine wpQuiet_nil ?_
                  rintro _ ⟨y, rfl⟩
                  have HBy := Lib.hid (b_then HB2.out y.below)
                  have x0 := kz0 y
                  clear kz0 kz1 kz2 kp0 kp1 kp2 hne
                  go_wp2_with fail
                  go_ret2
                  exact ⟨by rw [HP.out]; rfl, HBy.out⟩
                · cases hnam : (qname.toList == pname.toList)
                  · have HMT := Lib.hid (show mb = false by rw [HMB2.out, hl, hcar, hnam]; rfl)
                    have HP := Lib.hid (show P = (((m + 1 : Nat) : Int), 11) by rw [HD.out, HLE.out, HMT.out]; rfl)
                    clear HD HLE HMT HMB2
                    go_wp2_with fail
                    have kz0 : ∀ y : KeptW w2, y.v.cell? ⟨b, off + (m + 1) * 14, none⟩ = _ := fun y => y.cell z0
                    have kz1 : ∀ y : KeptW w2, y.v.cell? ⟨b, off + (m + 1) * 14 + 1, none⟩ = _ := fun y => y.cell z1
                    have kz2 : ∀ y : KeptW w2, y.v.cell? ⟨b, off + (m + 1) * 14 + 2, none⟩ = _ := fun y => y.cell z2
                    have kp0 : ∀ y : KeptW w2, y.v.cell? ⟨b, off + m * 14, none⟩ = _ := fun y => y.cell p0
                    have kp1 : ∀ y : KeptW w2, y.v.cell? ⟨b, off + m * 14 + 1, none⟩ = _ := fun y => y.cell p1
                    have kp2 : ∀ y : KeptW w2, y.v.cell? ⟨b, off + m * 14 + 2, none⟩ = _ := fun y => y.cell p2
                    have hne : Nonempty (KeptW w2) := ⟨⟨w2, Below.refl _ _⟩⟩
                    refine region_kept (by kernel_rfl) (by kernel_rfl) ?_
                    iterate 45 (go_big_quiet_step (fail))
                    refine wpQuiet_nil ?_
                    rintro _ ⟨y, rfl⟩
                    have HBy := Lib.hid (b_then HB2.out y.below)
                    have x0 := kz0 y
                    clear kz0 kz1 kz2 kp0 kp1 kp2 hne
                    go_wp2_with fail
                    go_ret2
                    exact ⟨by rw [HP.out]; rfl, HBy.out⟩
                  · have HMT := Lib.hid (show mb = true by rw [HMB2.out, hl, hcar, hnam]; rfl)
                    have HP := Lib.hid (show P = wlGo kind (L.drop (m + 1 + 1)) ⟨qact, ⟨qname, qcarrier, qkind, qterminal, qpartner, qlink, qa, qb, qd, qm, qs, qz, qn⟩⟩ (m + 1 + 1) by rw [HD.out, HLE.out, HMT.out]; rfl)
                    clear HD HLE HMT HMB2
                    go_wp2_with fail
                    have kz0 : ∀ y : KeptW w2, y.v.cell? ⟨b, off + (m + 1) * 14, none⟩ = _ := fun y => y.cell z0
                    have kz1 : ∀ y : KeptW w2, y.v.cell? ⟨b, off + (m + 1) * 14 + 1, none⟩ = _ := fun y => y.cell z1
                    have kz2 : ∀ y : KeptW w2, y.v.cell? ⟨b, off + (m + 1) * 14 + 2, none⟩ = _ := fun y => y.cell z2
                    have kp0 : ∀ y : KeptW w2, y.v.cell? ⟨b, off + m * 14, none⟩ = _ := fun y => y.cell p0
                    have kp1 : ∀ y : KeptW w2, y.v.cell? ⟨b, off + m * 14 + 1, none⟩ = _ := fun y => y.cell p1
                    have kp2 : ∀ y : KeptW w2, y.v.cell? ⟨b, off + m * 14 + 2, none⟩ = _ := fun y => y.cell p2
                    have hne : Nonempty (KeptW w2) := ⟨⟨w2, Below.refl _ _⟩⟩
                    refine region_kept (by kernel_rfl) (by kernel_rfl) ?_
                    iterate 45 (go_big_quiet_step (fail))
                    refine wpQuiet_nil ?_
                    rintro _ ⟨y, rfl⟩
                    have HBy := Lib.hid (b_then HB2.out y.below)
                    have x0 := kz0 y
                    clear kz0 kz1 kz2 kp0 kp1 kp2 hne
                    go_wp2_with fail
                    go_roundw
                    case rel => exact ⟨m + 1 + 1, ⟨qact, ⟨qname, qcarrier, qkind, qterminal, qpartner, qlink, qa, qb, qd, qm, qs, qz, qn⟩⟩, by omega, by go_num, Lib.hid HP.out, Lib.hid (.inr ⟨m + 1, rfl, HLX.out.symm⟩), HBy⟩
                    case measure => simp [intOf]; omega
          · rw [hkq] at HA
            have hk2 : (ab == (kind.toList == [82, 69, 81])) = false := by revert hkq; cases ab <;> cases (kind.toList == [82, 69, 81]) <;> decide
            clear hkq
            have HLE := Lib.hid (show le = 18 by rw [HE.out, HA.out]; rfl)
            have HP := Lib.hid (show P = (((m + 1 : Nat) : Int), 18) by rw [HD.out, HLE.out]; rfl)
            clear HE HA HD HLE HMB
            go_wp2_with fail
            have kz0 : ∀ y : KeptW w2, y.v.cell? ⟨b, off + (m + 1) * 14, none⟩ = _ := fun y => y.cell z0
            have kz1 : ∀ y : KeptW w2, y.v.cell? ⟨b, off + (m + 1) * 14 + 1, none⟩ = _ := fun y => y.cell z1
            have kz2 : ∀ y : KeptW w2, y.v.cell? ⟨b, off + (m + 1) * 14 + 2, none⟩ = _ := fun y => y.cell z2
            have kp0 : ∀ y : KeptW w2, y.v.cell? ⟨b, off + m * 14, none⟩ = _ := fun y => y.cell p0
            have kp1 : ∀ y : KeptW w2, y.v.cell? ⟨b, off + m * 14 + 1, none⟩ = _ := fun y => y.cell p1
            have kp2 : ∀ y : KeptW w2, y.v.cell? ⟨b, off + m * 14 + 2, none⟩ = _ := fun y => y.cell p2
            have hne : Nonempty (KeptW w2) := ⟨⟨w2, Below.refl _ _⟩⟩
            refine region_kept (by kernel_rfl) (by kernel_rfl) ?_
            iterate 45 (go_big_quiet_step (fail))
            refine wpQuiet_nil ?_
            rintro _ ⟨y, rfl⟩
            have HBy := Lib.hid (b_then HB2.out y.below)
            have x0 := kz0 y
            clear kz0 kz1 kz2 kp0 kp1 kp2 hne
            go_wp2_with fail
            go_ret2
            exact ⟨by rw [HP.out]; rfl, HBy.out⟩
        · have hz : (e0 == 0) = false := by simpa using he
          have hz2 : (e0 != 0) = true := by simpa using he
          have HLE := Lib.hid (show le = e0 by rw [HE.out]; simp [fst, he])
          have HP := Lib.hid (show P = (((m + 1 : Nat) : Int), e0) by rw [HD.out, HLE.out, if_pos he])
          clear HE HD HLE HMB HACT hask he
          go_wp2_with fail
          have kz0 : ∀ y : KeptW w1, y.v.cell? ⟨b, off + (m + 1) * 14, none⟩ = _ := fun y => y.cell z0
          have kz1 : ∀ y : KeptW w1, y.v.cell? ⟨b, off + (m + 1) * 14 + 1, none⟩ = _ := fun y => y.cell z1
          have kz2 : ∀ y : KeptW w1, y.v.cell? ⟨b, off + (m + 1) * 14 + 2, none⟩ = _ := fun y => y.cell z2
          have kp0 : ∀ y : KeptW w1, y.v.cell? ⟨b, off + m * 14, none⟩ = _ := fun y => y.cell p0
          have kp1 : ∀ y : KeptW w1, y.v.cell? ⟨b, off + m * 14 + 1, none⟩ = _ := fun y => y.cell p1
          have kp2 : ∀ y : KeptW w1, y.v.cell? ⟨b, off + m * 14 + 2, none⟩ = _ := fun y => y.cell p2
          have hne : Nonempty (KeptW w1) := ⟨⟨w1, Below.refl _ _⟩⟩
          refine region_kept (by kernel_rfl) (by kernel_rfl) ?_
          iterate 45 (go_big_quiet_step (fail))
          refine wpQuiet_nil ?_
          rintro _ ⟨y, rfl⟩
          have HBy := Lib.hid (b_then HB1.out y.below)
          have x0 := kz0 y
          clear kz0 kz1 kz2 kp0 kp1 kp2 hne
          go_wp2_with fail
          go_ret2
          exact ⟨by rw [HP.out]; rfl, HBy.out⟩
    · have HZ : Hid (P = if (x.act.toList == [67]) = true then ((L.length : Int) - 1, 11) else (0, 0)) := Lib.hid (by rw [HF.out, show k = L.length by omega, List.drop_of_length_le (Nat.le_refl _)]; rfl)
      obtain rfl : k = L.length := by omega
      rcases HX.out with ⟨h0, hx⟩ | ⟨m, hm, hx⟩
      · rw [hx] at HZ
        have HZ2 := Lib.hid (show P = (0, 0) by rw [HZ.out, if_neg (by show ¬ ((⟨#[]⟩ : ByteArray).toList == [67]) = true; rw [empty_toList]; decide)])
        rw [h0]
        clear HZ HX hx
        go_wp2_with fail
        go_ret2
        exact ⟨by rw [HZ2.out]; rfl, HB.out⟩
      · have hrow := ((HL.out.below HB.out).row (show m < L.length by omega) rfl).1
        rw [← hx] at hrow
        rw [hm] at HZ hlt ⊢
        have hm1 : (0 : Int) < (m : Int) + 1 := by omega
        clear HX
        cases hc : (x.act.toList == [67])
        · rw [hc, if_neg (by simp)] at HZ
          generalize x.act = xa at *
          go_wp2_with fail
          go_ret2
          exact ⟨by rw [HZ.out]; rfl, HB.out⟩
        · rw [hc, if_pos rfl] at HZ
          generalize x.act = xa at *
          go_wp2_with fail
          go_ret2
          exact ⟨by rw [HZ.out]; simp, HB.out⟩
end Go.Proofs.YtphoclgibnhjfaaGreat
