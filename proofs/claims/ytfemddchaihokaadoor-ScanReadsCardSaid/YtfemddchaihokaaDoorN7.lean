/-
  ScanReads where the text has tokens, walked.
-/
import Derived.Test.YtfemddchaihokaaDoorN6
namespace Go.Proofs.YtfemddchaihokaaDoor
open Go.RowKit

set_option maxRecDepth 100000 in
set_option maxHeartbeats 8000000 in
theorem reads_ok (s : ByteArray) {v : Value} {ls : List (Int × ByteArray)} (w : World) (hG : GlobS w) (h3 : s.size ≤ 3000) (hn : ls.length ≤ 200) (hv : AR w v ls) {ts : List Tok} (h : toks s.data.toList = .ok ts) : Calls Tryd.prog 4 #[.string s, v] w (LawF w) := by
  obtain ⟨ad, cap, rfl, hv⟩ := hv
  have HV := Lib.hid hv
  have HMO := Lib.hid (show ∀ (k : Nat) (t : Tok), ts[k]? = some t → t.kind ≠ 0 → k + 1 < ts.length from fun k t ht h0 => more_of h ht h0)
  have HNU := Lib.hid (good_num (good_toks h))
  have H0 := Lib.hid (alive_yes w hG)
  have H1 := Lib.hid (fun (W : World) (hW : GlobS W) => new_ok W hW (by omega) h)
  have H2 := Lib.hid (fun (W : World) => rtokens_ok W (by omega) h)
  have HG := Lib.hid hG
  have g1 : decide (3000 < (s.size : Int)) = false := by simp; omega
  obtain ⟨na, hna⟩ : ∃ na, na = ls.length := ⟨_, rfl⟩
  have HNA := Lib.hid hna
  rw [← hna] at hn ⊢
  have g2 : decide (200 < (na : Int)) = false := by simp; omega
  obtain ⟨n, hnt⟩ : ∃ n, n = ts.length := ⟨_, rfl⟩
  have HN := Lib.hid hnt
  clear hG h hv hna hnt
  go_enter Tryd.func4, Tryd.ntmps4
  go_wp2_with fail
  with_reducible refine (H0.out).mono ?_
  rintro e w1 ⟨rfl, hb1⟩
  have H1' := Lib.hid (H1.out w1 (HG.out.below hb1))
  have HB1 := Lib.hid hb1
  clear hb1
  go_wp2_with fail
  with_reducible refine (H1'.out).mono ?_
  rintro e w2 ⟨rb, rfl, hrb, hR, hb2⟩
  have HR2 := Lib.hid hR
  have HB2 := Lib.hid (HB1.out.trans (hb2.mono HB1.out.size))
  have hrw : w.heap.size ≤ rb := Nat.le_trans HB1.out.size hrb
  clear hR hb2 hrb
  go_wp2_with fail
  with_reducible refine (H2.out w2).mono ?_
  rintro e w3 ⟨gm, cm, rfl, hn0, hn1, ho, hb3⟩
  rw [← HN.out] at hn0 hn1 ⊢
  have HB3 := Lib.hid (HB2.out.trans (hb3.mono HB2.out.size))
  have HR3 := Lib.hid (HR2.out.below hb3)
  have ho0 := owns_zero ho
  rw [← HN.out] at ho0
  have HO3 := Lib.hid ho0
  clear ho ho0 hb3 g1 g2
  go_wp2_with fail
  go_loopw [10, 11] (fun a i wr => RdRel w ts n na rb gm cm a i wr) (fun _ i _ => na - (intOf i).toNat)
  case atStart => exact ⟨0, 0, rfl, rfl, Nat.zero_le _, hn0, HR3.out, HO3.out, HG.out.below HB3.out, HB3.out⟩
  case round =>
    obtain ⟨k, j, rfl, rfl, hj, hk, hR, ho, hGr, hbr⟩ := hrel
    by_cases hlt : j < na
    · have hkt : k < ts.length := by rw [← HN.out]; exact hk
      have hget := List.getElem?_eq_getElem hkt
      obtain ⟨c0, c1, c2⟩ := tok_cells (by rw [← HN.out]; exact ho) hget
      have hjl : j < ls.length := by rw [← HNA.out]; exact hlt
      obtain ⟨p, rfl, hps, a0, a1⟩ := HV.out j hjl
      obtain ⟨pb, po, sp⟩ := p
      simp only at hps a0 a1
      subst hps
      have hpl := World.block_lt_of_cell? w _ a0
      obtain ⟨A, hA⟩ : ∃ A : Int, A = ls[j].1 := ⟨_, rfl⟩
      obtain ⟨X, hX⟩ : ∃ X : ByteArray, X = ls[j].2 := ⟨_, rfl⟩
      rw [← hA] at a0
      rw [← hX] at a1
      have HA0 := Lib.hid a0
      have HA1 := Lib.hid a1
      have a0r := (hbr.cell (p := ⟨pb, po + j * 2, none⟩) hpl).trans a0
      have a1r := (hbr.cell (p := ⟨pb, po + (j * 2 + 1), none⟩) hpl).trans a1
      have hd1 : decide (j < na) = true := by simp; omega
      have LK0 := Lib.hid (Lk.start hR ho hGr hbr hrw ts[k] rfl)
      have HT := Lib.hid hget
      clear hA hX a0 a1 hget hR ho hGr hbr hjl
      generalize ts[k] = t at *
      clear hkt
      have hne := neq_sameR t.kind t.pos ⟨t.text.toArray⟩
      have hgd := guardR
      go_wp2_with fail
      have lk := LK0.out
      clear LK0 c0 c1 c2 a0r a1r
      generalize wr.alloc (Obj.cells #[Value.int IntKind.i64 t.kind, Value.string ⟨t.text.toArray⟩, Value.int IntKind.i64 t.pos] 33) = W at lk ⊢
      generalize wr.heap.size = tb at lk ⊢
      replace lk := lk.drew
      go_region_held3 (fun w' => w'.cell? ⟨tb, 0, none⟩ = some (.int .i64 t.kind) ∧ w'.cell? ⟨tb, 1, none⟩ = some (.string ⟨t.text.toArray⟩) ∧ w'.cell? ⟨tb, 2, none⟩ = some (.int .i64 t.pos)) (exact ⟨lk.c0, lk.c1, lk.c2⟩) (first
        | (go_at_call 15; refine (lk.peek HT.out).mono ?_; rintro e wA ⟨rfl, lk⟩))
      have LK := Lib.hid lk
      have a0 := (lk.bel.cell (p := ⟨pb, po + j * 2, none⟩) hpl).trans HA0.out
      have a1 := (lk.bel.cell (p := ⟨pb, po + (j * 2 + 1), none⟩) hpl).trans HA1.out
      have a1' := a1
      rw [← Nat.add_assoc] at a1'
      have jb0 : (0 : Int) ≤ (j : Int) := by omega
      have jb1 : (j : Int) < (na : Int) := by omega
      have c0 := lk.c0
      have c1 := lk.c1
      have c2 := lk.c2
      clear lk hne hgd
      go_upto_region 18 with fail
      go_cut [13] (fun s13 wx => s13 = .bool (isB t X.data.toList) ∧ Lk w ts n rb gm cm tb k t wx)
      case first =>
        have HX := Lib.hid (show (t.text == X.toList) = (t.text == X.data.toList) by rw [ByteArray.toList_eq])
        by_cases k1 : t.kind = 1
        · have e1 : ((t.kind : Int) == 1) = true := by rw [k1]; rfl
          have HI := Lib.hid (show isB t X.data.toList = (t.text == X.data.toList) by unfold isB; rw [k1]; simp)
          clear k1
          go_quiet (fail)
          go_wp2_with fail
          go_meet
          exact ⟨by rw [HI.out, ← HX.out], LK.out.drewN _⟩
        · have e1 : ((t.kind : Int) == 1) = false := by rw [beq_eq_false_iff_ne]; omega
          by_cases k4 : t.kind = 4
          · have e4 : ((t.kind : Int) == 4) = true := by rw [k4]; rfl
            have HI := Lib.hid (show isB t X.data.toList = (t.text == X.data.toList) by unfold isB; rw [k4]; simp)
            clear k1 k4
            go_quiet (fail)
            go_wp2_with fail
            go_meet
            exact ⟨by rw [HI.out, ← HX.out], LK.out.drewN _⟩
          · have e4 : ((t.kind : Int) == 4) = false := by rw [beq_eq_false_iff_ne]; omega
            have HI := Lib.hid (show isB t X.data.toList = false by unfold isB; simp [k1, k4])
            clear k1 k4
            go_quiet (fail)
            go_wp2_with fail
            go_meet
            exact ⟨by rw [HI.out], LK.out.drewN _⟩
      case rest =>
        obtain ⟨rfl, lk⟩ := hcut
        clear a0 a1 a1' c0 c1 c2 LK
        have LK := Lib.hid lk
        have a0 := (lk.bel.cell (p := ⟨pb, po + j * 2, none⟩) hpl).trans HA0.out
        have a1 := (lk.bel.cell (p := ⟨pb, po + (j * 2 + 1), none⟩) hpl).trans HA1.out
        have a1' := a1
        rw [← Nat.add_assoc] at a1'
        have c0 := lk.c0
        have c1 := lk.c1
        have c2 := lk.c2
        have hne := neq_sameR t.kind t.pos ⟨t.text.toArray⟩
        have hgd := guardR
        have HBI := Lib.hid (show isB t X.data.toList = isB t X.data.toList from rfl)
        clear lk HA0 HA1
        by_cases hA0 : A = 0
        · as_aux_lemma =>
            have q0 : (A == 0) = true := by rw [beq_iff_eq]; exact hA0
            by_cases h0 : t.kind = 0
            · have m0 : ((t.kind : Int) != 0) = false := by rw [h0]; rfl
              go_wp2_with fail
              have lk := LK.out.drew
              clear a0 a1 a1' c0 c1 c2
              go_region_held3 (fun w' => w'.cell? ⟨tb, 0, none⟩ = some (.int .i64 t.kind) ∧ w'.cell? ⟨tb, 1, none⟩ = some (.string ⟨t.text.toArray⟩) ∧ w'.cell? ⟨tb, 2, none⟩ = some (.int .i64 t.pos)) (exact ⟨lk.c0, lk.c1, lk.c2⟩) (first
                | (go_at_call 16; refine (lk.take_end HT.out h0).mono ?_; rintro e wA ⟨rfl, lk⟩))
              all_goals go_wp2
              all_goals
                go_roundw
                case rel => exact ⟨k, j + 1, rfl, by go_num, by omega, hk, lk.rd, lk.own, lk.glob, lk.bel⟩
                case measure => simp [intOf]; omega
            · have m0 : ((t.kind : Int) != 0) = true := by rw [bne_iff_ne]; omega
              have HMK := Lib.hid (HMO.out k t HT.out (h0))
              go_wp2_with fail
              have lk := LK.out.drew
              clear a0 a1 a1' c0 c1 c2
              go_region_held3 (fun w' => w'.cell? ⟨tb, 0, none⟩ = some (.int .i64 t.kind) ∧ w'.cell? ⟨tb, 1, none⟩ = some (.string ⟨t.text.toArray⟩) ∧ w'.cell? ⟨tb, 2, none⟩ = some (.int .i64 t.pos)) (exact ⟨lk.c0, lk.c1, lk.c2⟩) (first
                | (go_at_call 16; refine (lk.take_on HT.out h0 HMK.out).mono ?_; rintro e wA ⟨rfl, lk⟩))
              all_goals go_wp2
              all_goals
                go_roundw
                case rel => exact ⟨k + 1, j + 1, by go_num, by go_num, by omega, by have := HMK.out; rw [← HN.out] at this; exact this, lk.rd, lk.own, lk.glob, lk.bel⟩
                case measure => simp [intOf]; omega
        by_cases hA1 : A = 1
        · as_aux_lemma =>
            have q0 : (A == 0) = false := by rw [beq_eq_false_iff_ne]; omega
            have q1 : (A == 1) = true := by rw [beq_iff_eq]; exact hA1
            cases hbi : isB t X.data.toList with
            | true =>
              have HB := Lib.hid hbi
              clear hbi
              go_wp2_with fail
              have hi := LK.out.is_ HT.out X
              rw [HB.out] at hi
              have HI := Lib.hid hi
              clear hi
              with_reducible refine (HI.out).mono ?_
              rintro e wA ⟨rfl, lk⟩
              clear a0 a1 a1' c0 c1 c2
              go_wp2
              go_roundw
              case rel => exact ⟨k, j + 1, rfl, by go_num, by omega, hk, lk.rd, lk.own, lk.glob, lk.bel⟩
              case measure => simp [intOf]; omega
            | false =>
              have HB := Lib.hid hbi
              clear hbi
              go_wp2_with fail
              have hi := LK.out.is_ HT.out X
              rw [HB.out] at hi
              have HI := Lib.hid hi
              clear hi
              with_reducible refine (HI.out).mono ?_
              rintro e wA ⟨rfl, lk⟩
              clear a0 a1 a1' c0 c1 c2
              go_wp2
              go_roundw
              case rel => exact ⟨k, j + 1, rfl, by go_num, by omega, hk, lk.rd, lk.own, lk.glob, lk.bel⟩
              case measure => simp [intOf]; omega
        by_cases hA2 : A = 2
        · as_aux_lemma =>
            have q0 : (A == 0) = false := by rw [beq_eq_false_iff_ne]; omega
            have q1 : (A == 1) = false := by rw [beq_eq_false_iff_ne]; omega
            have q2 : (A == 2) = true := by rw [beq_iff_eq]; exact hA2
            cases hbi : isB t X.data.toList with
            | true =>
              have HB := Lib.hid hbi
              clear hbi
              have h0 : t.kind ≠ 0 := by
                intro h0
                have hb := HB.out
                rw [isB, h0] at hb
                cases hb
              have HMK := Lib.hid (HMO.out k t HT.out (h0))
              have HI := Lib.hid (LK.out.skip_yes HT.out X HB.out HMK.out)
              go_wp2_with fail
              with_reducible refine (HI.out).mono ?_
              rintro e wA ⟨rfl, lk⟩
              clear a0 a1 a1' c0 c1 c2
              go_wp2
              go_roundw
              case rel => exact ⟨k + 1, j + 1, by go_num, by go_num, by omega, by have := HMK.out; rw [← HN.out] at this; exact this, lk.rd, lk.own, lk.glob, lk.bel⟩
              case measure => simp [intOf]; omega
            | false =>
              have HB := Lib.hid hbi
              clear hbi
              have HI := Lib.hid (LK.out.skip_no HT.out X HB.out)
              go_wp2_with fail
              with_reducible refine (HI.out).mono ?_
              rintro e wA ⟨rfl, lk⟩
              clear a0 a1 a1' c0 c1 c2
              go_wp2
              go_roundw
              case rel => exact ⟨k, j + 1, rfl, by go_num, by omega, hk, lk.rd, lk.own, lk.glob, lk.bel⟩
              case measure => simp [intOf]; omega
        by_cases hA3 : A = 3
        · as_aux_lemma =>
            have q0 : (A == 0) = false := by rw [beq_eq_false_iff_ne]; omega
            have q1 : (A == 1) = false := by rw [beq_eq_false_iff_ne]; omega
            have q2 : (A == 2) = false := by rw [beq_eq_false_iff_ne]; omega
            have q3 : (A == 3) = true := by rw [beq_iff_eq]; exact hA3
            cases hbi : isB t X.data.toList with
            | true =>
              have HB := Lib.hid hbi
              clear hbi
              have h0 : t.kind ≠ 0 := by
                intro h0
                have hb := HB.out
                rw [isB, h0] at hb
                cases hb
              have HMK := Lib.hid (HMO.out k t HT.out (h0))
              have HI := Lib.hid (LK.out.want_yes HT.out X HB.out HMK.out)
              go_wp2_with fail
              with_reducible refine (HI.out).mono ?_
              rintro e wA ⟨rfl, lk⟩
              have c0 := lk.c0
              have c1 := lk.c1
              have c2 := lk.c2
              have LK2 := Lib.hid lk
              clear lk a0 a1 a1'
              go_wp2_with fail
              go_quiet (fail)
              have lk := LK2.out.drewN nq
              go_wp2
              go_roundw
              case rel => exact ⟨k + 1, j + 1, by go_num, by go_num, by omega, by have := HMK.out; rw [← HN.out] at this; exact this, lk.rd, lk.own, lk.glob, lk.bel⟩
              case measure => simp [intOf]; omega
            | false =>
              have HB := Lib.hid hbi
              clear hbi
              have HI := Lib.hid (LK.out.want_no HT.out X HB.out)
              go_wp2_with fail
              with_reducible refine (HI.out).mono ?_
              rintro e wA ⟨b, rfl, hAt0, lk0⟩
              have LK2 := Lib.hid lk0
              have HAT := Lib.hid hAt0
              have p1 : ((t.pos : Int) != (t.pos : Int)) = false := by simp
              clear lk0 hAt0 a0 a1 a1' c0 c1 c2
              go_wp2_with fail
              have lk := LK2.out.drew
              have hAt := HAT.out.below (Below.refl _ _).drew
              go_region_held3 (fun w' => w'.cell? ⟨tb, 0, none⟩ = some (.int .i64 t.kind) ∧ w'.cell? ⟨tb, 1, none⟩ = some (.string ⟨t.text.toArray⟩) ∧ w'.cell? ⟨tb, 2, none⟩ = some (.int .i64 t.pos)) (exact ⟨lk.c0, lk.c1, lk.c2⟩) (first
                | (go_at_call 12; refine (lk.num hAt).mono ?_; rintro e wB ⟨rfl, hAt, lk⟩)
                | (go_at_call 13; refine (lk.pos_ hAt).mono ?_; rintro e wC ⟨rfl, hAt, lk⟩))
              all_goals go_wp2
              all_goals
                go_roundw
                case rel => exact ⟨k, j + 1, rfl, by go_num, by omega, hk, lk.rd, lk.own, lk.glob, lk.bel⟩
                case measure => simp [intOf]; omega
        by_cases hA4 : A = 4
        · as_aux_lemma =>
            have q0 : (A == 0) = false := by rw [beq_eq_false_iff_ne]; omega
            have q1 : (A == 1) = false := by rw [beq_eq_false_iff_ne]; omega
            have q2 : (A == 2) = false := by rw [beq_eq_false_iff_ne]; omega
            have q3 : (A == 3) = false := by rw [beq_eq_false_iff_ne]; omega
            have q4 : (A == 4) = true := by rw [beq_iff_eq]; exact hA4
            by_cases h1 : t.kind = 1
            · have m0 : ((t.kind : Int) == 1) = true := by rw [h1]; rfl
              have HMK := Lib.hid (HMO.out k t HT.out (by omega))
              have HI := Lib.hid (LK.out.name_yes HT.out h1 HMK.out)
              have p2 : (t.text != t.text) = false := by simp
              go_wp2_with fail
              with_reducible refine (HI.out).mono ?_
              rintro e wA ⟨rfl, lk⟩
              clear c0 c1 c2
              have c0 := lk.c0
              have c1 := lk.c1
              have c2 := lk.c2
              have LK2 := Lib.hid lk
              clear lk a0 a1 a1'
              go_wp2_with fail
              go_quiet (fail)
              have lk := LK2.out.drewN nq
              go_wp2
              go_roundw
              case rel => exact ⟨k + 1, j + 1, by go_num, by go_num, by omega, by have := HMK.out; rw [← HN.out] at this; exact this, lk.rd, lk.own, lk.glob, lk.bel⟩
              case measure => simp [intOf]; omega
            · have m0 : ((t.kind : Int) == 1) = false := by rw [beq_eq_false_iff_ne]; omega
              have HI := Lib.hid (LK.out.name_no HT.out h1)
              have p1 : ((t.pos : Int) != (t.pos : Int)) = false := by simp
              go_wp2_with fail
              with_reducible refine (HI.out).mono ?_
              rintro e wA ⟨b, rfl, hAt0, lk0⟩
              have LK2 := Lib.hid lk0
              have HAT := Lib.hid hAt0
              clear lk0 hAt0 a0 a1 a1' c0 c1 c2
              go_wp2_with fail
              have lk := LK2.out.drew
              have hAt := HAT.out.below (Below.refl _ _).drew
              refine wp_region_noPanic ?_
              refine wp_region_held_drew (S := (fun w' => w'.cell? ⟨tb, 0, none⟩ = some (.int .i64 t.kind) ∧ w'.cell? ⟨tb, 1, none⟩ = some (.string ⟨t.text.toArray⟩) ∧ w'.cell? ⟨tb, 2, none⟩ = some (.int .i64 t.pos))) (by kernel_rfl) ⟨lk.c0, lk.c1, lk.c2⟩ (fun hHeld => ?_)
              refine wpAnyH_take (i := 0) (oi := { dst := some 164, op := Op.move (Operand.tmp 14), type := 4, pos := "law.go:92", after := #[], guard := none }) (v := Value.bool false) rfl (by kernel_rfl) (by kernel_rfl) (by kernel_rfl) (fun _ _ _ h => h) (Or.inl ⟨by rfl, ?hy⟩) (by assumption) ?_
              case hy => (intro wz hSw; (try dsimp only at hSw); go_simp)
              simp only [Act.put, List.setIfInBounds_toArray, List.set_cons_zero, List.set_cons_succ]
              refine wpAnyH_take (i := 1) (oi := { dst := some 165, op := Op.move (Operand.tmp 164), type := 4, pos := "law.go:92", after := #[{ on := 0, ground := Ground.data }], guard := none }) (v := Value.bool false) rfl (by kernel_rfl) (by kernel_rfl) (by kernel_rfl) (fun _ _ _ h => h) (Or.inl ⟨by rfl, ?hy⟩) (by assumption) ?_
              case hy => (intro wz hSw; (try dsimp only at hSw); go_simp)
              simp only [Act.put, List.setIfInBounds_toArray, List.set_cons_zero, List.set_cons_succ]
              refine wpAnyH_take (i := 2) (oi := { dst := some 166, op := Op.move (Operand.tmp 16), type := 9, pos := "law.go:92", after := #[{ on := 1, ground := Ground.guard }], guard := some (1, true) }) (v := undef) rfl (by kernel_rfl) (by kernel_rfl) (by kernel_rfl) (fun _ _ _ h => h) (Or.inr ⟨by rfl, rfl⟩) (by assumption) ?_
              simp only [Act.put, List.setIfInBounds_toArray, List.set_cons_zero, List.set_cons_succ]
              refine wpAnyH_take (i := 3) (oi := { dst := some 167, op := Op.fieldAddr 33 (Operand.tmp 12) 1, type := 0, pos := "law.go:92", after := #[{ on := 1, ground := Ground.guard }], guard := some (1, true) }) (v := undef) rfl (by kernel_rfl) (by kernel_rfl) (by kernel_rfl) (fun _ _ _ h => h) (Or.inr ⟨by rfl, rfl⟩) (by assumption) ?_
              simp only [Act.put, List.setIfInBounds_toArray, List.set_cons_zero, List.set_cons_succ]
              refine wpAnyH_take (i := 4) (oi := { dst := some 168, op := Op.load 9 (Operand.tmp 167), type := 9, pos := "law.go:92", after := #[{ on := 3, ground := Ground.data }, { on := 1, ground := Ground.guard }], guard := some (1, true) }) (v := undef) rfl (by kernel_rfl) (by kernel_rfl) (by kernel_rfl) (fun _ _ _ h => h) (Or.inr ⟨by rfl, rfl⟩) (by assumption) ?_
              simp only [Act.put, List.setIfInBounds_toArray, List.set_cons_zero, List.set_cons_succ]
              refine wpAnyH_take (i := 5) (oi := { dst := some 169, op := Op.binOp BinOp.neq 9 (Operand.tmp 166) (Operand.tmp 168) 9, type := 4, pos := "law.go:92", after := #[{ on := 2, ground := Ground.data }, { on := 4, ground := Ground.data }, { on := 1, ground := Ground.guard }], guard := some (1, true) }) (v := undef) rfl (by kernel_rfl) (by kernel_rfl) (by kernel_rfl) (fun _ _ _ h => h) (Or.inr ⟨by rfl, rfl⟩) (by assumption) ?_
              simp only [Act.put, List.setIfInBounds_toArray, List.set_cons_zero, List.set_cons_succ]
              refine wpAnyH_take (i := 6) (oi := { dst := some 170, op := Op.move (Operand.tmp 169), type := 4, pos := "law.go:92", after := #[{ on := 5, ground := Ground.data }, { on := 1, ground := Ground.chain }, { on := 1, ground := Ground.guard }], guard := some (1, true) }) (v := undef) rfl (by kernel_rfl) (by kernel_rfl) (by kernel_rfl) (fun _ _ _ h => h) (Or.inr ⟨by rfl, rfl⟩) (by assumption) ?_
              simp only [Act.put, List.setIfInBounds_toArray, List.set_cons_zero, List.set_cons_succ]
              refine wpAnyH_take (i := 7) (oi := { dst := some 171, op := Op.move (Operand.tmp 17), type := 25, pos := "law.go:92", after := #[{ on := 6, ground := Ground.guard }], guard := some (6, false) }) (v := undef) rfl (by kernel_rfl) (by kernel_rfl) (by kernel_rfl) (fun _ _ _ h => h) (Or.inr ⟨by rfl, rfl⟩) (by assumption) ?_
              simp only [Act.put, List.setIfInBounds_toArray, List.set_cons_zero, List.set_cons_succ]
              refine wpAnyH_take (i := 8) (oi := { dst := some 172, op := Op.binOp BinOp.neq 25 (Operand.tmp 171) (Operand.const Value.nilIface) 25, type := 4, pos := "law.go:92", after := #[{ on := 7, ground := Ground.data }, { on := 6, ground := Ground.guard }], guard := some (6, false) }) (v := undef) rfl (by kernel_rfl) (by kernel_rfl) (by kernel_rfl) (fun _ _ _ h => h) (Or.inr ⟨by rfl, rfl⟩) (by assumption) ?_
              simp only [Act.put, List.setIfInBounds_toArray, List.set_cons_zero, List.set_cons_succ]
              refine wpAnyH_take (i := 9) (oi := { dst := some 173, op := Op.pick (Operand.tmp 170) (Operand.const (Value.bool true)) (Operand.tmp 172), type := 4, pos := "law.go:92", after := #[{ on := 6, ground := Ground.data }, { on := 8, ground := Ground.data }, { on := 1, ground := Ground.guard }], guard := some (1, true) }) (v := undef) rfl (by kernel_rfl) (by kernel_rfl) (by kernel_rfl) (fun _ _ _ h => h) (Or.inr ⟨by rfl, rfl⟩) (by assumption) ?_
              simp only [Act.put, List.setIfInBounds_toArray, List.set_cons_zero, List.set_cons_succ]
              refine wpAnyH_take (i := 10) (oi := { dst := some 174, op := Op.pick (Operand.tmp 165) (Operand.tmp 173) (Operand.const (Value.bool false)), type := 4, pos := "law.go:92", after := #[{ on := 1, ground := Ground.data }, { on := 9, ground := Ground.data }], guard := none }) (v := Value.bool false) rfl (by kernel_rfl) (by kernel_rfl) (by kernel_rfl) (fun _ _ _ h => h) (Or.inl ⟨by rfl, ?hy⟩) (by assumption) ?_
              case hy => (intro wz hSw; (try dsimp only at hSw); go_simp)
              simp only [Act.put, List.setIfInBounds_toArray, List.set_cons_zero, List.set_cons_succ]
              refine wpAnyH_take (i := 11) (oi := { dst := some 175, op := Op.move (Operand.tmp 174), type := 4, pos := "law.go:92", after := #[{ on := 10, ground := Ground.data }, { on := 6, ground := Ground.chain }], guard := none }) (v := Value.bool false) rfl (by kernel_rfl) (by kernel_rfl) (by kernel_rfl) (fun _ _ _ h => h) (Or.inl ⟨by rfl, ?hy⟩) (by assumption) ?_
              case hy => (intro wz hSw; (try dsimp only at hSw); go_simp)
              simp only [Act.put, List.setIfInBounds_toArray, List.set_cons_zero, List.set_cons_succ]
              refine wpAnyH_take (i := 12) (oi := { dst := some 176, op := Op.move (Operand.tmp 14), type := 4, pos := "law.go:92", after := #[{ on := 11, ground := Ground.guard }], guard := some (11, false) }) (v := Value.bool false) rfl (by kernel_rfl) (by kernel_rfl) (by kernel_rfl) (fun _ _ _ h => h) (Or.inl ⟨by rfl, ?hy⟩) (by assumption) ?_
              case hy => (intro wz hSw; (try dsimp only at hSw); go_simp)
              simp only [Act.put, List.setIfInBounds_toArray, List.set_cons_zero, List.set_cons_succ]
              refine wpAnyH_take (i := 13) (oi := { dst := some 177, op := Op.unOp UnOp.not 4 (Operand.tmp 176), type := 4, pos := "law.go:92", after := #[{ on := 12, ground := Ground.data }, { on := 11, ground := Ground.guard }], guard := some (11, false) }) (v := Value.bool true) rfl (by kernel_rfl) (by kernel_rfl) (by kernel_rfl) (fun _ _ _ h => h) (Or.inl ⟨by rfl, ?hy⟩) (by assumption) ?_
              case hy => (intro wz hSw; (try dsimp only at hSw); go_simp)
              simp only [Act.put, List.setIfInBounds_toArray, List.set_cons_zero, List.set_cons_succ]
              refine wpAnyH_take (i := 14) (oi := { dst := some 178, op := Op.move (Operand.tmp 177), type := 4, pos := "law.go:92", after := #[{ on := 13, ground := Ground.data }, { on := 11, ground := Ground.chain }, { on := 11, ground := Ground.guard }], guard := some (11, false) }) (v := Value.bool true) rfl (by kernel_rfl) (by kernel_rfl) (by kernel_rfl) (fun _ _ _ h => h) (Or.inl ⟨by rfl, ?hy⟩) (by assumption) ?_
              case hy => (intro wz hSw; (try dsimp only at hSw); go_simp)
              simp only [Act.put, List.setIfInBounds_toArray, List.set_cons_zero, List.set_cons_succ]
              refine wpAnyH_take (i := 15) (oi := { dst := some 179, op := Op.move (Operand.tmp 16), type := 9, pos := "law.go:92", after := #[{ on := 14, ground := Ground.guard }], guard := some (14, true) }) (v := Value.string { data := #[] }) rfl (by kernel_rfl) (by kernel_rfl) (by kernel_rfl) (fun _ _ _ h => h) (Or.inl ⟨by rfl, ?hy⟩) (by assumption) ?_
              case hy => (intro wz hSw; (try dsimp only at hSw); go_simp)
              simp only [Act.put, List.setIfInBounds_toArray, List.set_cons_zero, List.set_cons_succ]
              refine wpAnyH_take (i := 16) (oi := { dst := some 180, op := Op.binOp BinOp.neq 9 (Operand.tmp 179) (Operand.const (Value.string { data := #[] })) 9, type := 4, pos := "law.go:92", after := #[{ on := 15, ground := Ground.data }, { on := 14, ground := Ground.guard }], guard := some (14, true) }) (v := Value.bool false) rfl (by kernel_rfl) (by kernel_rfl) (by kernel_rfl) (fun _ _ _ h => h) (Or.inl ⟨by rfl, ?hy⟩) (by assumption) ?_
              case hy => (intro wz hSw; (try dsimp only at hSw); go_simp)
              simp only [Act.put, List.setIfInBounds_toArray, List.set_cons_zero, List.set_cons_succ]
              refine wpAnyH_take (i := 17) (oi := { dst := some 181, op := Op.move (Operand.tmp 180), type := 4, pos := "law.go:92", after := #[{ on := 16, ground := Ground.data }, { on := 14, ground := Ground.chain }, { on := 14, ground := Ground.guard }], guard := some (14, true) }) (v := Value.bool false) rfl (by kernel_rfl) (by kernel_rfl) (by kernel_rfl) (fun _ _ _ h => h) (Or.inl ⟨by rfl, ?hy⟩) (by assumption) ?_
              case hy => (intro wz hSw; (try dsimp only at hSw); go_simp)
              simp only [Act.put, List.setIfInBounds_toArray, List.set_cons_zero, List.set_cons_succ]
              refine wpAnyH_take (i := 18) (oi := { dst := some 182, op := Op.move (Operand.tmp 17), type := 25, pos := "law.go:92", after := #[{ on := 17, ground := Ground.guard }], guard := some (17, false) }) (v := Value.iface 60 (Value.pointer (some { block := b, off := 0 }))) rfl (by kernel_rfl) (by kernel_rfl) (by kernel_rfl) (fun _ _ _ h => h) (Or.inl ⟨by rfl, ?hy⟩) (by assumption) ?_
              case hy => (intro wz hSw; (try dsimp only at hSw); go_simp)
              simp only [Act.put, List.setIfInBounds_toArray, List.set_cons_zero, List.set_cons_succ]
              refine wpAnyH_ready (rs := [19]) (by kernel_rfl) (by simp) ?_
              refine AllReadyH.cons (o := { dst := some 183, op := Op.call { callee := Callee.value (Operand.func 12), args := #[Operand.tmp 182], argTypes := #[25] }, type := 3, pos := "law.go:92", after := #[{ on := 18, ground := Ground.data }, { on := 17, ground := Ground.chain }, { on := 17, ground := Ground.guard }], guard := some (17, false) }) rfl (fun K hK => ?_) AllReadyH.nil
              go_simp
              go_at_call 12
              refine (lk.num hAt).mono ?_
              rintro e wB ⟨rfl, hAt, lk⟩
              go_wp2_with fail
              refine hK.out _ _ ⟨lk.c0, lk.c1, lk.c2⟩ (fun hHeld => ?_)
              clear hK K
              try simp only [Act.put, List.setIfInBounds_toArray, List.set_cons_zero, List.set_cons_succ]
              refine wpAnyH_take (i := 20) (oi := { dst := some 184, op := Op.binOp BinOp.neq 3 (Operand.tmp 183) (Operand.const (Value.int IntKind.i64 20)) 3, type := 4, pos := "law.go:92", after := #[{ on := 19, ground := Ground.data }, { on := 17, ground := Ground.guard }], guard := some (17, false) }) (v := Value.bool false) rfl (by kernel_rfl) (by kernel_rfl) (by kernel_rfl) (fun _ _ _ h => h) (Or.inl ⟨by rfl, ?hy⟩) (by assumption) ?_
              case hy => (intro wz hSw; (try dsimp only at hSw); go_simp)
              simp only [Act.put, List.setIfInBounds_toArray, List.set_cons_zero, List.set_cons_succ]
              refine wpAnyH_take (i := 21) (oi := { dst := some 185, op := Op.pick (Operand.tmp 181) (Operand.const (Value.bool true)) (Operand.tmp 184), type := 4, pos := "law.go:92", after := #[{ on := 17, ground := Ground.data }, { on := 20, ground := Ground.data }, { on := 14, ground := Ground.guard }], guard := some (14, true) }) (v := Value.bool false) rfl (by kernel_rfl) (by kernel_rfl) (by kernel_rfl) (fun _ _ _ h => h) (Or.inl ⟨by rfl, ?hy⟩) (by assumption) ?_
              case hy => (intro wz hSw; (try dsimp only at hSw); go_simp)
              simp only [Act.put, List.setIfInBounds_toArray, List.set_cons_zero, List.set_cons_succ]
              refine wpAnyH_take (i := 22) (oi := { dst := some 186, op := Op.move (Operand.tmp 185), type := 4, pos := "law.go:92", after := #[{ on := 21, ground := Ground.data }, { on := 19, ground := Ground.chain }, { on := 14, ground := Ground.guard }], guard := some (14, true) }) (v := Value.bool false) rfl (by kernel_rfl) (by kernel_rfl) (by kernel_rfl) (fun _ _ _ h => h) (Or.inl ⟨by rfl, ?hy⟩) (by assumption) ?_
              case hy => (intro wz hSw; (try dsimp only at hSw); go_simp)
              simp only [Act.put, List.setIfInBounds_toArray, List.set_cons_zero, List.set_cons_succ]
              refine wpAnyH_take (i := 23) (oi := { dst := some 187, op := Op.move (Operand.tmp 17), type := 25, pos := "law.go:92", after := #[{ on := 22, ground := Ground.guard }], guard := some (22, false) }) (v := Value.iface 60 (Value.pointer (some { block := b, off := 0 }))) rfl (by kernel_rfl) (by kernel_rfl) (by kernel_rfl) (fun _ _ _ h => h) (Or.inl ⟨by rfl, ?hy⟩) (by assumption) ?_
              case hy => (intro wz hSw; (try dsimp only at hSw); go_simp)
              simp only [Act.put, List.setIfInBounds_toArray, List.set_cons_zero, List.set_cons_succ]
              refine wpAnyH_take (i := 25) (oi := { dst := some 189, op := Op.fieldAddr 33 (Operand.tmp 12) 2, type := 0, pos := "law.go:92", after := #[{ on := 22, ground := Ground.guard }], guard := some (22, false) }) (v := Value.pointer (some { block := tb, off := 2 })) rfl (by kernel_rfl) (by kernel_rfl) (by kernel_rfl) (fun _ _ _ h => h) (Or.inl ⟨by rfl, ?hy⟩) (by assumption) ?_
              case hy => (intro wz hSw; (try dsimp only at hSw); go_simp)
              simp only [Act.put, List.setIfInBounds_toArray, List.set_cons_zero, List.set_cons_succ]
              refine wpAnyH_take (i := 26) (oi := { dst := some 190, op := Op.load 3 (Operand.tmp 189), type := 3, pos := "law.go:92", after := #[{ on := 25, ground := Ground.data }, { on := 22, ground := Ground.guard }], guard := some (22, false) }) (v := Value.int IntKind.i64 ↑t.pos) rfl (by kernel_rfl) (by kernel_rfl) (by kernel_rfl) (fun _ _ _ h => h) (Or.inl ⟨by rfl, ?hy⟩) (by assumption) ?_
              case hy => (intro wz hSw; (try dsimp only at hSw); go_simp)
              simp only [Act.put, List.setIfInBounds_toArray, List.set_cons_zero, List.set_cons_succ]
              refine wpAnyH_ready (rs := [24]) (by kernel_rfl) (by simp) ?_
              refine AllReadyH.cons (o := { dst := some 188, op := Op.call { callee := Callee.value (Operand.func 13), args := #[Operand.tmp 187], argTypes := #[25] }, type := 3, pos := "law.go:92", after := #[{ on := 23, ground := Ground.data }, { on := 22, ground := Ground.chain }, { on := 22, ground := Ground.guard }], guard := some (22, false) }) rfl (fun K hK => ?_) AllReadyH.nil
              go_simp
              go_at_call 13
              refine (lk.pos_ hAt).mono ?_
              rintro e wC ⟨rfl, hAt, lk⟩
              go_wp2_with fail
              refine hK.out _ _ ⟨lk.c0, lk.c1, lk.c2⟩ (fun hHeld => ?_)
              clear hK K
              try simp only [Act.put, List.setIfInBounds_toArray, List.set_cons_zero, List.set_cons_succ]
              refine wpAnyH_take (i := 27) (oi := { dst := some 191, op := Op.binOp BinOp.neq 3 (Operand.tmp 188) (Operand.tmp 190) 3, type := 4, pos := "law.go:92", after := #[{ on := 24, ground := Ground.data }, { on := 26, ground := Ground.data }, { on := 22, ground := Ground.guard }], guard := some (22, false) }) (v := Value.bool false) rfl (by kernel_rfl) (by kernel_rfl) (by kernel_rfl) (fun _ _ _ h => h) (Or.inl ⟨by rfl, ?hy⟩) (by assumption) ?_
              case hy => (intro wz hSw; (try dsimp only at hSw); go_simp)
              simp only [Act.put, List.setIfInBounds_toArray, List.set_cons_zero, List.set_cons_succ]
              refine wpAnyH_take (i := 28) (oi := { dst := some 192, op := Op.pick (Operand.tmp 186) (Operand.const (Value.bool true)) (Operand.tmp 191), type := 4, pos := "law.go:92", after := #[{ on := 22, ground := Ground.data }, { on := 27, ground := Ground.data }, { on := 14, ground := Ground.guard }], guard := some (14, true) }) (v := Value.bool false) rfl (by kernel_rfl) (by kernel_rfl) (by kernel_rfl) (fun _ _ _ h => h) (Or.inl ⟨by rfl, ?hy⟩) (by assumption) ?_
              case hy => (intro wz hSw; (try dsimp only at hSw); go_simp)
              simp only [Act.put, List.setIfInBounds_toArray, List.set_cons_zero, List.set_cons_succ]
              refine wpAnyH_take (i := 29) (oi := { dst := some 193, op := Op.pick (Operand.tmp 178) (Operand.tmp 192) (Operand.const (Value.bool false)), type := 4, pos := "law.go:92", after := #[{ on := 14, ground := Ground.data }, { on := 28, ground := Ground.data }, { on := 11, ground := Ground.guard }], guard := some (11, false) }) (v := Value.bool false) rfl (by kernel_rfl) (by kernel_rfl) (by kernel_rfl) (fun _ _ _ h => h) (Or.inl ⟨by rfl, ?hy⟩) (by assumption) ?_
              case hy => (intro wz hSw; (try dsimp only at hSw); go_simp)
              simp only [Act.put, List.setIfInBounds_toArray, List.set_cons_zero, List.set_cons_succ]
              refine wpAnyH_take (i := 30) (oi := { dst := some 194, op := Op.pick (Operand.tmp 175) (Operand.const (Value.bool true)) (Operand.tmp 193), type := 4, pos := "law.go:92", after := #[{ on := 11, ground := Ground.data }, { on := 29, ground := Ground.data }], guard := none }) (v := Value.bool false) rfl (by kernel_rfl) (by kernel_rfl) (by kernel_rfl) (fun _ _ _ h => h) (Or.inl ⟨by rfl, ?hy⟩) (by assumption) ?_
              case hy => (intro wz hSw; (try dsimp only at hSw); go_simp)
              simp only [Act.put, List.setIfInBounds_toArray, List.set_cons_zero, List.set_cons_succ]
              refine wpAnyH_done (by kernel_rfl) ?_ _
              refine NoPanic.normal ?_
              all_goals go_wp2
              all_goals
                go_roundw
                case rel => exact ⟨k, j + 1, rfl, by go_num, by omega, hk, lk.rd, lk.own, lk.glob, lk.bel⟩
                case measure => simp [intOf]; omega
        by_cases hA5 : A = 5
        · as_aux_lemma =>
            have q0 : (A == 0) = false := by rw [beq_eq_false_iff_ne]; omega
            have q1 : (A == 1) = false := by rw [beq_eq_false_iff_ne]; omega
            have q2 : (A == 2) = false := by rw [beq_eq_false_iff_ne]; omega
            have q3 : (A == 3) = false := by rw [beq_eq_false_iff_ne]; omega
            have q4 : (A == 4) = false := by rw [beq_eq_false_iff_ne]; omega
            have q5 : (A == 5) = true := by rw [beq_iff_eq]; exact hA5
            by_cases h2 : t.kind = 2
            · have m0 : ((t.kind : Int) == 2) = true := by rw [h2]; rfl
              have HMK := Lib.hid (HMO.out k t HT.out (by omega))
              obtain ⟨hlen, hnum⟩ := HNU.out t (List.mem_of_getElem? HT.out)
              rw [size_list] at hlen
              obtain ⟨n0, nd, nv⟩ := hnum h2
              have HI := Lib.hid (LK.out.number_yes HT.out h2 HMK.out (by omega) n0 nd nv)
              have hva := fun W : World => value_any ⟨t.text.toArray⟩ W (by rw [← size_list]; show t.text.length ≤ _; omega) nd
              have HVT := Lib.hid (show valT (⟨t.text.toArray⟩ : ByteArray).data.toList = .tuple #[.int .i64 (valOf t.text), .bool true] by show valT t.text = _; unfold valT; rw [if_pos nv])
              unfold valP at hva
              have HVA := Lib.hid hva
              have p2 : ((valOf t.text : Int) != (valOf t.text : Int)) = false := by simp
              clear hva hlen hnum n0 nd nv
              go_wp2_with fail
              with_reducible refine (HI.out).mono ?_
              rintro e wA ⟨rfl, lk⟩
              clear c0 c1 c2
              have c0 := lk.c0
              have c1 := lk.c1
              have c2 := lk.c2
              have LK2 := Lib.hid lk
              clear lk a0 a1 a1'
              go_wp2_with fail
              with_reducible refine (HVA.out wA).mono ?_
              rintro e w' ⟨rfl, rfl⟩
              rw [HVT.out]
              go_wp2_with fail
              go_quiet (fail)
              have lk := LK2.out.drewN nq
              go_wp2
              go_roundw
              case rel => exact ⟨k + 1, j + 1, by go_num, by go_num, by omega, by have := HMK.out; rw [← HN.out] at this; exact this, lk.rd, lk.own, lk.glob, lk.bel⟩
              case measure => simp [intOf]; omega
            · have m0 : ((t.kind : Int) == 2) = false := by rw [beq_eq_false_iff_ne]; omega
              have HI := Lib.hid (LK.out.number_no HT.out h2)
              have p1 : ((t.pos : Int) != (t.pos : Int)) = false := by simp
              obtain ⟨hlen, _⟩ := HNU.out t (List.mem_of_getElem? HT.out)
              rw [size_list] at hlen
              have hva := fun W : World => value_some ⟨t.text.toArray⟩ W (by rw [← size_list]; show t.text.length ≤ _; omega)
              have HVA := Lib.hid hva
              clear hva hlen
              go_wp2_with fail
              with_reducible refine (HI.out).mono ?_
              rintro e wA ⟨b, rfl, hAt0, lk0⟩
              have LK2 := Lib.hid lk0
              have HAT := Lib.hid hAt0
              clear hAt0 c0 c1 c2
              have c0 := lk0.c0
              have c1 := lk0.c1
              have c2 := lk0.c2
              clear lk0 a0 a1 a1'
              go_wp2_with fail
              refine (HVA.out wA).mono ?_
              rintro e w' ⟨yv, yb, rfl, rfl⟩
              clear c0 c1 c2
              go_wp2_with fail
              have lk := LK2.out.drew
              have hAt := HAT.out.below (Below.refl _ _).drew
              refine wp_region_noPanic ?_
              refine wp_region_held_drew (S := (fun w' => w'.cell? ⟨tb, 0, none⟩ = some (.int .i64 t.kind) ∧ w'.cell? ⟨tb, 1, none⟩ = some (.string ⟨t.text.toArray⟩) ∧ w'.cell? ⟨tb, 2, none⟩ = some (.int .i64 t.pos))) (by kernel_rfl) ⟨lk.c0, lk.c1, lk.c2⟩ (fun hHeld => ?_)
              refine wpAnyH_take (i := 0) (oi := { dst := some 211, op := Op.move (Operand.tmp 14), type := 4, pos := "law.go:99", after := #[], guard := none }) (v := Value.bool false) rfl (by kernel_rfl) (by kernel_rfl) (by kernel_rfl) (fun _ _ _ h => h) (Or.inl ⟨by rfl, ?hy⟩) (by assumption) ?_
              case hy => (intro wz hSw; (try dsimp only at hSw); go_simp)
              simp only [Act.put, List.setIfInBounds_toArray, List.set_cons_zero, List.set_cons_succ]
              refine wpAnyH_take (i := 1) (oi := { dst := some 212, op := Op.move (Operand.tmp 211), type := 4, pos := "law.go:99", after := #[{ on := 0, ground := Ground.data }], guard := none }) (v := Value.bool false) rfl (by kernel_rfl) (by kernel_rfl) (by kernel_rfl) (fun _ _ _ h => h) (Or.inl ⟨by rfl, ?hy⟩) (by assumption) ?_
              case hy => (intro wz hSw; (try dsimp only at hSw); go_simp)
              simp only [Act.put, List.setIfInBounds_toArray, List.set_cons_zero, List.set_cons_succ]
              refine wpAnyH_take (i := 2) (oi := { dst := some 213, op := Op.move (Operand.tmp 18), type := 2, pos := "law.go:99", after := #[{ on := 1, ground := Ground.guard }], guard := some (1, true) }) (v := undef) rfl (by kernel_rfl) (by kernel_rfl) (by kernel_rfl) (fun _ _ _ h => h) (Or.inr ⟨by rfl, rfl⟩) (by assumption) ?_
              simp only [Act.put, List.setIfInBounds_toArray, List.set_cons_zero, List.set_cons_succ]
              refine wpAnyH_take (i := 3) (oi := { dst := some 214, op := Op.move (Operand.tmp 20), type := 2, pos := "law.go:99", after := #[{ on := 1, ground := Ground.guard }], guard := some (1, true) }) (v := undef) rfl (by kernel_rfl) (by kernel_rfl) (by kernel_rfl) (fun _ _ _ h => h) (Or.inr ⟨by rfl, rfl⟩) (by assumption) ?_
              simp only [Act.put, List.setIfInBounds_toArray, List.set_cons_zero, List.set_cons_succ]
              refine wpAnyH_take (i := 4) (oi := { dst := some 215, op := Op.binOp BinOp.neq 2 (Operand.tmp 213) (Operand.tmp 214) 2, type := 4, pos := "law.go:99", after := #[{ on := 2, ground := Ground.data }, { on := 3, ground := Ground.data }, { on := 1, ground := Ground.guard }], guard := some (1, true) }) (v := undef) rfl (by kernel_rfl) (by kernel_rfl) (by kernel_rfl) (fun _ _ _ h => h) (Or.inr ⟨by rfl, rfl⟩) (by assumption) ?_
              simp only [Act.put, List.setIfInBounds_toArray, List.set_cons_zero, List.set_cons_succ]
              refine wpAnyH_take (i := 5) (oi := { dst := some 216, op := Op.move (Operand.tmp 215), type := 4, pos := "law.go:99", after := #[{ on := 4, ground := Ground.data }, { on := 1, ground := Ground.chain }, { on := 1, ground := Ground.guard }], guard := some (1, true) }) (v := undef) rfl (by kernel_rfl) (by kernel_rfl) (by kernel_rfl) (fun _ _ _ h => h) (Or.inr ⟨by rfl, rfl⟩) (by assumption) ?_
              simp only [Act.put, List.setIfInBounds_toArray, List.set_cons_zero, List.set_cons_succ]
              refine wpAnyH_take (i := 6) (oi := { dst := some 217, op := Op.move (Operand.tmp 19), type := 25, pos := "law.go:99", after := #[{ on := 5, ground := Ground.guard }], guard := some (5, false) }) (v := undef) rfl (by kernel_rfl) (by kernel_rfl) (by kernel_rfl) (fun _ _ _ h => h) (Or.inr ⟨by rfl, rfl⟩) (by assumption) ?_
              simp only [Act.put, List.setIfInBounds_toArray, List.set_cons_zero, List.set_cons_succ]
              refine wpAnyH_take (i := 7) (oi := { dst := some 218, op := Op.binOp BinOp.neq 25 (Operand.tmp 217) (Operand.const Value.nilIface) 25, type := 4, pos := "law.go:99", after := #[{ on := 6, ground := Ground.data }, { on := 5, ground := Ground.guard }], guard := some (5, false) }) (v := undef) rfl (by kernel_rfl) (by kernel_rfl) (by kernel_rfl) (fun _ _ _ h => h) (Or.inr ⟨by rfl, rfl⟩) (by assumption) ?_
              simp only [Act.put, List.setIfInBounds_toArray, List.set_cons_zero, List.set_cons_succ]
              refine wpAnyH_take (i := 8) (oi := { dst := some 219, op := Op.pick (Operand.tmp 216) (Operand.const (Value.bool true)) (Operand.tmp 218), type := 4, pos := "law.go:99", after := #[{ on := 5, ground := Ground.data }, { on := 7, ground := Ground.data }, { on := 1, ground := Ground.guard }], guard := some (1, true) }) (v := undef) rfl (by kernel_rfl) (by kernel_rfl) (by kernel_rfl) (fun _ _ _ h => h) (Or.inr ⟨by rfl, rfl⟩) (by assumption) ?_
              simp only [Act.put, List.setIfInBounds_toArray, List.set_cons_zero, List.set_cons_succ]
              refine wpAnyH_take (i := 9) (oi := { dst := some 220, op := Op.pick (Operand.tmp 212) (Operand.tmp 219) (Operand.const (Value.bool false)), type := 4, pos := "law.go:99", after := #[{ on := 1, ground := Ground.data }, { on := 8, ground := Ground.data }], guard := none }) (v := Value.bool false) rfl (by kernel_rfl) (by kernel_rfl) (by kernel_rfl) (fun _ _ _ h => h) (Or.inl ⟨by rfl, ?hy⟩) (by assumption) ?_
              case hy => (intro wz hSw; (try dsimp only at hSw); go_simp)
              simp only [Act.put, List.setIfInBounds_toArray, List.set_cons_zero, List.set_cons_succ]
              refine wpAnyH_take (i := 10) (oi := { dst := some 221, op := Op.move (Operand.tmp 220), type := 4, pos := "law.go:99", after := #[{ on := 9, ground := Ground.data }, { on := 5, ground := Ground.chain }], guard := none }) (v := Value.bool false) rfl (by kernel_rfl) (by kernel_rfl) (by kernel_rfl) (fun _ _ _ h => h) (Or.inl ⟨by rfl, ?hy⟩) (by assumption) ?_
              case hy => (intro wz hSw; (try dsimp only at hSw); go_simp)
              simp only [Act.put, List.setIfInBounds_toArray, List.set_cons_zero, List.set_cons_succ]
              refine wpAnyH_take (i := 11) (oi := { dst := some 222, op := Op.move (Operand.tmp 14), type := 4, pos := "law.go:99", after := #[{ on := 10, ground := Ground.guard }], guard := some (10, false) }) (v := Value.bool false) rfl (by kernel_rfl) (by kernel_rfl) (by kernel_rfl) (fun _ _ _ h => h) (Or.inl ⟨by rfl, ?hy⟩) (by assumption) ?_
              case hy => (intro wz hSw; (try dsimp only at hSw); go_simp)
              simp only [Act.put, List.setIfInBounds_toArray, List.set_cons_zero, List.set_cons_succ]
              refine wpAnyH_take (i := 12) (oi := { dst := some 223, op := Op.unOp UnOp.not 4 (Operand.tmp 222), type := 4, pos := "law.go:99", after := #[{ on := 11, ground := Ground.data }, { on := 10, ground := Ground.guard }], guard := some (10, false) }) (v := Value.bool true) rfl (by kernel_rfl) (by kernel_rfl) (by kernel_rfl) (fun _ _ _ h => h) (Or.inl ⟨by rfl, ?hy⟩) (by assumption) ?_
              case hy => (intro wz hSw; (try dsimp only at hSw); go_simp)
              simp only [Act.put, List.setIfInBounds_toArray, List.set_cons_zero, List.set_cons_succ]
              refine wpAnyH_take (i := 13) (oi := { dst := some 224, op := Op.move (Operand.tmp 223), type := 4, pos := "law.go:99", after := #[{ on := 12, ground := Ground.data }, { on := 10, ground := Ground.chain }, { on := 10, ground := Ground.guard }], guard := some (10, false) }) (v := Value.bool true) rfl (by kernel_rfl) (by kernel_rfl) (by kernel_rfl) (fun _ _ _ h => h) (Or.inl ⟨by rfl, ?hy⟩) (by assumption) ?_
              case hy => (intro wz hSw; (try dsimp only at hSw); go_simp)
              simp only [Act.put, List.setIfInBounds_toArray, List.set_cons_zero, List.set_cons_succ]
              refine wpAnyH_take (i := 14) (oi := { dst := some 225, op := Op.move (Operand.tmp 18), type := 2, pos := "law.go:99", after := #[{ on := 13, ground := Ground.guard }], guard := some (13, true) }) (v := Value.int IntKind.i64 0) rfl (by kernel_rfl) (by kernel_rfl) (by kernel_rfl) (fun _ _ _ h => h) (Or.inl ⟨by rfl, ?hy⟩) (by assumption) ?_
              case hy => (intro wz hSw; (try dsimp only at hSw); go_simp)
              simp only [Act.put, List.setIfInBounds_toArray, List.set_cons_zero, List.set_cons_succ]
              refine wpAnyH_take (i := 15) (oi := { dst := some 226, op := Op.binOp BinOp.neq 2 (Operand.tmp 225) (Operand.const (Value.int IntKind.i64 0)) 2, type := 4, pos := "law.go:99", after := #[{ on := 14, ground := Ground.data }, { on := 13, ground := Ground.guard }], guard := some (13, true) }) (v := Value.bool false) rfl (by kernel_rfl) (by kernel_rfl) (by kernel_rfl) (fun _ _ _ h => h) (Or.inl ⟨by rfl, ?hy⟩) (by assumption) ?_
              case hy => (intro wz hSw; (try dsimp only at hSw); go_simp)
              simp only [Act.put, List.setIfInBounds_toArray, List.set_cons_zero, List.set_cons_succ]
              refine wpAnyH_take (i := 16) (oi := { dst := some 227, op := Op.move (Operand.tmp 226), type := 4, pos := "law.go:99", after := #[{ on := 15, ground := Ground.data }, { on := 13, ground := Ground.chain }, { on := 13, ground := Ground.guard }], guard := some (13, true) }) (v := Value.bool false) rfl (by kernel_rfl) (by kernel_rfl) (by kernel_rfl) (fun _ _ _ h => h) (Or.inl ⟨by rfl, ?hy⟩) (by assumption) ?_
              case hy => (intro wz hSw; (try dsimp only at hSw); go_simp)
              simp only [Act.put, List.setIfInBounds_toArray, List.set_cons_zero, List.set_cons_succ]
              refine wpAnyH_take (i := 17) (oi := { dst := some 228, op := Op.move (Operand.tmp 19), type := 25, pos := "law.go:99", after := #[{ on := 16, ground := Ground.guard }], guard := some (16, false) }) (v := Value.iface 60 (Value.pointer (some { block := b, off := 0 }))) rfl (by kernel_rfl) (by kernel_rfl) (by kernel_rfl) (fun _ _ _ h => h) (Or.inl ⟨by rfl, ?hy⟩) (by assumption) ?_
              case hy => (intro wz hSw; (try dsimp only at hSw); go_simp)
              simp only [Act.put, List.setIfInBounds_toArray, List.set_cons_zero, List.set_cons_succ]
              refine wpAnyH_ready (rs := [18]) (by kernel_rfl) (by simp) ?_
              refine AllReadyH.cons (o := { dst := some 229, op := Op.call { callee := Callee.value (Operand.func 12), args := #[Operand.tmp 228], argTypes := #[25] }, type := 3, pos := "law.go:99", after := #[{ on := 17, ground := Ground.data }, { on := 16, ground := Ground.chain }, { on := 16, ground := Ground.guard }], guard := some (16, false) }) rfl (fun K hK => ?_) AllReadyH.nil
              go_simp
              go_at_call 12
              refine (lk.num hAt).mono ?_
              rintro e wB ⟨rfl, hAt, lk⟩
              go_wp2_with fail
              refine hK.out _ _ ⟨lk.c0, lk.c1, lk.c2⟩ (fun hHeld => ?_)
              clear hK K
              try simp only [Act.put, List.setIfInBounds_toArray, List.set_cons_zero, List.set_cons_succ]
              refine wpAnyH_take (i := 19) (oi := { dst := some 230, op := Op.binOp BinOp.neq 3 (Operand.tmp 229) (Operand.const (Value.int IntKind.i64 20)) 3, type := 4, pos := "law.go:99", after := #[{ on := 18, ground := Ground.data }, { on := 16, ground := Ground.guard }], guard := some (16, false) }) (v := Value.bool false) rfl (by kernel_rfl) (by kernel_rfl) (by kernel_rfl) (fun _ _ _ h => h) (Or.inl ⟨by rfl, ?hy⟩) (by assumption) ?_
              case hy => (intro wz hSw; (try dsimp only at hSw); go_simp)
              simp only [Act.put, List.setIfInBounds_toArray, List.set_cons_zero, List.set_cons_succ]
              refine wpAnyH_take (i := 20) (oi := { dst := some 231, op := Op.pick (Operand.tmp 227) (Operand.const (Value.bool true)) (Operand.tmp 230), type := 4, pos := "law.go:99", after := #[{ on := 16, ground := Ground.data }, { on := 19, ground := Ground.data }, { on := 13, ground := Ground.guard }], guard := some (13, true) }) (v := Value.bool false) rfl (by kernel_rfl) (by kernel_rfl) (by kernel_rfl) (fun _ _ _ h => h) (Or.inl ⟨by rfl, ?hy⟩) (by assumption) ?_
              case hy => (intro wz hSw; (try dsimp only at hSw); go_simp)
              simp only [Act.put, List.setIfInBounds_toArray, List.set_cons_zero, List.set_cons_succ]
              refine wpAnyH_take (i := 21) (oi := { dst := some 232, op := Op.move (Operand.tmp 231), type := 4, pos := "law.go:99", after := #[{ on := 20, ground := Ground.data }, { on := 18, ground := Ground.chain }, { on := 13, ground := Ground.guard }], guard := some (13, true) }) (v := Value.bool false) rfl (by kernel_rfl) (by kernel_rfl) (by kernel_rfl) (fun _ _ _ h => h) (Or.inl ⟨by rfl, ?hy⟩) (by assumption) ?_
              case hy => (intro wz hSw; (try dsimp only at hSw); go_simp)
              simp only [Act.put, List.setIfInBounds_toArray, List.set_cons_zero, List.set_cons_succ]
              refine wpAnyH_take (i := 22) (oi := { dst := some 233, op := Op.move (Operand.tmp 19), type := 25, pos := "law.go:99", after := #[{ on := 21, ground := Ground.guard }], guard := some (21, false) }) (v := Value.iface 60 (Value.pointer (some { block := b, off := 0 }))) rfl (by kernel_rfl) (by kernel_rfl) (by kernel_rfl) (fun _ _ _ h => h) (Or.inl ⟨by rfl, ?hy⟩) (by assumption) ?_
              case hy => (intro wz hSw; (try dsimp only at hSw); go_simp)
              simp only [Act.put, List.setIfInBounds_toArray, List.set_cons_zero, List.set_cons_succ]
              refine wpAnyH_take (i := 24) (oi := { dst := some 235, op := Op.fieldAddr 33 (Operand.tmp 12) 2, type := 0, pos := "law.go:99", after := #[{ on := 21, ground := Ground.guard }], guard := some (21, false) }) (v := Value.pointer (some { block := tb, off := 2 })) rfl (by kernel_rfl) (by kernel_rfl) (by kernel_rfl) (fun _ _ _ h => h) (Or.inl ⟨by rfl, ?hy⟩) (by assumption) ?_
              case hy => (intro wz hSw; (try dsimp only at hSw); go_simp)
              simp only [Act.put, List.setIfInBounds_toArray, List.set_cons_zero, List.set_cons_succ]
              refine wpAnyH_take (i := 25) (oi := { dst := some 236, op := Op.load 3 (Operand.tmp 235), type := 3, pos := "law.go:99", after := #[{ on := 24, ground := Ground.data }, { on := 21, ground := Ground.guard }], guard := some (21, false) }) (v := Value.int IntKind.i64 ↑t.pos) rfl (by kernel_rfl) (by kernel_rfl) (by kernel_rfl) (fun _ _ _ h => h) (Or.inl ⟨by rfl, ?hy⟩) (by assumption) ?_
              case hy => (intro wz hSw; (try dsimp only at hSw); go_simp)
              simp only [Act.put, List.setIfInBounds_toArray, List.set_cons_zero, List.set_cons_succ]
              refine wpAnyH_ready (rs := [23]) (by kernel_rfl) (by simp) ?_
              refine AllReadyH.cons (o := { dst := some 234, op := Op.call { callee := Callee.value (Operand.func 13), args := #[Operand.tmp 233], argTypes := #[25] }, type := 3, pos := "law.go:99", after := #[{ on := 22, ground := Ground.data }, { on := 21, ground := Ground.chain }, { on := 21, ground := Ground.guard }], guard := some (21, false) }) rfl (fun K hK => ?_) AllReadyH.nil
              go_simp
              go_at_call 13
              refine (lk.pos_ hAt).mono ?_
              rintro e wC ⟨rfl, hAt, lk⟩
              go_wp2_with fail
              refine hK.out _ _ ⟨lk.c0, lk.c1, lk.c2⟩ (fun hHeld => ?_)
              clear hK K
              try simp only [Act.put, List.setIfInBounds_toArray, List.set_cons_zero, List.set_cons_succ]
              refine wpAnyH_take (i := 26) (oi := { dst := some 237, op := Op.binOp BinOp.neq 3 (Operand.tmp 234) (Operand.tmp 236) 3, type := 4, pos := "law.go:99", after := #[{ on := 23, ground := Ground.data }, { on := 25, ground := Ground.data }, { on := 21, ground := Ground.guard }], guard := some (21, false) }) (v := Value.bool false) rfl (by kernel_rfl) (by kernel_rfl) (by kernel_rfl) (fun _ _ _ h => h) (Or.inl ⟨by rfl, ?hy⟩) (by assumption) ?_
              case hy => (intro wz hSw; (try dsimp only at hSw); go_simp)
              simp only [Act.put, List.setIfInBounds_toArray, List.set_cons_zero, List.set_cons_succ]
              refine wpAnyH_take (i := 27) (oi := { dst := some 238, op := Op.pick (Operand.tmp 232) (Operand.const (Value.bool true)) (Operand.tmp 237), type := 4, pos := "law.go:99", after := #[{ on := 21, ground := Ground.data }, { on := 26, ground := Ground.data }, { on := 13, ground := Ground.guard }], guard := some (13, true) }) (v := Value.bool false) rfl (by kernel_rfl) (by kernel_rfl) (by kernel_rfl) (fun _ _ _ h => h) (Or.inl ⟨by rfl, ?hy⟩) (by assumption) ?_
              case hy => (intro wz hSw; (try dsimp only at hSw); go_simp)
              simp only [Act.put, List.setIfInBounds_toArray, List.set_cons_zero, List.set_cons_succ]
              refine wpAnyH_take (i := 28) (oi := { dst := some 239, op := Op.pick (Operand.tmp 224) (Operand.tmp 238) (Operand.const (Value.bool false)), type := 4, pos := "law.go:99", after := #[{ on := 13, ground := Ground.data }, { on := 27, ground := Ground.data }, { on := 10, ground := Ground.guard }], guard := some (10, false) }) (v := Value.bool false) rfl (by kernel_rfl) (by kernel_rfl) (by kernel_rfl) (fun _ _ _ h => h) (Or.inl ⟨by rfl, ?hy⟩) (by assumption) ?_
              case hy => (intro wz hSw; (try dsimp only at hSw); go_simp)
              simp only [Act.put, List.setIfInBounds_toArray, List.set_cons_zero, List.set_cons_succ]
              refine wpAnyH_take (i := 29) (oi := { dst := some 240, op := Op.pick (Operand.tmp 221) (Operand.const (Value.bool true)) (Operand.tmp 239), type := 4, pos := "law.go:99", after := #[{ on := 10, ground := Ground.data }, { on := 28, ground := Ground.data }], guard := none }) (v := Value.bool false) rfl (by kernel_rfl) (by kernel_rfl) (by kernel_rfl) (fun _ _ _ h => h) (Or.inl ⟨by rfl, ?hy⟩) (by assumption) ?_
              case hy => (intro wz hSw; (try dsimp only at hSw); go_simp)
              simp only [Act.put, List.setIfInBounds_toArray, List.set_cons_zero, List.set_cons_succ]
              refine wpAnyH_done (by kernel_rfl) ?_ _
              refine NoPanic.normal ?_
              all_goals go_wp2
              all_goals
                go_roundw
                case rel => exact ⟨k, j + 1, rfl, by go_num, by omega, hk, lk.rd, lk.own, lk.glob, lk.bel⟩
                case measure => simp [intOf]; omega
        have q0 : (A == 0) = false := by rw [beq_eq_false_iff_ne]; omega
        have q1 : (A == 1) = false := by rw [beq_eq_false_iff_ne]; omega
        have q2 : (A == 2) = false := by rw [beq_eq_false_iff_ne]; omega
        have q3 : (A == 3) = false := by rw [beq_eq_false_iff_ne]; omega
        have q4 : (A == 4) = false := by rw [beq_eq_false_iff_ne]; omega
        have q5 : (A == 5) = false := by rw [beq_eq_false_iff_ne]; omega
        have lk := LK.out
        go_wp2
        go_roundw
        case rel => exact ⟨k, j + 1, rfl, by go_num, by omega, hk, lk.rd, lk.own, lk.glob, lk.bel⟩
        case measure => simp [intOf]; omega
    · have hd1 : decide (j < na) = false := by simpa using hlt
      clear hR ho hGr
      go_wp2
      go_ret
      exact ⟨rfl, hbr⟩
end Go.Proofs.YtfemddchaihokaaDoor
