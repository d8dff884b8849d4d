/-
  ModelCuts, walked.
-/
import Derived.Test.YtddeplbgihcdkaaGreatDoorVV
import Derived.Deep.RegionHeld3
namespace Go.Proofs.YtddeplbgihcdkaaGreatDoor
open Go.RowKit Go.Sort

theorem good_lenC (l : List UInt8) : ∀ (ts : List Tok) (i : Nat), Good l i ts → ts.length + i ≤ l.length + 1
  | [], _, h => h.elim
  | [t], i, h => by
    obtain ⟨_, _, h1, h2⟩ := h
    simp only [List.length_cons, List.length_nil]
    omega
  | t :: u :: us, i, h => by
    obtain ⟨h1, h2, ⟨n, hm, _, hg⟩, _⟩ := h
    have h3 := good_lenC l (u :: us) _ hg
    have h4 := (meas_kinds (by intro h0; have := congrArg List.length h0; simp at this; omega) hm).2.1
    simp only [List.length_cons] at h3 ⊢
    omega
theorem mdlF_cntC (D : Nat) : ∀ (f : Nat) (m : MdlO) (st : St), (mdlF D f m st).1.cnt + (mdlF D f m st).2.len ≤ m.cnt + st.len
  | 0, m, st => by simp [mdlF]
  | f + 1, m, st => by
    simp only [mdlF]
    split
    · exact Nat.le_refl _
    · have h1 := items_cnt D m st
      have h2 := mdlF_cntC D f (st.items D m).1 (st.items D m).2
      omega
theorem parse_cntC {D : Nat} {l : List UInt8} {m : MdlO} (h : parseM D l = .ok m) : m.cnt ≤ l.length := by
  obtain ⟨t, us, r, h1, _, h3⟩ := parse_mdl h
  have h4 := good_lenC l _ 0 (good_toks h1)
  have h5 := mdlF_cntC D (St.good us).len mdl0 (St.good us)
  rw [show mdlF D (St.good us).len mdl0 (St.good us) = (m, .good r) from h3] at h5
  have h6 : mdl0.cnt = 0 := rfl
  have h7 : (St.good us).len = us.length := rfl
  simp only [List.length_cons] at h4
  simp only at h5
  omega
theorem u16_wf {n : Int} (h : (Lit.int .u16 n).wf = true) : 0 ≤ n ∧ n ≤ 65535 := by
  have e1 : IntKind.min .u16 = 0 := by decide
  have e2 : IntKind.max .u16 = 65535 := by decide
  simp only [Lit.wf, Bool.and_eq_true, decide_eq_true_eq] at h
  omega
theorem ext_take (s : ByteArray) (k : Nat) : (s.extract 0 k).data.toList = s.data.toList.take k := by rw [ext_list]; rfl
set_option maxHeartbeats 4000000 in
set_option maxRecDepth 100000 in
theorem mcuts_long (s : ByteArray) (k : Int) (w : World) (hG : GlobT w) (hs : s.size ≤ 140737488355328) (h : 2000 < s.size ∨ s.size = 0) : Calls Tryz.prog 9 #[.string s, .int .u16 k] w (LawF w) := by
  have H0 := Lib.hid (malive_yes w hG)
  by_cases h1 : 2000 < s.size
  · have g1 : decide (2000 < (s.size : Int)) = true := by simp; omega
    clear h hG h1
    go_enter Tryz.func9, Tryz.ntmps9
    go_wp2_with fail
    with_reducible refine (H0.out).mono ?_
    rintro e w1 ⟨rfl, hb1⟩
    go_wp2
    go_ret
    exact ⟨rfl, hb1⟩
  · have g1 : decide (2000 < (s.size : Int)) = false := by simp; omega
    have g2 : ((s.size : Int) == 0) = true := by rw [beq_iff_eq]; omega
    clear h hG h1
    go_enter Tryz.func9, Tryz.ntmps9
    go_wp2_with fail
    with_reducible refine (H0.out).mono ?_
    rintro e w1 ⟨rfl, hb1⟩
    go_wp2
    go_ret
    exact ⟨rfl, hb1⟩
/-- What the last test of a text that can't be read sees. -/
structure Mem9 (w W : World) (eb bx q c : Nat) : Prop where
  a : AtE W eb (q : Int) (c : Int)
  x : Bx W bx 81 [.slice none 0 0, .slice none 0 0, .slice none 0 0, .slice none 0 0]
  g : GlobT W
  b : Below w.heap.size w W
section
variable {w W W' : World} {eb bx q c : Nat}
theorem Mem9.below (h : Mem9 w W eb bx q c) (hb : Below W.heap.size W W') : Mem9 w W' eb bx q c := ⟨h.a.below hb, h.x.below hb, h.g.below hb, h.b.trans (hb.mono h.b.size)⟩
theorem Mem9.drew (h : Mem9 w W eb bx q c) : Mem9 w W.drew eb bx q c := h.below (Below.refl _ _).drew
theorem Mem9.get (h : Mem9 w W eb bx q c) : (fun w' : World => w'.cell? ⟨bx, 0, none⟩ = some (.slice none 0 0) ∧ w'.cell? ⟨bx, 1, none⟩ = some (.slice none 0 0) ∧ w'.cell? ⟨bx, 2, none⟩ = some (.slice none 0 0) ∧ w'.cell? ⟨bx, 3, none⟩ = some (.slice none 0 0)) W := ⟨h.x.cell 0, h.x.cell 1, h.x.cell 2, h.x.cell 3⟩
theorem Mem9.pos (h : Mem9 w W eb bx q c) : Calls Tryz.prog 17 #[.iface 116 (.pointer (some ⟨eb, 0, none⟩))] W fun e w' => e = .returned (.int .i64 (q : Int)) ∧ Mem9 w w' eb bx q c :=
  (pos_at eb _ _ W h.g.s.glob h.a).mono fun _ _ ⟨h1, h2⟩ => ⟨h1, h.below h2⟩
end
set_option maxHeartbeats 4000000 in
set_option maxRecDepth 100000 in
theorem mcuts_go (s : ByteArray) (k : Int) (w : World) (hG : GlobT w) (hk0 : 0 ≤ k) (hk1 : k ≤ 65535) (h : s.size ≤ 2000) (h0 : 0 < s.size) : Calls Tryz.prog 9 #[.string s, .int .u16 k] w (LawF w) := by
  have H0 := Lib.hid (malive_yes w hG)
  have g1 : decide (2000 < (s.size : Int)) = false := by simp; omega
  have g2 : ((s.size : Int) == 0) = false := by rw [beq_eq_false_iff_ne]; omega
  have g3 : ¬ ((s.size : Int) = 0) := by omega
  have g4 : ¬ (s.size = 0) := by omega
  obtain ⟨K, hi, hK⟩ : ∃ K : Nat, k.tmod (s.size : Int) = (K : Int) ∧ K < s.size := by
    have e1 := Int.emod_nonneg k (b := (s.size : Int)) (by omega)
    have e2 := Int.emod_lt_of_pos k (b := (s.size : Int)) (by omega)
    exact ⟨(k % (s.size : Int)).toNat, by rw [Int.tmod_eq_emod_of_nonneg hk0]; omega, by omega⟩
  have HPA := Lib.hid (fun (W : World) (hW : GlobT W) => mparse_any (s := s) (D := 64) W hW.s (by omega) (by decide) (by decide))
  have HPB := Lib.hid (fun (W : World) (hW : GlobT W) => mparse_any (s := s.extract 0 K) (D := 64) W hW.s (by simp only [ByteArray.size_extract]; omega) (by decide) (by decide))
  rw [ext_take] at HPB
  have HG := Lib.hid hG
  have HKL := Lib.hid (show K ≤ s.data.toList.length by rw [size_list]; omega)
  have HSL := Lib.hid (show s.data.toList.length ≤ 2000 by rw [size_list]; omega)
  clear hG
  go_enter Tryz.func9, Tryz.ntmps9
  go_wp2_with fail
  with_reducible refine (H0.out).mono ?_
  rintro e w1 ⟨rfl, hb1⟩
  have HB1 := Lib.hid hb1
  clear hb1
  go_wp2_with fail
  refine (HPA.out w1 (HG.out.below HB1.out)).mono ?_
  intro e w8 hqa
  cases hpa : parseM 64 s.data.toList with
  | er ca qa =>
    rw [hpa] at hqa
    obtain ⟨ea, rfl, _, hb8⟩ := hqa
    have HB8 := Lib.hid (HB1.out.trans (hb8.mono HB1.out.size))
    clear hb8 hpa HB1
    go_wp2
    go_ret
    exact ⟨rfl, HB8.out.alloc HB8.out.size _⟩
  | ok ma =>
    rw [hpa] at hqa
    obtain ⟨va, rfl, _, hb8⟩ := hqa
    have HB8 := Lib.hid (HB1.out.trans (hb8.mono HB1.out.size))
    have HCA := Lib.hid (parse_cntC hpa)
    have HCT := Lib.hid (cut_text (D := 64) (by decide) hpa HKL.out)
    clear hb8 hpa HB1
    dsimp only [MdV.v1, MdV.v2, MdV.v3, MdV.v4]
    go_wp2_with fail
    refine calls_gen (P := fun W => Bx W w8.heap.size 81 [.slice va.A1 ma.consts.length va.c1, .slice va.A2 ma.formulas.length va.c2, .slice va.A3 ma.labels.length va.c3, .slice va.A4 ma.mods.length va.c4] ∧ Below w.heap.size w W) ⟨Bx.new _ _ _, HB8.out.alloc HB8.out.size _⟩ ?_
    rintro W ⟨hBa, hB⟩
    refine (HPB.out W (HG.out.below hB)).mono ?_
    intro e w9 hqb
    rcases HCT.out with ⟨c, q, hpb, hc, hq⟩ | ⟨mb, hpb, hv⟩
    · rw [hpb] at hqb
      obtain ⟨eb, rfl, hA, hb9⟩ := hqb
      have HB9 := Lib.hid (hB.trans (hb9.mono hB.size))
      have HA := Lib.hid hA
      have p1 : decide ((0 : Int) ≤ (q : Int)) = true := by simp
      have p2 : decide ((q : Int) ≤ (K : Int)) = true := by simp; omega
      have p3 : decide (q ≤ K) = true := by simp; omega
      obtain ⟨c1, hc1⟩ : ∃ v, ((c : Int) == 20) = v := ⟨_, rfl⟩
      obtain ⟨c2, hc2⟩ : ∃ v, ((c : Int) == 33) = v := ⟨_, rfl⟩
      have hcc : (c1 || c2) = true := by
        rw [← hc1, ← hc2]
        rcases hc with rfl | rfl <;> decide
      clear hpb hB hb9 hBa hA hq hc HCT
      rcases c1 with _ | _ <;> rcases c2 with _ | _ <;> first | (exfalso; revert hcc; decide) | skip
      all_goals
        clear hcc
        go_wp2_with fail
        refine calls_gen (P := fun W => AtE W eb (q : Int) (c : Int) ∧ Bx W w9.heap.size 81 [.slice none 0 0, .slice none 0 0, .slice none 0 0, .slice none 0 0] ∧ Below w.heap.size w W) ⟨HA.out.alloc _, Bx.new _ _ _, HB9.out.alloc HB9.out.size _⟩ ?_
        rintro W2 ⟨hA, hBx, hB⟩
        refine (num_at eb _ _ W2 (HG.out.below hB).s.glob hA).mono ?_
        rintro e w10 ⟨rfl, hb10⟩
        have HA10 := Lib.hid (hA.below hb10)
        have HX10 := Lib.hid (hBx.below hb10)
        have HB10 := Lib.hid (hB.trans (hb10.mono hB.size))
        clear hA hBx hB hb10
        have lk : Mem9 w w10 eb w9.heap.size q c := ⟨HA10.out, HX10.out, HG.out.below HB10.out, HB10.out⟩
        clear HA10 HX10 HB10 HA HB9
        go_wp2_with fail
        generalize w9.heap.size = bx at lk ⊢
        replace lk := lk.drew
        have hwk : IntKind.i64.wrap k = k := IntWalk.i64_in _ (by omega)
      · go_region_held3 (fun w' => w'.cell? ⟨bx, 0, none⟩ = some (.slice none 0 0) ∧ w'.cell? ⟨bx, 1, none⟩ = some (.slice none 0 0) ∧ w'.cell? ⟨bx, 2, none⟩ = some (.slice none 0 0) ∧ w'.cell? ⟨bx, 3, none⟩ = some (.slice none 0 0)) (exact lk.get) (first
            | (go_at_call 17; (with_reducible refine (lk.pos).mono ?_); rintro e wA ⟨rfl, lk2⟩; replace lk := lk2; clear lk2))
        go_wp2
        go_ret
        exact ⟨rfl, lk.b⟩
      all_goals
        -- HELD
        refine wp_region_held_drew (S := (fun w' => w'.cell? ⟨bx, 0, none⟩ = some (.slice none 0 0) ∧ w'.cell? ⟨bx, 1, none⟩ = some (.slice none 0 0) ∧ w'.cell? ⟨bx, 2, none⟩ = some (.slice none 0 0) ∧ w'.cell? ⟨bx, 3, none⟩ = some (.slice none 0 0))) (by kernel_rfl) lk.get (fun hHeld => ?_)
        refine wpAnyH_take (i := 0) (oi := { dst := some 42, op := Op.move (Operand.tmp 9), type := 3, pos := "law.go:107", after := #[], guard := none }) (v := Value.int IntKind.i64 (c : Int)) rfl (by kernel_rfl) (by kernel_rfl) (by kernel_rfl) (fun _ _ _ h => h) (Or.inl ⟨by rfl, ?hy⟩) (by assumption) ?_
        case hy => (intro wz hSw; (try dsimp only at hSw); go_simp)
        simp only [Act.put, List.setIfInBounds_toArray, List.set_cons_zero, List.set_cons_succ]
        refine wpAnyH_take (i := 1) (oi := { dst := some 43, op := Op.binOp BinOp.eql 3 (Operand.tmp 42) (Operand.const (Value.int IntKind.i64 20)) 3, type := 4, pos := "law.go:107", after := #[{ on := 0, ground := Ground.data }], guard := none }) (v := Value.bool true) rfl (by kernel_rfl) (by kernel_rfl) (by kernel_rfl) (fun _ _ _ h => h) (Or.inl ⟨by rfl, ?hy⟩) (by assumption) ?_
        case hy => (intro wz hSw; (try dsimp only at hSw); go_simp)
        simp only [Act.put, List.setIfInBounds_toArray, List.set_cons_zero, List.set_cons_succ]
        refine wpAnyH_take (i := 2) (oi := { dst := some 44, op := Op.move (Operand.tmp 43), type := 4, pos := "law.go:107", after := #[{ on := 1, ground := Ground.data }], guard := none }) (v := Value.bool true) rfl (by kernel_rfl) (by kernel_rfl) (by kernel_rfl) (fun _ _ _ h => h) (Or.inl ⟨by rfl, ?hy⟩) (by assumption) ?_
        case hy => (intro wz hSw; (try dsimp only at hSw); go_simp)
        simp only [Act.put, List.setIfInBounds_toArray, List.set_cons_zero, List.set_cons_succ]
        refine wpAnyH_take (i := 3) (oi := { dst := some 45, op := Op.move (Operand.tmp 9), type := 3, pos := "law.go:107", after := #[{ on := 2, ground := Ground.guard }], guard := some (2, false) }) (v := undef) rfl (by kernel_rfl) (by kernel_rfl) (by kernel_rfl) (fun _ _ _ h => h) (Or.inr ⟨by rfl, rfl⟩) (by assumption) ?_
        simp only [Act.put, List.setIfInBounds_toArray, List.set_cons_zero, List.set_cons_succ]
        refine wpAnyH_take (i := 4) (oi := { dst := some 46, op := Op.binOp BinOp.eql 3 (Operand.tmp 45) (Operand.const (Value.int IntKind.i64 33)) 3, type := 4, pos := "law.go:107", after := #[{ on := 3, ground := Ground.data }, { on := 2, ground := Ground.guard }], guard := some (2, false) }) (v := undef) rfl (by kernel_rfl) (by kernel_rfl) (by kernel_rfl) (fun _ _ _ h => h) (Or.inr ⟨by rfl, rfl⟩) (by assumption) ?_
        simp only [Act.put, List.setIfInBounds_toArray, List.set_cons_zero, List.set_cons_succ]
        refine wpAnyH_take (i := 5) (oi := { dst := some 47, op := Op.pick (Operand.tmp 44) (Operand.const (Value.bool true)) (Operand.tmp 46), type := 4, pos := "law.go:107", after := #[{ on := 2, ground := Ground.data }, { on := 4, ground := Ground.data }], guard := none }) (v := Value.bool true) rfl (by kernel_rfl) (by kernel_rfl) (by kernel_rfl) (fun _ _ _ h => h) (Or.inl ⟨by rfl, ?hy⟩) (by assumption) ?_
        case hy => (intro wz hSw; (try dsimp only at hSw); go_simp)
        simp only [Act.put, List.setIfInBounds_toArray, List.set_cons_zero, List.set_cons_succ]
        refine wpAnyH_take (i := 6) (oi := { dst := some 48, op := Op.move (Operand.tmp 47), type := 4, pos := "law.go:107", after := #[{ on := 5, ground := Ground.data }, { on := 2, ground := Ground.chain }], guard := none }) (v := Value.bool true) rfl (by kernel_rfl) (by kernel_rfl) (by kernel_rfl) (fun _ _ _ h => h) (Or.inl ⟨by rfl, ?hy⟩) (by assumption) ?_
        case hy => (intro wz hSw; (try dsimp only at hSw); go_simp)
        simp only [Act.put, List.setIfInBounds_toArray, List.set_cons_zero, List.set_cons_succ]
        refine wpAnyH_take (i := 7) (oi := { dst := some 49, op := Op.move (Operand.tmp 8), type := 27, pos := "law.go:107", after := #[{ on := 6, ground := Ground.guard }], guard := some (6, true) }) (v := Value.iface 116 (Value.pointer (some { block := eb, off := 0 }))) rfl (by kernel_rfl) (by kernel_rfl) (by kernel_rfl) (fun _ _ _ h => h) (Or.inl ⟨by rfl, ?hy⟩) (by assumption) ?_
        case hy => (intro wz hSw; (try dsimp only at hSw); go_simp)
        simp only [Act.put, List.setIfInBounds_toArray, List.set_cons_zero, List.set_cons_succ]
        refine wpAnyH_ready (rs := [8]) (by kernel_rfl) (by simp) ?_
        refine AllReadyH.cons (o := { dst := some 50, op := Op.call { callee := Callee.value (Operand.func 17), args := #[Operand.tmp 49], argTypes := #[27] }, type := 3, pos := "law.go:107", after := #[{ on := 7, ground := Ground.data }, { on := 6, ground := Ground.chain }, { on := 6, ground := Ground.guard }], guard := some (6, true) }) rfl (fun K0 hK0 => ?_) AllReadyH.nil
        go_simp
        go_at_call 17
        with_reducible refine (lk.pos).mono ?_
        rintro e wA ⟨rfl, lk2⟩
        replace lk := lk2
        clear lk2
        go_wp2_with fail
        refine hK0.out _ _ lk.get (fun hHeld => ?_)
        clear hK0 K0
        try simp only [Act.put, List.setIfInBounds_toArray, List.set_cons_zero, List.set_cons_succ]
        refine wpAnyH_take (i := 9) (oi := { dst := some 51, op := Op.binOp BinOp.geq 3 (Operand.tmp 50) (Operand.const (Value.int IntKind.i64 0)) 3, type := 4, pos := "law.go:107", after := #[{ on := 8, ground := Ground.data }, { on := 6, ground := Ground.guard }], guard := some (6, true) }) (v := Value.bool true) rfl (by kernel_rfl) (by kernel_rfl) (by kernel_rfl) (fun _ _ _ h => h) (Or.inl ⟨by rfl, ?hy⟩) (by assumption) ?_
        case hy => (intro wz hSw; (try dsimp only at hSw); go_simp)
        simp only [Act.put, List.setIfInBounds_toArray, List.set_cons_zero, List.set_cons_succ]
        refine wpAnyH_take (i := 10) (oi := { dst := some 52, op := Op.pick (Operand.tmp 48) (Operand.tmp 51) (Operand.const (Value.bool false)), type := 4, pos := "law.go:107", after := #[{ on := 6, ground := Ground.data }, { on := 9, ground := Ground.data }], guard := none }) (v := Value.bool true) rfl (by kernel_rfl) (by kernel_rfl) (by kernel_rfl) (fun _ _ _ h => h) (Or.inl ⟨by rfl, ?hy⟩) (by assumption) ?_
        case hy => (intro wz hSw; (try dsimp only at hSw); go_simp)
        simp only [Act.put, List.setIfInBounds_toArray, List.set_cons_zero, List.set_cons_succ]
        refine wpAnyH_take (i := 11) (oi := { dst := some 53, op := Op.move (Operand.tmp 52), type := 4, pos := "law.go:107", after := #[{ on := 10, ground := Ground.data }, { on := 8, ground := Ground.chain }], guard := none }) (v := Value.bool true) rfl (by kernel_rfl) (by kernel_rfl) (by kernel_rfl) (fun _ _ _ h => h) (Or.inl ⟨by rfl, ?hy⟩) (by assumption) ?_
        case hy => (intro wz hSw; (try dsimp only at hSw); go_simp)
        simp only [Act.put, List.setIfInBounds_toArray, List.set_cons_zero, List.set_cons_succ]
        refine wpAnyH_take (i := 12) (oi := { dst := some 54, op := Op.move (Operand.tmp 8), type := 27, pos := "law.go:107", after := #[{ on := 11, ground := Ground.guard }], guard := some (11, true) }) (v := Value.iface 116 (Value.pointer (some { block := eb, off := 0 }))) rfl (by kernel_rfl) (by kernel_rfl) (by kernel_rfl) (fun _ _ _ h => h) (Or.inl ⟨by rfl, ?hy⟩) (by assumption) ?_
        case hy => (intro wz hSw; (try dsimp only at hSw); go_simp)
        simp only [Act.put, List.setIfInBounds_toArray, List.set_cons_zero, List.set_cons_succ]
        refine wpAnyH_take (i := 14) (oi := { dst := some 56, op := Op.move (Operand.tmp 1), type := 77, pos := "law.go:107", after := #[{ on := 11, ground := Ground.guard }], guard := some (11, true) }) (v := Value.int IntKind.u16 k) rfl (by kernel_rfl) (by kernel_rfl) (by kernel_rfl) (fun _ _ _ h => h) (Or.inl ⟨by rfl, ?hy⟩) (by assumption) ?_
        case hy => (intro wz hSw; (try dsimp only at hSw); go_simp)
        simp only [Act.put, List.setIfInBounds_toArray, List.set_cons_zero, List.set_cons_succ]
        refine wpAnyH_take (i := 15) (oi := { dst := some 57, op := Op.convert 77 3 (Operand.tmp 56), type := 3, pos := "law.go:107", after := #[{ on := 14, ground := Ground.data }, { on := 11, ground := Ground.guard }], guard := some (11, true) }) (v := Value.int IntKind.i64 k) rfl (by kernel_rfl) (by kernel_rfl) (by kernel_rfl) (fun _ _ _ h => h) (Or.inl ⟨by rfl, ?hy⟩) (by assumption) ?_
        case hy => (intro wz hSw; (try dsimp only at hSw); go_simp)
        simp only [Act.put, List.setIfInBounds_toArray, List.set_cons_zero, List.set_cons_succ]
        refine wpAnyH_take (i := 16) (oi := { dst := some 58, op := Op.move (Operand.tmp 0), type := 9, pos := "law.go:107", after := #[{ on := 11, ground := Ground.guard }], guard := some (11, true) }) (v := Value.string s) rfl (by kernel_rfl) (by kernel_rfl) (by kernel_rfl) (fun _ _ _ h => h) (Or.inl ⟨by rfl, ?hy⟩) (by assumption) ?_
        case hy => (intro wz hSw; (try dsimp only at hSw); go_simp)
        simp only [Act.put, List.setIfInBounds_toArray, List.set_cons_zero, List.set_cons_succ]
        refine wpAnyH_take (i := 17) (oi := { dst := some 59, op := Op.call { callee := Callee.builtin Builtin.len, args := #[Operand.tmp 58], argTypes := #[9] }, type := 3, pos := "law.go:107", after := #[{ on := 16, ground := Ground.data }, { on := 11, ground := Ground.guard }], guard := some (11, true) }) (v := Value.int IntKind.i64 (s.size : Int)) rfl (by kernel_rfl) (by kernel_rfl) (by kernel_rfl) (fun _ _ _ h => h) (Or.inl ⟨by rfl, ?hy⟩) (by assumption) ?_
        case hy => (intro wz hSw; (try dsimp only at hSw); go_simp)
        simp only [Act.put, List.setIfInBounds_toArray, List.set_cons_zero, List.set_cons_succ]
        refine wpAnyH_take (i := 18) (oi := { dst := some 60, op := Op.binOp BinOp.rem 3 (Operand.tmp 57) (Operand.tmp 59) 3, type := 3, pos := "law.go:107", after := #[{ on := 15, ground := Ground.data }, { on := 17, ground := Ground.data }, { on := 11, ground := Ground.guard }], guard := some (11, true) }) (v := Value.int IntKind.i64 (K : Int)) rfl (by kernel_rfl) (by kernel_rfl) (by kernel_rfl) (fun _ _ _ h => h) (Or.inl ⟨by rfl, ?hy⟩) (by assumption) ?_
        case hy => (intro wz hSw; (try dsimp only at hSw); go_simp)
        simp only [Act.put, List.setIfInBounds_toArray, List.set_cons_zero, List.set_cons_succ]
        refine wpAnyH_ready (rs := [13]) (by kernel_rfl) (by simp) ?_
        refine AllReadyH.cons (o := { dst := some 55, op := Op.call { callee := Callee.value (Operand.func 17), args := #[Operand.tmp 54], argTypes := #[27] }, type := 3, pos := "law.go:107", after := #[{ on := 12, ground := Ground.data }, { on := 11, ground := Ground.chain }, { on := 11, ground := Ground.guard }], guard := some (11, true) }) rfl (fun K0 hK0 => ?_) AllReadyH.nil
        go_simp
        go_at_call 17
        with_reducible refine (lk.pos).mono ?_
        rintro e wA ⟨rfl, lk2⟩
        replace lk := lk2
        clear lk2
        go_wp2_with fail
        refine hK0.out _ _ lk.get (fun hHeld => ?_)
        clear hK0 K0
        try simp only [Act.put, List.setIfInBounds_toArray, List.set_cons_zero, List.set_cons_succ]
        refine wpAnyH_take (i := 19) (oi := { dst := some 61, op := Op.binOp BinOp.leq 3 (Operand.tmp 55) (Operand.tmp 60) 3, type := 4, pos := "law.go:107", after := #[{ on := 13, ground := Ground.data }, { on := 18, ground := Ground.data }, { on := 11, ground := Ground.guard }], guard := some (11, true) }) (v := Value.bool true) rfl (by kernel_rfl) (by kernel_rfl) (by kernel_rfl) (fun _ _ _ h => h) (Or.inl ⟨by rfl, ?hy⟩) (by assumption) ?_
        case hy => (intro wz hSw; (try dsimp only at hSw); go_simp)
        simp only [Act.put, List.setIfInBounds_toArray, List.set_cons_zero, List.set_cons_succ]
        refine wpAnyH_take (i := 20) (oi := { dst := some 62, op := Op.pick (Operand.tmp 53) (Operand.tmp 61) (Operand.const (Value.bool false)), type := 4, pos := "law.go:107", after := #[{ on := 11, ground := Ground.data }, { on := 19, ground := Ground.data }], guard := none }) (v := Value.bool true) rfl (by kernel_rfl) (by kernel_rfl) (by kernel_rfl) (fun _ _ _ h => h) (Or.inl ⟨by rfl, ?hy⟩) (by assumption) ?_
        case hy => (intro wz hSw; (try dsimp only at hSw); go_simp)
        simp only [Act.put, List.setIfInBounds_toArray, List.set_cons_zero, List.set_cons_succ]
        refine wpAnyH_take (i := 21) (oi := { dst := some 63, op := Op.move (Operand.tmp 62), type := 4, pos := "law.go:107", after := #[{ on := 20, ground := Ground.data }, { on := 13, ground := Ground.chain }], guard := none }) (v := Value.bool true) rfl (by kernel_rfl) (by kernel_rfl) (by kernel_rfl) (fun _ _ _ h => h) (Or.inl ⟨by rfl, ?hy⟩) (by assumption) ?_
        case hy => (intro wz hSw; (try dsimp only at hSw); go_simp)
        simp only [Act.put, List.setIfInBounds_toArray, List.set_cons_zero, List.set_cons_succ]
        refine wpAnyH_take (i := 22) (oi := { dst := some 64, op := Op.fieldAddr 81 (Operand.tmp 7) 3, type := 0, pos := "law.go:107", after := #[{ on := 21, ground := Ground.guard }], guard := some (21, true) }) (v := Value.pointer (some { block := bx, off := 3 })) rfl (by kernel_rfl) (by kernel_rfl) (by kernel_rfl) (fun _ _ _ h => h) (Or.inl ⟨by rfl, ?hy⟩) (by assumption) ?_
        case hy => (intro wz hSw; (try dsimp only at hSw); go_simp)
        simp only [Act.put, List.setIfInBounds_toArray, List.set_cons_zero, List.set_cons_succ]
        refine wpAnyH_take (i := 23) (oi := { dst := some 65, op := Op.load 79 (Operand.tmp 64), type := 79, pos := "law.go:107", after := #[{ on := 22, ground := Ground.data }, { on := 21, ground := Ground.guard }], guard := some (21, true) }) (v := Value.slice none 0 0) rfl (by kernel_rfl) (by kernel_rfl) (by kernel_rfl) (fun _ _ _ h => h) (Or.inl ⟨by rfl, ?hy⟩) (by assumption) ?_
        case hy => (intro wz hSw; (try dsimp only at hSw); go_simp)
        simp only [Act.put, List.setIfInBounds_toArray, List.set_cons_zero, List.set_cons_succ]
        refine wpAnyH_take (i := 24) (oi := { dst := some 66, op := Op.call { callee := Callee.builtin Builtin.len, args := #[Operand.tmp 65], argTypes := #[79] }, type := 3, pos := "law.go:107", after := #[{ on := 23, ground := Ground.data }, { on := 21, ground := Ground.guard }], guard := some (21, true) }) (v := Value.int IntKind.i64 0) rfl (by kernel_rfl) (by kernel_rfl) (by kernel_rfl) (fun _ _ _ h => h) (Or.inl ⟨by rfl, ?hy⟩) (by assumption) ?_
        case hy => (intro wz hSw; (try dsimp only at hSw); go_simp)
        simp only [Act.put, List.setIfInBounds_toArray, List.set_cons_zero, List.set_cons_succ]
        refine wpAnyH_take (i := 25) (oi := { dst := some 67, op := Op.binOp BinOp.eql 3 (Operand.tmp 66) (Operand.const (Value.int IntKind.i64 0)) 3, type := 4, pos := "law.go:107", after := #[{ on := 24, ground := Ground.data }, { on := 21, ground := Ground.guard }], guard := some (21, true) }) (v := Value.bool true) rfl (by kernel_rfl) (by kernel_rfl) (by kernel_rfl) (fun _ _ _ h => h) (Or.inl ⟨by rfl, ?hy⟩) (by assumption) ?_
        case hy => (intro wz hSw; (try dsimp only at hSw); go_simp)
        simp only [Act.put, List.setIfInBounds_toArray, List.set_cons_zero, List.set_cons_succ]
        refine wpAnyH_take (i := 26) (oi := { dst := some 68, op := Op.pick (Operand.tmp 63) (Operand.tmp 67) (Operand.const (Value.bool false)), type := 4, pos := "law.go:107", after := #[{ on := 21, ground := Ground.data }, { on := 25, ground := Ground.data }], guard := none }) (v := Value.bool true) rfl (by kernel_rfl) (by kernel_rfl) (by kernel_rfl) (fun _ _ _ h => h) (Or.inl ⟨by rfl, ?hy⟩) (by assumption) ?_
        case hy => (intro wz hSw; (try dsimp only at hSw); go_simp)
        simp only [Act.put, List.setIfInBounds_toArray, List.set_cons_zero, List.set_cons_succ]
        refine wpAnyH_take (i := 27) (oi := { dst := some 4, op := Op.assign (Operand.tmp 68), type := 4, pos := "law.go:107", after := #[{ on := 26, ground := Ground.data }, { on := 21, ground := Ground.chain }, { on := 0, ground := Ground.phase }, { on := 1, ground := Ground.phase }, { on := 2, ground := Ground.phase }, { on := 3, ground := Ground.phase }, { on := 4, ground := Ground.phase }, { on := 5, ground := Ground.phase }, { on := 6, ground := Ground.phase }, { on := 7, ground := Ground.phase }, { on := 8, ground := Ground.phase }, { on := 9, ground := Ground.phase }, { on := 10, ground := Ground.phase }, { on := 11, ground := Ground.phase }, { on := 12, ground := Ground.phase }, { on := 13, ground := Ground.phase }, { on := 14, ground := Ground.phase }, { on := 15, ground := Ground.phase }, { on := 16, ground := Ground.phase }, { on := 17, ground := Ground.phase }, { on := 18, ground := Ground.phase }, { on := 19, ground := Ground.phase }, { on := 20, ground := Ground.phase }, { on := 21, ground := Ground.phase }, { on := 22, ground := Ground.phase }, { on := 23, ground := Ground.phase }, { on := 24, ground := Ground.phase }, { on := 25, ground := Ground.phase }, { on := 26, ground := Ground.phase }], guard := none }) (v := Value.bool true) rfl (by kernel_rfl) (by kernel_rfl) (by kernel_rfl) (fun _ _ _ h => h) (Or.inl ⟨by rfl, ?hy⟩) (by assumption) ?_
        case hy => (intro wz hSw; (try dsimp only at hSw); go_simp)
        simp only [Act.put, List.setIfInBounds_toArray, List.set_cons_zero, List.set_cons_succ]
        refine wpAnyH_done (by kernel_rfl) ?_ _
        go_wp2
        go_ret
        exact ⟨rfl, lk.b⟩
        -- END
    · rw [hpb] at hqb
      obtain ⟨vb, rfl, _, hb9⟩ := hqb
      have HB9 := Lib.hid (hB.trans (hb9.mono hB.size))
      have hCB := parse_cntC hpb
      have hBa' := (hBa.below hb9).alloc (.cells #[.slice vb.A1 mb.consts.length vb.c1, .slice vb.A2 mb.formulas.length vb.c2, .slice vb.A3 mb.labels.length vb.c3, .slice vb.A4 mb.mods.length vb.c4] 81)
      have a0 := hBa'.cell 0
      have a1 := hBa'.cell 1
      have a2 := hBa'.cell 2
      have a3 := hBa'.cell 3
      simp only [List.getElem?_cons_zero, List.getElem?_cons_succ] at a0 a1 a2 a3
      have hl1 := hBa'.lt
      obtain ⟨v1, v2, v3, v4⟩ := hv
      simp only [MdlO.vec] at v1 v2 v3 v4
      have cma1 : ma.consts.length ≤ 65540 := by have := HCA.out; have := HSL.out; simp only [MdlO.cnt] at *; omega
      have cma2 : ma.formulas.length ≤ 65540 := by have := HCA.out; have := HSL.out; simp only [MdlO.cnt] at *; omega
      have cma3 : ma.labels.length ≤ 65540 := by have := HCA.out; have := HSL.out; simp only [MdlO.cnt] at *; omega
      have cma4 : ma.mods.length ≤ 65540 := by have := HCA.out; have := HSL.out; simp only [MdlO.cnt] at *; omega
      have y1 : decide (mb.consts.length ≤ ma.consts.length) = true := by simp; omega
      have y2 : decide (mb.formulas.length ≤ ma.formulas.length) = true := by simp; omega
      have y3 : decide (mb.labels.length ≤ ma.labels.length) = true := by simp; omega
      have y4 : decide (mb.mods.length ≤ ma.mods.length) = true := by simp; omega
      have z1 : decide ((mb.consts.length : Int) ≤ (ma.consts.length : Int)) = true := by simp; omega
      have z2 : decide ((mb.formulas.length : Int) ≤ (ma.formulas.length : Int)) = true := by simp; omega
      have z3 : decide ((mb.labels.length : Int) ≤ (ma.labels.length : Int)) = true := by simp; omega
      have z4 : decide ((mb.mods.length : Int) ≤ (ma.mods.length : Int)) = true := by simp; omega
      have cmb1 : mb.consts.length ≤ 65540 := by omega
      have cmb2 : mb.formulas.length ≤ 65540 := by omega
      have cmb3 : mb.labels.length ≤ 65540 := by omega
      have cmb4 : mb.mods.length ≤ 65540 := by omega
      clear hpb hB hb9 hBa hBa' hCB HCA HCT v1 v2 v3 v4
      dsimp only [MdV.v1, MdV.v2, MdV.v3, MdV.v4]
      generalize ma.consts.length = xma1 at *
      generalize ma.formulas.length = xma2 at *
      generalize ma.labels.length = xma3 at *
      generalize ma.mods.length = xma4 at *
      generalize mb.consts.length = xmb1 at *
      generalize mb.formulas.length = xmb2 at *
      generalize mb.labels.length = xmb3 at *
      generalize mb.mods.length = xmb4 at *
      go_wp2
      go_ret
      exact ⟨rfl, HB9.out.alloc HB9.out.size _⟩
theorem mcuts_yes (s : ByteArray) (k : Int) (w : World) (hG : GlobT w) (hb : 0 ≤ k ∧ k ≤ 65535) (hs : s.size ≤ 140737488355328) : Calls Tryz.prog 9 #[.string s, .int .u16 k] w (LawF w) := by
  by_cases h : 2000 < s.size ∨ s.size = 0
  · exact mcuts_long s k w hG hs h
  · exact mcuts_go s k w hG hb.1 hb.2 (by omega) (by omega)
end Go.Proofs.YtddeplbgihcdkaaGreatDoor
