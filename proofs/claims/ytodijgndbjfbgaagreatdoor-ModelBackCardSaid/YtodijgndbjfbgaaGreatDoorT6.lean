/-
  A model's variables and branches told.
-/
import Derived.Test.YtodijgndbjfbgaaGreatDoorT5
namespace Go.Proofs.YtodijgndbjfbgaaGreatDoor
open Go.RowKit

/-- A struct loaded whole, as an operation of a region. -/
theorem exec_row {P : Program} (w : World) (a : Act) (o : Oper) (ty : TypeId) (x : Operand) (ho : o.op = .load ty x) (g : Nat) (hx : a.eval x = .pointer (some ⟨g, 0, none⟩)) (t : TypeId) (cs : Array Value) (fr : Nat × Nat) (d : TypeDesc) (hg : w.heap[g]? = some (.cells cs t fr))
    (hu : P.underlying ty = some d) (hd : (match d with | .struct _ | .array _ _ => true | _ => false) = true) (hi : (P.info? ty).map (·.size) = some cs.size) : (execOp a.eval o).run P w = .ok (.value (.agg cs)) w := by
  unfold execOp
  simp only [ho, hx, Instr.loadAt, Instr.sureAddr, Sem.run_bind, Sem.run_pure, Result.andThen_ok, run_loadVar_row w g t ty cs fr d hg hu hd hi]
theorem infoVar : (Tryz.prog.info? 112).map (·.size) = some 19 := by kernel_rfl
def VOk (v : VarO) : Prop := v.nm.length ≤ 1000000 ∧ (v.isB = false → XOk v.low ∧ XOk v.high) ∧ (v.has = true → XOk v.ini)
set_option maxHeartbeats 4000000 in
set_option maxRecDepth 100000 in
theorem tvals_any {d : VarO} {b : Nat} (w : World) {p q r : XV} (hok : VOk d) (h1 : XO w b d.low p.c) (h2 : XO w b d.high q.c) (hT : Tabs w) : Calls Tryz.prog 95 #[.agg #[.string ⟨d.nm.toArray⟩, .bool d.isB, .string p.o, .string p.nm, .int .i64 p.n, .slice p.A p.ll p.cap, .int .i64 p.p, .string q.o, .string q.nm, .int .i64 q.n, .slice q.A q.ll q.cap, .int .i64 q.p, .string r.o, .string r.nm, .int .i64 r.n, .slice r.A r.ll r.cap, .int .i64 r.p, .bool d.has, .int .i64 ((d.pos : Nat) : Int)]] w (TlP (tlVal d) w) := by
  generalize ((d.pos : Nat) : Int) = z at *
  generalize (⟨d.nm.toArray⟩ : ByteArray) = nm at *
  obtain ⟨bH, hbH⟩ : ∃ x, x = d.has := ⟨_, rfl⟩
  rw [← hbH]
  cases hB : d.isB with
  | true =>
    have HE := Lib.hid (show tlVal d = wBool by unfold tlVal; rw [if_pos hB])
    clear hok h1 h2 hT hB hbH
    go_enter Tryz.func95, Tryz.ntmps95
    go_wp2
    go_ret
    exact ⟨by rw [HE.out]; rfl, (Below.refl _ _).alloc (Nat.le_refl _) _⟩
  | false =>
    have hx := hok.2.1 hB
    have HE := Lib.hid (show tlVal d = 91 :: (shO d.low ++ ([46, 46] ++ (shO d.high ++ [93]))) by unfold tlVal; rw [if_neg (by simp [hB])])
    have HC1 := Lib.hid (fun (W : World) (hW : Below w.heap.size w W) => xprint hx.1 W (h1.keep (Kt.below (E := E0) hW) id) (tabs_on hT hW))
    have HC2 := Lib.hid (fun (W : World) (hW : Below w.heap.size w W) => xprint hx.2 W (h2.keep (Kt.below (E := E0) hW) id) (tabs_on hT hW))
    obtain ⟨t, ht, hts⟩ := str_ofM (shO d.low) 1000000 (xok_len hx.1)
    obtain ⟨u, hu, hus⟩ := str_ofM (shO d.high) 1000000 (xok_len hx.2)
    have HT := Lib.hid ht
    have HU := Lib.hid hu
    have n1 : ¬ 9223372036854775807 < 1 + t.size := by omega
    have n2 : ¬ 9223372036854775807 < 1 + t.size + 2 := by omega
    have n3 : ¬ 9223372036854775807 < 1 + t.size + 2 + u.size := by omega
    have n4 : ¬ 9223372036854775807 < 1 + t.size + 2 + u.size + 1 := by omega
    clear hok h1 h2 hT hx ht hu hB hbH
    have LK := Lib.hid (BXm.new w 112 [.string nm, .bool false, .string p.o, .string p.nm, .int .i64 p.n, .slice p.A p.ll p.cap, .int .i64 p.p, .string q.o, .string q.nm, .int .i64 q.n, .slice q.A q.ll q.cap, .int .i64 q.p, .string r.o, .string r.nm, .int .i64 r.n, .slice r.A r.ll r.cap, .int .i64 r.p, .bool bH, .int .i64 z])
    go_enter Tryz.func95, Tryz.ntmps95
    go_wp2_with fail
    have lk : BXm w (w.alloc (.cells #[.string nm, .bool false, .string p.o, .string p.nm, .int .i64 p.n, .slice p.A p.ll p.cap, .int .i64 p.p, .string q.o, .string q.nm, .int .i64 q.n, .slice q.A q.ll q.cap, .int .i64 q.p, .string r.o, .string r.nm, .int .i64 r.n, .slice r.A r.ll r.cap, .int .i64 r.p, .bool bH, .int .i64 z] 112)) 112 [.string nm, .bool false, .string p.o, .string p.nm, .int .i64 p.n, .slice p.A p.ll p.cap, .int .i64 p.p, .string q.o, .string q.nm, .int .i64 q.n, .slice q.A q.ll q.cap, .int .i64 q.p, .string r.o, .string r.nm, .int .i64 r.n, .slice r.A r.ll r.cap, .int .i64 r.p, .bool bH, .int .i64 z] := LK.out
    clear LK
    generalize w.alloc (.cells #[.string nm, .bool false, .string p.o, .string p.nm, .int .i64 p.n, .slice p.A p.ll p.cap, .int .i64 p.p, .string q.o, .string q.nm, .int .i64 q.n, .slice q.A q.ll q.cap, .int .i64 q.p, .string r.o, .string r.nm, .int .i64 r.n, .slice r.A r.ll r.cap, .int .i64 r.p, .bool bH, .int .i64 z] 112) = W at lk ⊢
    replace lk := lk.drew
    go_region_held3 (fun w' => w'.cell? ⟨w.heap.size, 2, none⟩ = some (.string p.o) ∧ w'.cell? ⟨w.heap.size, 3, none⟩ = some (.string p.nm) ∧ w'.cell? ⟨w.heap.size, 4, none⟩ = some (.int .i64 p.n) ∧ w'.cell? ⟨w.heap.size, 5, none⟩ = some (.slice p.A p.ll p.cap) ∧ w'.cell? ⟨w.heap.size, 6, none⟩ = some (.int .i64 p.p) ∧ w'.cell? ⟨w.heap.size, 7, none⟩ = some (.string q.o) ∧ w'.cell? ⟨w.heap.size, 8, none⟩ = some (.string q.nm) ∧ w'.cell? ⟨w.heap.size, 9, none⟩ = some (.int .i64 q.n) ∧ w'.cell? ⟨w.heap.size, 10, none⟩ = some (.slice q.A q.ll q.cap) ∧ w'.cell? ⟨w.heap.size, 11, none⟩ = some (.int .i64 q.p)) (exact ⟨lk.bx.cell 2, lk.bx.cell 3, lk.bx.cell 4, lk.bx.cell 5, lk.bx.cell 6, lk.bx.cell 7, lk.bx.cell 8, lk.bx.cell 9, lk.bx.cell 10, lk.bx.cell 11⟩) (first
      | (go_at_call 94; (with_reducible refine (lk.callT HC1.out HT.out).mono ?_); rintro e wA ⟨rfl, lk2⟩; replace lk := lk2; clear lk2)
      | (go_at_call 94; (with_reducible refine (lk.callT HC2.out HU.out).mono ?_); rintro e wA ⟨rfl, lk2⟩; replace lk := lk2; clear lk2))
    all_goals go_wp2
    all_goals go_ret
    all_goals exact ⟨ret_strM (by rw [HE.out]; simp [HT.out, HU.out]), lk.bl⟩
set_option maxHeartbeats 8000000 in
set_option maxRecDepth 100000 in
theorem tvar_yes (d : VarO) (w : World) (b : Nat) (c : List Value) (hok : VOk d) (hp : VH w b d c) (hT : Tabs w) (hH : d.has = true) : Calls Tryz.prog 61 #[.agg c.toArray] w (TlP (tlVar d) w) := by
  obtain ⟨p, q, r, rfl, h1, h2, h3⟩ := hp
  have HCV := Lib.hid (fun (W : World) (hW : Below w.heap.size w W) => tvals_any (r := r) W hok (h1.keep (Kt.below (E := E0) hW) id) (h2.keep (Kt.below (E := E0) hW) id) (tabs_on hT hW))
  have hns : (⟨d.nm.toArray⟩ : ByteArray).size ≤ 1000000 := by rw [sz_toArray]; exact hok.1
  have HNM := Lib.hid (show (⟨d.nm.toArray⟩ : ByteArray).data.toList = d.nm from rfl)
  have hvl : (tlVal d).length ≤ 3000000 := by
    unfold tlVal
    cases hB : d.isB with
    | true => rw [if_pos rfl]; decide
    | false =>
      have hx := hok.2.1 hB
      have := xok_len hx.1
      have := xok_len hx.2
      rw [if_neg (by simp)]
      simp only [List.length_cons, List.length_append, List.length_nil]
      omega
  obtain ⟨t, ht, hts⟩ := str_ofM (tlVal d) 3000000 hvl
  have HT := Lib.hid ht
  have HX := Lib.hid (fun (hH : d.has = true) => (fun (W : World) (hW : Below w.heap.size w W) => xprint (hok.2.2 hH) W (h3.keep (Kt.below (E := E0) hW) id) (tabs_on hT hW)))
  have HXL := Lib.hid (fun (hH : d.has = true) => xok_len (hok.2.2 hH))
  have HE := Lib.hid (show tlVar d = [32, 32] ++ (d.nm ++ ([32, 58, 32] ++ (tlVal d ++ ((if d.has then 32 :: (wInit ++ 32 :: shO d.ini) else []) ++ [59, 10])))) from rfl)
  change Calls Tryz.prog 61 #[.agg #[.string ⟨d.nm.toArray⟩, .bool d.isB, .string p.o, .string p.nm, .int .i64 p.n, .slice p.A p.ll p.cap, .int .i64 p.p, .string q.o, .string q.nm, .int .i64 q.n, .slice q.A q.ll q.cap, .int .i64 q.p, .string r.o, .string r.nm, .int .i64 r.n, .slice r.A r.ll r.cap, .int .i64 r.p, .bool d.has, .int .i64 ((d.pos : Nat) : Int)]] w _
  generalize ((d.pos : Nat) : Int) = z at *
  generalize (⟨d.nm.toArray⟩ : ByteArray) = nm at *
  have n1 : ¬ 9223372036854775807 < 2 + nm.size := by omega
  have n2 : ¬ 9223372036854775807 < 2 + nm.size + 3 := by omega
  have n3 : ¬ 9223372036854775807 < 2 + nm.size + 3 + t.size := by omega
  clear hok h1 h2 h3 hT ht hvl
  obtain ⟨u, hu, hus⟩ := str_ofM (shO d.ini) 1000000 (HXL.out hH)
  have HU := Lib.hid hu
  have HXC := Lib.hid (HX.out hH)
  have HE2 := Lib.hid (show tlVar d = [32, 32] ++ (d.nm ++ ([32, 58, 32] ++ (tlVal d ++ (32 :: (wInit ++ 32 :: shO d.ini) ++ [59, 10])))) by rw [HE.out, if_pos hH])
  have m1 : ¬ 9223372036854775807 < 6 + u.size := by omega
  have m2 : ¬ 9223372036854775807 < 2 + nm.size + 3 + t.size + (6 + u.size) := by omega
  have m3 : ¬ 9223372036854775807 < 2 + nm.size + 3 + t.size + (6 + u.size) + 1 := by omega
  rw [hH] at HCV
  clear hu HX HXL HE
  generalize d.isB = bB at *
  have LK := Lib.hid (BXm.new w 112 [.string nm, .bool bB, .string p.o, .string p.nm, .int .i64 p.n, .slice p.A p.ll p.cap, .int .i64 p.p, .string q.o, .string q.nm, .int .i64 q.n, .slice q.A q.ll q.cap, .int .i64 q.p, .string r.o, .string r.nm, .int .i64 r.n, .slice r.A r.ll r.cap, .int .i64 r.p, .bool true, .int .i64 z])
  go_enter Tryz.func61, Tryz.ntmps61
  go_wp2_with fail
  have lk : BXm w (w.alloc (.cells #[.string nm, .bool bB, .string p.o, .string p.nm, .int .i64 p.n, .slice p.A p.ll p.cap, .int .i64 p.p, .string q.o, .string q.nm, .int .i64 q.n, .slice q.A q.ll q.cap, .int .i64 q.p, .string r.o, .string r.nm, .int .i64 r.n, .slice r.A r.ll r.cap, .int .i64 r.p, .bool true, .int .i64 z] 112)) 112 [.string nm, .bool bB, .string p.o, .string p.nm, .int .i64 p.n, .slice p.A p.ll p.cap, .int .i64 p.p, .string q.o, .string q.nm, .int .i64 q.n, .slice q.A q.ll q.cap, .int .i64 q.p, .string r.o, .string r.nm, .int .i64 r.n, .slice r.A r.ll r.cap, .int .i64 r.p, .bool true, .int .i64 z] := LK.out
  clear LK
  generalize w.alloc (.cells #[.string nm, .bool bB, .string p.o, .string p.nm, .int .i64 p.n, .slice p.A p.ll p.cap, .int .i64 p.p, .string q.o, .string q.nm, .int .i64 q.n, .slice q.A q.ll q.cap, .int .i64 q.p, .string r.o, .string r.nm, .int .i64 r.n, .slice r.A r.ll r.cap, .int .i64 r.p, .bool true, .int .i64 z] 112) = W at lk ⊢
  replace lk := lk.drew
  refine wp_region_held_drew (S := (fun w' => w'.heap[w.heap.size]? = some (.cells #[.string nm, .bool bB, .string p.o, .string p.nm, .int .i64 p.n, .slice p.A p.ll p.cap, .int .i64 p.p, .string q.o, .string q.nm, .int .i64 q.n, .slice q.A q.ll q.cap, .int .i64 q.p, .string r.o, .string r.nm, .int .i64 r.n, .slice r.A r.ll r.cap, .int .i64 r.p, .bool true, .int .i64 z] 112 (0, 0)))) (by kernel_rfl) lk.bx (fun hHeld => ?_)
  refine wpAnyH_take (i := 0) (oi := { dst := some 4, op := Op.fieldAddr 112 (Operand.tmp 1) 0, type := 0, pos := "tell.go:57", after := #[], guard := none }) (v := Value.pointer (some { block := w.heap.size, off := 0 })) rfl (by kernel_rfl) (by kernel_rfl) (by kernel_rfl) (fun _ _ _ h => h) (Or.inl ⟨by rfl, ?hy⟩) (by assumption) ?_
  case hy => (intro wz hSw; (try dsimp only at hSw); go_simp)
  simp only [Act.put, List.setIfInBounds_toArray, List.set_cons_zero, List.set_cons_succ]
  refine wpAnyH_take (i := 1) (oi := { dst := some 5, op := Op.load 9 (Operand.tmp 4), type := 9, pos := "tell.go:57", after := #[{ on := 0, ground := Ground.data }], guard := none }) (v := Value.string nm) rfl (by kernel_rfl) (by kernel_rfl) (by kernel_rfl) (fun _ _ _ h => h) (Or.inl ⟨by rfl, ?hy⟩) (by assumption) ?_
  case hy => (intro wz hSw; have e0 := (show Bx wz w.heap.size 112 [.string nm, .bool bB, .string p.o, .string p.nm, .int .i64 p.n, .slice p.A p.ll p.cap, .int .i64 p.p, .string q.o, .string q.nm, .int .i64 q.n, .slice q.A q.ll q.cap, .int .i64 q.p, .string r.o, .string r.nm, .int .i64 r.n, .slice r.A r.ll r.cap, .int .i64 r.p, .bool true, .int .i64 z] from hSw).cell 0; simp only [List.getElem?_cons_zero] at e0; go_simp)
  simp only [Act.put, List.setIfInBounds_toArray, List.set_cons_zero, List.set_cons_succ]
  refine wpAnyH_take (i := 2) (oi := { dst := some 6, op := Op.binOp BinOp.add 9 (Operand.const (Value.string { data := #[32, 32] })) (Operand.tmp 5) 9, type := 9, pos := "tell.go:57", after := #[{ on := 1, ground := Ground.data }], guard := none }) (v := Value.string (⟨#[32, 32]⟩ ++ nm)) rfl (by kernel_rfl) (by kernel_rfl) (by kernel_rfl) (fun _ _ _ h => h) (Or.inl ⟨by rfl, ?hy⟩) (by assumption) ?_
  case hy => (intro wz hSw; (try dsimp only at hSw); go_simp)
  simp only [Act.put, List.setIfInBounds_toArray, List.set_cons_zero, List.set_cons_succ]
  refine wpAnyH_take (i := 3) (oi := { dst := some 7, op := Op.binOp BinOp.add 9 (Operand.tmp 6) (Operand.const (Value.string { data := #[32, 58, 32] })) 9, type := 9, pos := "tell.go:57", after := #[{ on := 2, ground := Ground.data }], guard := none }) (v := Value.string (⟨#[32, 32]⟩ ++ nm ++ ⟨#[32, 58, 32]⟩)) rfl (by kernel_rfl) (by kernel_rfl) (by kernel_rfl) (fun _ _ _ h => h) (Or.inl ⟨by rfl, ?hy⟩) (by assumption) ?_
  case hy => (intro wz hSw; (try dsimp only at hSw); go_simp)
  simp only [Act.put, List.setIfInBounds_toArray, List.set_cons_zero, List.set_cons_succ]
  refine wpAnyH_take (i := 4) (oi := { dst := some 8, op := Op.load 112 (Operand.tmp 1), type := 112, pos := "tell.go:57", after := #[], guard := none }) (v := Value.agg #[.string nm, .bool bB, .string p.o, .string p.nm, .int .i64 p.n, .slice p.A p.ll p.cap, .int .i64 p.p, .string q.o, .string q.nm, .int .i64 q.n, .slice q.A q.ll q.cap, .int .i64 q.p, .string r.o, .string r.nm, .int .i64 r.n, .slice r.A r.ll r.cap, .int .i64 r.p, .bool true, .int .i64 z]) rfl (by kernel_rfl) (by kernel_rfl) (by kernel_rfl) (fun _ _ _ h => h) (Or.inl ⟨by rfl, ?hy⟩) (by assumption) ?_
  case hy => (intro wz hSw; exact exec_row wz _ _ 112 _ rfl w.heap.size rfl 112 _ _ _ hSw Tryz.underlying112 rfl infoVar)
  simp only [Act.put, List.setIfInBounds_toArray, List.set_cons_zero, List.set_cons_succ]
  refine wpAnyH_ready (rs := [5]) (by kernel_rfl) (by simp) ?_
  refine AllReadyH.cons (o := { dst := some 9, op := Op.call { callee := Callee.value (Operand.func 95), args := #[Operand.tmp 8], argTypes := #[112] }, type := 9, pos := "tell.go:57", after := #[{ on := 4, ground := Ground.data }], guard := none }) rfl (fun K0 hK0 => ?_) AllReadyH.nil
  go_simp
  go_at_call 95
  with_reducible refine (lk.callT HCV.out HT.out).mono ?_
  rintro e wA ⟨rfl, lk2⟩
  replace lk := lk2
  clear lk2
  go_wp2_with fail
  refine hK0.out _ _ lk.bx (fun hHeld => ?_)
  clear hK0 K0
  try simp only [Act.put, List.setIfInBounds_toArray, List.set_cons_zero, List.set_cons_succ]
  refine wpAnyH_take (i := 6) (oi := { dst := some 10, op := Op.binOp BinOp.add 9 (Operand.tmp 7) (Operand.tmp 9) 9, type := 9, pos := "tell.go:57", after := #[{ on := 3, ground := Ground.data }, { on := 5, ground := Ground.data }], guard := none }) (v := Value.string (⟨#[32, 32]⟩ ++ nm ++ ⟨#[32, 58, 32]⟩ ++ t)) rfl (by kernel_rfl) (by kernel_rfl) (by kernel_rfl) (fun _ _ _ h => h) (Or.inl ⟨by rfl, ?hy⟩) (by assumption) ?_
  case hy => (intro wz hSw; (try dsimp only at hSw); go_simp)
  simp only [Act.put, List.setIfInBounds_toArray, List.set_cons_zero, List.set_cons_succ]
  refine wpAnyH_take (i := 7) (oi := { dst := some 3, op := Op.assign (Operand.tmp 10), type := 9, pos := "tell.go:57", after := #[{ on := 6, ground := Ground.data }, { on := 5, ground := Ground.chain }, { on := 0, ground := Ground.phase }, { on := 1, ground := Ground.phase }, { on := 2, ground := Ground.phase }, { on := 3, ground := Ground.phase }, { on := 4, ground := Ground.phase }, { on := 5, ground := Ground.phase }, { on := 6, ground := Ground.phase }], guard := none }) (v := Value.string (⟨#[32, 32]⟩ ++ nm ++ ⟨#[32, 58, 32]⟩ ++ t)) rfl (by kernel_rfl) (by kernel_rfl) (by kernel_rfl) (fun _ _ _ h => h) (Or.inl ⟨by rfl, ?hy⟩) (by assumption) ?_
  case hy => (intro wz hSw; (try dsimp only at hSw); go_simp)
  simp only [Act.put, List.setIfInBounds_toArray, List.set_cons_zero, List.set_cons_succ]
  refine wpAnyH_done (by kernel_rfl) ?_ _
  all_goals
    as_aux_lemma =>
        have e17 := lk.bx.cell 17
        have e12 := lk.bx.cell 12
        have e13 := lk.bx.cell 13
        have e14 := lk.bx.cell 14
        have e15 := lk.bx.cell 15
        have e16 := lk.bx.cell 16
        simp only [List.getElem?_cons_zero, List.getElem?_cons_succ] at e12 e13 e14 e15 e16 e17
        have hlb := lk.bx.lt
        have LK := Lib.hid lk
        clear lk
        go_wp2_with fail
        refine (LK.out.callT HXC.out HU.out).mono ?_
        rintro e wB ⟨rfl, lk2⟩
        have LK2 := Lib.hid lk2
        clear lk2
        go_wp2_with fail
        refine (mline_any _ _ (by simp only [ByteArray.size_append]; show 2 + nm.size + 3 + t.size + (6 + u.size) + 1 ≤ _; omega)).mono ?_
        rintro e wC ⟨rfl, rfl⟩
        go_wp2
        go_ret
        exact ⟨ret_strM (by rw [HE2.out]; simp [HT.out, HU.out, HNM.out, wInit]), LK2.out.bl⟩
set_option maxHeartbeats 8000000 in
set_option maxRecDepth 100000 in
theorem tvar_no (d : VarO) (w : World) (b : Nat) (c : List Value) (hok : VOk d) (hp : VH w b d c) (hT : Tabs w) (hH : d.has = false) : Calls Tryz.prog 61 #[.agg c.toArray] w (TlP (tlVar d) w) := by
  obtain ⟨p, q, r, rfl, h1, h2, h3⟩ := hp
  have HCV := Lib.hid (fun (W : World) (hW : Below w.heap.size w W) => tvals_any (r := r) W hok (h1.keep (Kt.below (E := E0) hW) id) (h2.keep (Kt.below (E := E0) hW) id) (tabs_on hT hW))
  have hns : (⟨d.nm.toArray⟩ : ByteArray).size ≤ 1000000 := by rw [sz_toArray]; exact hok.1
  have HNM := Lib.hid (show (⟨d.nm.toArray⟩ : ByteArray).data.toList = d.nm from rfl)
  have hvl : (tlVal d).length ≤ 3000000 := by
    unfold tlVal
    cases hB : d.isB with
    | true => rw [if_pos rfl]; decide
    | false =>
      have hx := hok.2.1 hB
      have := xok_len hx.1
      have := xok_len hx.2
      rw [if_neg (by simp)]
      simp only [List.length_cons, List.length_append, List.length_nil]
      omega
  obtain ⟨t, ht, hts⟩ := str_ofM (tlVal d) 3000000 hvl
  have HT := Lib.hid ht
  have HX := Lib.hid (fun (hH : d.has = true) => (fun (W : World) (hW : Below w.heap.size w W) => xprint (hok.2.2 hH) W (h3.keep (Kt.below (E := E0) hW) id) (tabs_on hT hW)))
  have HXL := Lib.hid (fun (hH : d.has = true) => xok_len (hok.2.2 hH))
  have HE := Lib.hid (show tlVar d = [32, 32] ++ (d.nm ++ ([32, 58, 32] ++ (tlVal d ++ ((if d.has then 32 :: (wInit ++ 32 :: shO d.ini) else []) ++ [59, 10])))) from rfl)
  change Calls Tryz.prog 61 #[.agg #[.string ⟨d.nm.toArray⟩, .bool d.isB, .string p.o, .string p.nm, .int .i64 p.n, .slice p.A p.ll p.cap, .int .i64 p.p, .string q.o, .string q.nm, .int .i64 q.n, .slice q.A q.ll q.cap, .int .i64 q.p, .string r.o, .string r.nm, .int .i64 r.n, .slice r.A r.ll r.cap, .int .i64 r.p, .bool d.has, .int .i64 ((d.pos : Nat) : Int)]] w _
  generalize ((d.pos : Nat) : Int) = z at *
  generalize (⟨d.nm.toArray⟩ : ByteArray) = nm at *
  have n1 : ¬ 9223372036854775807 < 2 + nm.size := by omega
  have n2 : ¬ 9223372036854775807 < 2 + nm.size + 3 := by omega
  have n3 : ¬ 9223372036854775807 < 2 + nm.size + 3 + t.size := by omega
  clear hok h1 h2 h3 hT ht hvl
  have HE2 := Lib.hid (show tlVar d = [32, 32] ++ (d.nm ++ ([32, 58, 32] ++ (tlVal d ++ [59, 10]))) by rw [HE.out, if_neg (by simp [hH])]; rfl)
  have m3 : ¬ 9223372036854775807 < 2 + nm.size + 3 + t.size + 1 := by omega
  rw [hH] at HCV
  clear HX HXL HE
  generalize d.isB = bB at *
  have LK := Lib.hid (BXm.new w 112 [.string nm, .bool bB, .string p.o, .string p.nm, .int .i64 p.n, .slice p.A p.ll p.cap, .int .i64 p.p, .string q.o, .string q.nm, .int .i64 q.n, .slice q.A q.ll q.cap, .int .i64 q.p, .string r.o, .string r.nm, .int .i64 r.n, .slice r.A r.ll r.cap, .int .i64 r.p, .bool false, .int .i64 z])
  go_enter Tryz.func61, Tryz.ntmps61
  go_wp2_with fail
  have lk : BXm w (w.alloc (.cells #[.string nm, .bool bB, .string p.o, .string p.nm, .int .i64 p.n, .slice p.A p.ll p.cap, .int .i64 p.p, .string q.o, .string q.nm, .int .i64 q.n, .slice q.A q.ll q.cap, .int .i64 q.p, .string r.o, .string r.nm, .int .i64 r.n, .slice r.A r.ll r.cap, .int .i64 r.p, .bool false, .int .i64 z] 112)) 112 [.string nm, .bool bB, .string p.o, .string p.nm, .int .i64 p.n, .slice p.A p.ll p.cap, .int .i64 p.p, .string q.o, .string q.nm, .int .i64 q.n, .slice q.A q.ll q.cap, .int .i64 q.p, .string r.o, .string r.nm, .int .i64 r.n, .slice r.A r.ll r.cap, .int .i64 r.p, .bool false, .int .i64 z] := LK.out
  clear LK
  generalize w.alloc (.cells #[.string nm, .bool bB, .string p.o, .string p.nm, .int .i64 p.n, .slice p.A p.ll p.cap, .int .i64 p.p, .string q.o, .string q.nm, .int .i64 q.n, .slice q.A q.ll q.cap, .int .i64 q.p, .string r.o, .string r.nm, .int .i64 r.n, .slice r.A r.ll r.cap, .int .i64 r.p, .bool false, .int .i64 z] 112) = W at lk ⊢
  replace lk := lk.drew
  refine wp_region_held_drew (S := (fun w' => w'.heap[w.heap.size]? = some (.cells #[.string nm, .bool bB, .string p.o, .string p.nm, .int .i64 p.n, .slice p.A p.ll p.cap, .int .i64 p.p, .string q.o, .string q.nm, .int .i64 q.n, .slice q.A q.ll q.cap, .int .i64 q.p, .string r.o, .string r.nm, .int .i64 r.n, .slice r.A r.ll r.cap, .int .i64 r.p, .bool false, .int .i64 z] 112 (0, 0)))) (by kernel_rfl) lk.bx (fun hHeld => ?_)
  refine wpAnyH_take (i := 0) (oi := { dst := some 4, op := Op.fieldAddr 112 (Operand.tmp 1) 0, type := 0, pos := "tell.go:57", after := #[], guard := none }) (v := Value.pointer (some { block := w.heap.size, off := 0 })) rfl (by kernel_rfl) (by kernel_rfl) (by kernel_rfl) (fun _ _ _ h => h) (Or.inl ⟨by rfl, ?hy⟩) (by assumption) ?_
  case hy => (intro wz hSw; (try dsimp only at hSw); go_simp)
  simp only [Act.put, List.setIfInBounds_toArray, List.set_cons_zero, List.set_cons_succ]
  refine wpAnyH_take (i := 1) (oi := { dst := some 5, op := Op.load 9 (Operand.tmp 4), type := 9, pos := "tell.go:57", after := #[{ on := 0, ground := Ground.data }], guard := none }) (v := Value.string nm) rfl (by kernel_rfl) (by kernel_rfl) (by kernel_rfl) (fun _ _ _ h => h) (Or.inl ⟨by rfl, ?hy⟩) (by assumption) ?_
  case hy => (intro wz hSw; have e0 := (show Bx wz w.heap.size 112 [.string nm, .bool bB, .string p.o, .string p.nm, .int .i64 p.n, .slice p.A p.ll p.cap, .int .i64 p.p, .string q.o, .string q.nm, .int .i64 q.n, .slice q.A q.ll q.cap, .int .i64 q.p, .string r.o, .string r.nm, .int .i64 r.n, .slice r.A r.ll r.cap, .int .i64 r.p, .bool false, .int .i64 z] from hSw).cell 0; simp only [List.getElem?_cons_zero] at e0; go_simp)
  simp only [Act.put, List.setIfInBounds_toArray, List.set_cons_zero, List.set_cons_succ]
  refine wpAnyH_take (i := 2) (oi := { dst := some 6, op := Op.binOp BinOp.add 9 (Operand.const (Value.string { data := #[32, 32] })) (Operand.tmp 5) 9, type := 9, pos := "tell.go:57", after := #[{ on := 1, ground := Ground.data }], guard := none }) (v := Value.string (⟨#[32, 32]⟩ ++ nm)) rfl (by kernel_rfl) (by kernel_rfl) (by kernel_rfl) (fun _ _ _ h => h) (Or.inl ⟨by rfl, ?hy⟩) (by assumption) ?_
  case hy => (intro wz hSw; (try dsimp only at hSw); go_simp)
  simp only [Act.put, List.setIfInBounds_toArray, List.set_cons_zero, List.set_cons_succ]
  refine wpAnyH_take (i := 3) (oi := { dst := some 7, op := Op.binOp BinOp.add 9 (Operand.tmp 6) (Operand.const (Value.string { data := #[32, 58, 32] })) 9, type := 9, pos := "tell.go:57", after := #[{ on := 2, ground := Ground.data }], guard := none }) (v := Value.string (⟨#[32, 32]⟩ ++ nm ++ ⟨#[32, 58, 32]⟩)) rfl (by kernel_rfl) (by kernel_rfl) (by kernel_rfl) (fun _ _ _ h => h) (Or.inl ⟨by rfl, ?hy⟩) (by assumption) ?_
  case hy => (intro wz hSw; (try dsimp only at hSw); go_simp)
  simp only [Act.put, List.setIfInBounds_toArray, List.set_cons_zero, List.set_cons_succ]
  refine wpAnyH_take (i := 4) (oi := { dst := some 8, op := Op.load 112 (Operand.tmp 1), type := 112, pos := "tell.go:57", after := #[], guard := none }) (v := Value.agg #[.string nm, .bool bB, .string p.o, .string p.nm, .int .i64 p.n, .slice p.A p.ll p.cap, .int .i64 p.p, .string q.o, .string q.nm, .int .i64 q.n, .slice q.A q.ll q.cap, .int .i64 q.p, .string r.o, .string r.nm, .int .i64 r.n, .slice r.A r.ll r.cap, .int .i64 r.p, .bool false, .int .i64 z]) rfl (by kernel_rfl) (by kernel_rfl) (by kernel_rfl) (fun _ _ _ h => h) (Or.inl ⟨by rfl, ?hy⟩) (by assumption) ?_
  case hy => (intro wz hSw; exact exec_row wz _ _ 112 _ rfl w.heap.size rfl 112 _ _ _ hSw Tryz.underlying112 rfl infoVar)
  simp only [Act.put, List.setIfInBounds_toArray, List.set_cons_zero, List.set_cons_succ]
  refine wpAnyH_ready (rs := [5]) (by kernel_rfl) (by simp) ?_
  refine AllReadyH.cons (o := { dst := some 9, op := Op.call { callee := Callee.value (Operand.func 95), args := #[Operand.tmp 8], argTypes := #[112] }, type := 9, pos := "tell.go:57", after := #[{ on := 4, ground := Ground.data }], guard := none }) rfl (fun K0 hK0 => ?_) AllReadyH.nil
  go_simp
  go_at_call 95
  with_reducible refine (lk.callT HCV.out HT.out).mono ?_
  rintro e wA ⟨rfl, lk2⟩
  replace lk := lk2
  clear lk2
  go_wp2_with fail
  refine hK0.out _ _ lk.bx (fun hHeld => ?_)
  clear hK0 K0
  try simp only [Act.put, List.setIfInBounds_toArray, List.set_cons_zero, List.set_cons_succ]
  refine wpAnyH_take (i := 6) (oi := { dst := some 10, op := Op.binOp BinOp.add 9 (Operand.tmp 7) (Operand.tmp 9) 9, type := 9, pos := "tell.go:57", after := #[{ on := 3, ground := Ground.data }, { on := 5, ground := Ground.data }], guard := none }) (v := Value.string (⟨#[32, 32]⟩ ++ nm ++ ⟨#[32, 58, 32]⟩ ++ t)) rfl (by kernel_rfl) (by kernel_rfl) (by kernel_rfl) (fun _ _ _ h => h) (Or.inl ⟨by rfl, ?hy⟩) (by assumption) ?_
  case hy => (intro wz hSw; (try dsimp only at hSw); go_simp)
  simp only [Act.put, List.setIfInBounds_toArray, List.set_cons_zero, List.set_cons_succ]
  refine wpAnyH_take (i := 7) (oi := { dst := some 3, op := Op.assign (Operand.tmp 10), type := 9, pos := "tell.go:57", after := #[{ on := 6, ground := Ground.data }, { on := 5, ground := Ground.chain }, { on := 0, ground := Ground.phase }, { on := 1, ground := Ground.phase }, { on := 2, ground := Ground.phase }, { on := 3, ground := Ground.phase }, { on := 4, ground := Ground.phase }, { on := 5, ground := Ground.phase }, { on := 6, ground := Ground.phase }], guard := none }) (v := Value.string (⟨#[32, 32]⟩ ++ nm ++ ⟨#[32, 58, 32]⟩ ++ t)) rfl (by kernel_rfl) (by kernel_rfl) (by kernel_rfl) (fun _ _ _ h => h) (Or.inl ⟨by rfl, ?hy⟩) (by assumption) ?_
  case hy => (intro wz hSw; (try dsimp only at hSw); go_simp)
  simp only [Act.put, List.setIfInBounds_toArray, List.set_cons_zero, List.set_cons_succ]
  refine wpAnyH_done (by kernel_rfl) ?_ _
  all_goals
    as_aux_lemma =>
        have e17 := lk.bx.cell 17
        simp only [List.getElem?_cons_zero, List.getElem?_cons_succ] at e17
        have hlb := lk.bx.lt
        have LK := Lib.hid lk
        clear lk
        go_wp2_with fail
        refine (mline_any _ _ (by simp only [ByteArray.size_append]; show 2 + nm.size + 3 + t.size + 1 ≤ _; omega)).mono ?_
        rintro e wC ⟨rfl, rfl⟩
        go_wp2
        go_ret
        exact ⟨ret_strM (by rw [HE2.out]; simp [HT.out, HNM.out]), LK.out.bl⟩
theorem tvar_any : ToldC 61 VH VOk tlVar := fun d w b c hok hp hT => by
  cases hH : d.has with
  | true => exact tvar_yes d w b c hok hp hT hH
  | false => exact tvar_no d w b c hok hp hT hH
end Go.Proofs.YtodijgndbjfbgaaGreatDoor
