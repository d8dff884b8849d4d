/-
  The document's atoms: walked.
-/
import Derived.Test.YtddeplbgihcdkaaGreatDoorDc
import Derived.Test.YtddeplbgihcdkaaGreatDoorRA
namespace Go.Proofs.YtddeplbgihcdkaaGreatDoor
open Go.RowKit Go.Sort

/-- A token in a box of the call's own. -/
def TB (w : World) (b : Nat) (kd : Int) (tb : ByteArray) (ps : Int) : Prop := w.heap[b]? = some (.cells #[.int .i64 kd, .string tb, .int .i64 ps] 110 (0, 0))
section
variable {w w' : World} {b pb : Nat} {kd ps : Int} {tb : ByteArray}
theorem TB.lt (h : TB w b kd tb ps) : b < w.heap.size := blk_lt h
theorem TB.below (h : TB w b kd tb ps) (hb : Below w.heap.size w w') : TB w' b kd tb ps := (hb.block b h.lt).trans h
theorem TB.fr (h : TB w b kd tb ps) (hf : Fr w.heap.size pb w w') (hn : b ≠ pb) : TB w' b kd tb ps := (hf.block b h.lt hn).trans h
theorem TB.far (h : TB w b kd tb ps) {p : Addr} (hp : b ≠ p.block) (u : Value) : TB (w.setCell p u) b kd tb ps := (Below.heap_setCell w p u b hp).trans h
theorem TB.cells (h : TB w b kd tb ps) : w.cell? ⟨b, 0, none⟩ = some (.int .i64 kd) ∧ w.cell? ⟨b, 1, none⟩ = some (.string tb) ∧ w.cell? ⟨b, 2, none⟩ = some (.int .i64 ps) := ⟨(rd_cell h 0).trans rfl, (rd_cell h 1).trans rfl, (rd_cell h 2).trans rfl⟩
end
theorem TB.alloc {w : World} {b : Nat} {kd ps : Int} {tb : ByteArray} (h : TB w b kd tb ps) (o : Obj) : TB (w.alloc o) b kd tb ps := h.below ((Below.refl _ _).alloc (Nat.le_refl _) _)
theorem DS.set1 {w : World} {pb D : Nat} {st : St} (h : DS w pb D st) {b i : Nat} {e : TypeId} {cs : Array Value} (hb : w.heap[b]? = some (.cells cs e (0, 0))) (h1 : e ≠ 109) (h2 : e ≠ 110) (u : Value) : DS (w.setCell ⟨b, i, none⟩ u) pb D st := by
  cases st with
  | good us => exact DR.set h hb h1 h2 _
  | bad c q => obtain ⟨h0, us, h⟩ := h; exact ⟨h0, us, h.set hb h1 h2 _⟩
theorem DV.setBox {w W : World} {pb D : Nat} {st : St} (m : DV w W pb D st) {b : Nat} {c0 c1 c2 c3 c4 : Value} (hb : BoxR W b c0 c1 c2 c3 c4) (h1 : w.heap.size < b) (p : Int) : DV w (W.setCell ⟨b, 4, none⟩ (.int .i64 p)) pb D st :=
  ⟨m.f.setCell (p := ⟨b, 4, none⟩) (.inl (by show w.heap.size ≤ b; omega)) _, m.d.set1 hb (by decide) (by decide) _, m.z.far (p := ⟨b, 4, none⟩) (by show w.heap.size ≠ b; omega) _, m.l⟩
/-- An expression in a box of the call's own, its kids in blocks before it. -/
structure EB (W : World) (lo b : Nat) (v : XV) (x : Option Ex) : Prop where
  bx : BoxR W b (.string v.o) (.string v.nm) (.int .i64 v.n) (.slice v.A v.ll v.cap) (.int .i64 v.p)
  hs : ∀ e, x = some e → HS W 70 (Rg lo b) e (exC v.o v.nm v.n v.A v.ll v.cap v.p)
theorem EB.fr {W W' : World} {lo b pb : Nat} {v : XV} {x : Option Ex} (h : EB W lo b v x) (hf : Fr W.heap.size pb W W') (hn : b ≠ pb) (hl : pb < lo) : EB W' lo b v x :=
  ⟨h.bx.fr hf hn, fun e he => (h.hs e he).frS hf (by unfold Rg; omega)⟩
theorem EB.ofDP {lo : Nat} {w w1 : World} {res : Option Ex × St} {o nm : ByteArray} {n : Int} {A : Option Addr} {l cap : Nat} {p : Int} (hlo : lo ≤ w.heap.size) (hx : ∀ x, res.1 = some x → HC w1 70 w.heap.size w1.heap.size x (exC o nm n A l cap p)) :
    EB (w1.alloc (.cells #[.string o, .string nm, .int .i64 n, .slice A l cap, .int .i64 p] 70)) lo w1.heap.size ⟨o, nm, n, A, l, cap, p⟩ res.1 :=
  ⟨BoxR.new _ _ _ _ _ _, fun e he => ((hx e he).alloc _).mono hlo (Nat.le_refl _)⟩
theorem EB.pos4 {W : World} {lo b : Nat} {v : XV} {x : Option Ex} (h : EB W lo b v x) (p : Int) : ∀ e, x = some e → HS (W.setCell ⟨b, 4, none⟩ (.int .i64 p)) 70 (Rg lo (W.setCell ⟨b, 4, none⟩ (.int .i64 p)).heap.size) e (exC v.o v.nm v.n v.A v.ll v.cap v.p) := fun e he => by
  have hb := h.bx.lt
  exact ((h.hs e he).setCellS (p := ⟨b, 4, none⟩) (by show ¬ Rg lo b b; unfold Rg; omega) _).wide (fun j _ hj => by unfold Rg at *; simp; omega)
theorem lift_enc {d : Dp} {us : List Tok} {p : Nat} (hi : isT (hd us) [40] = true) :
    (exprP (enclosedX p (d.c us.tail))).2 = (lift d.c ((St.good us).want [40])).2.want [41] ∧ ∀ x, (exprP (enclosedX p (d.c us.tail))).1 = some x → ∃ e, (lift d.c ((St.good us).want [40])).1 = some e ∧ x = e.move p := by
  have hw : (St.good us).want [40] = .good us.tail := by unfold St.want; rw [show (St.good us).hd = hd us from rfl, if_pos hi]; rfl
  rw [hw, show lift d.c (.good us.tail) = exprP (d.c us.tail) from rfl]
  cases d.c us.tail with
  | er c q => exact ⟨rfl, fun x hx => by cases hx⟩
  | ok e r =>
    show (exprP (if isT (hd r) [41] then .ok (e.move p) r.tail else .er 20 (hd r).pos)).2 = (St.good r).want [41] ∧ ∀ x, (exprP (if isT (hd r) [41] then .ok (e.move p) r.tail else .er 20 (hd r).pos)).1 = some x → ∃ e', some e = some e' ∧ x = e'.move p
    by_cases h : isT (hd r) [41] = true
    · rw [if_pos h]
      refine ⟨?_, fun x hx => ⟨e, rfl, ?_⟩⟩
      · unfold St.want; rw [show (St.good r).hd = hd r from rfl, if_pos h]; rfl
      · injection hx with hx; exact hx.symm
    · rw [if_neg h]
      refine ⟨?_, fun x hx => by cases hx⟩
      unfold St.want; rw [show (St.good r).hd = hd r from rfl, if_neg h]; rfl
theorem lift_rest {d : Dp} {us : List Tok} (h1 : (hd us).kind ≠ 1) (h2 : (hd us).kind ≠ 2) :
    (lift (atomX d) (.good us)).2 = (lift d.c ((St.good us).want [40])).2.want [41] ∧ ∀ x, (lift (atomX d) (.good us)).1 = some x → ∃ e, (lift d.c ((St.good us).want [40])).1 = some e ∧ x = e.move (hd us).pos := by
  show (exprP (atomX d us)).2 = _ ∧ ∀ x, (exprP (atomX d us)).1 = some x → _
  unfold atomX
  by_cases hi : isT (hd us) [40] = true
  · rw [if_pos hi]; exact lift_enc hi
  · have hw : (St.good us).want [40] = .bad 20 (hd us).pos := by unfold St.want; rw [show (St.good us).hd = hd us from rfl, if_neg hi]; rfl
    rw [if_neg hi, if_neg h1, if_neg h2, hw]
    exact ⟨rfl, fun x hx => by cases hx⟩
theorem name_par1 {us : List Tok} (hf : Fine us) (h1 : (hd us).kind = 1) : isT (hd us) [40] = false := by
  obtain ⟨c, r, h2, h3, _⟩ := hf.name h1
  unfold isT
  rw [h2]
  have : (c :: r == [40]) = false := by
    rw [beq_eq_false_iff_ne]
    intro e
    injection e with e _
    rw [e] at h3
    revert h3
    decide
  simp [this]
theorem two_in (s : ByteArray) (w : World) : Calls Tryz.prog 122 #[.string s, .slice (some ⟨w.heap.size, 0, none⟩) 2 2] (w.alloc (.cells #[.string ⟨#[116, 114, 117, 101]⟩, .string ⟨#[102, 97, 108, 115, 101]⟩] 9)) (InP (decide (s.data.toList ∈ [opTrue, opFalse])) (w.alloc (.cells #[.string ⟨#[116, 114, 117, 101]⟩, .string ⟨#[102, 97, 108, 115, 101]⟩] 9))) :=
  rin_any s [opTrue, opFalse] w.heap.size 2 _ (heap_alloc_new w _) (by decide)
theorem minus_no {d : Dp} {us : List Tok} (hi : isT (hd us) [45] = false) : lift (minusX d) (.good us) = lift (atomX d) (.good us) := by
  show exprP (minusX d us) = exprP (atomX d us)
  unfold minusX
  rw [if_neg (by rw [hi]; simp)]
set_option maxHeartbeats 2000000 in
set_option maxRecDepth 100000 in
theorem ratom_neg {D lev l : Nat} (hlev : lev ≤ D) (hN : RCD 208 (dp l).m D (lev + 1)) (w : World) (pb : Nat) (us : List Tok) (z : Int) (hz : z = (lev : Int)) (h : DS w pb D (.good us)) (hi : isT (hd us) [45] = true) :
    Calls Tryz.prog 208 #[.pointer (some ⟨pb, 0, none⟩), .int .i64 z] w (DP pb D (lift (minusX (dp l)) (.good us)) w) := by
  have hm := DV.start h
  have g1 : decide ((D : Int) < z) = false := by simp; omega
  have hz1 : z + 1 = ((lev + 1 : Nat) : Int) := by omega
  have hz2 : 0 ≤ z := by omega
  have hz3 : z ≤ 64 := by have := DR.dep h; omega
  obtain ⟨y2, y3, _⟩ := h.cells
  replace y3 : w.cell? ⟨pb, 3, none⟩ = some (.int .i64 ((0 : Nat) : Int)) := y3
  have hl := h.lt
  have hlen := DR.fine h |>.len
  have M := Lib.hid hm
  have H1 := Lib.hid (rnow_any hm.d)
  have HZ1 := Lib.hid hz1
  obtain ⟨tb, htb⟩ : ∃ tb : ByteArray, tb = ⟨(hd us).text.toArray⟩ := ⟨_, rfl⟩
  have HTB := Lib.hid (show tb.data.toList = (hd us).text by rw [htb])
  have hts : tb.size ≤ 65536 := by rw [← size_list, HTB.out]; exact hlen
  have HTE := Lib.hid htb
  rw [← htb] at H1
  obtain ⟨kd, hkd⟩ : ∃ kd : Int, kd = ((hd us).kind : Int) := ⟨_, rfl⟩
  rw [← hkd] at H1
  obtain ⟨ps, hps⟩ : ∃ ps : Int, ps = ((hd us).pos : Int) := ⟨_, rfl⟩
  have HPS := Lib.hid hps
  rw [← hps] at H1
  have HI := Lib.hid (show isT (hd us) (⟨#[45]⟩ : ByteArray).data.toList = true from hi)
  have HR := Lib.hid (show lift (minusX (dp l)) (.good us) = ((lift (dp l).m (.good us.tail)).1.map (fun b => Ex.un opNeg b (hd us).pos), (lift (dp l).m (.good us.tail)).2) by
    rw [show lift (minusX (dp l)) (.good us) = exprP (minusX (dp l) us) from rfl]
    unfold minusX
    rw [if_pos hi, lift_pre])
  have HN := Lib.hid hN
  have HK := Lib.hid (isT_kind hi)
  clear h hm hN hz hz1 hlev hi htb hkd hps
  go_enter Tryz.func208, Tryz.ntmps208
  go_wp2_with fail
  refine (H1.out).mono ?_
  rintro e w1 ⟨rfl, hb1⟩
  have M1 := Lib.hid ((M.out.below hb1).alloc (.cells #[.int .i64 kd, .string tb, .int .i64 ps] 110))
  have T1 := Lib.hid (show TB (w1.alloc (.cells #[.int .i64 kd, .string tb, .int .i64 ps] 110)) w1.heap.size kd tb ps from heap_alloc_new w1 _)
  have hs1 : w.heap.size + 1 ≤ w1.heap.size := by have := hb1.size; simp at this; omega
  have hpl := M.out.l
  clear hb1 H1 M
  go_wp2_with fail
  refine calls_gen (P := fun W => DV w W pb D (.good us) ∧ TB W w1.heap.size kd tb ps) ⟨M1.out, T1.out⟩ ?_
  rintro W ⟨hM, hT⟩
  refine (ris_any hM.d ⟨#[45]⟩).mono ?_
  rintro e w2 ⟨rfl, hb2⟩
  rw [HI.out]
  have M2 := Lib.hid (hM.below hb2)
  have T2 := Lib.hid (hT.below hb2)
  clear hM hT hb2 M1 T1 HI
  obtain ⟨k, hk1, hk2, hT⟩ := M2.out.tail HK.out
  have fk := M2.out.cells.2.2 1
  have hlk := M2.out.d.lt
  have hpne : w1.heap.size ≠ pb := by omega
  have M3 := Lib.hid hT
  have T3 := Lib.hid (T2.out.far (p := ⟨pb, 1, none⟩) hpne (.int .i64 ((k : Int) + 1)))
  clear hT M2 T2
  go_wp2_with fail
  refine calls_gen (P := fun W => DV w W pb D (.good us.tail) ∧ TB W w1.heap.size kd tb ps) ⟨M3.out, T3.out⟩ ?_
  rintro W2 ⟨hM, hT⟩
  refine (HN.out W2 pb _ (z + 1) HZ1.out hM.d).mono ?_
  rintro e w3 ⟨o3, nm3, n3, A3, ll3, cap3, p3, rfl, hF, hD, hx⟩
  have hsz3 := hF.size
  have hszz := hM.z.lt
  have M4 := Lib.hid (hM.step hF hD)
  have HX := Lib.hid hx
  obtain ⟨t0, t1, t2⟩ := (hT.fr hF hpne).cells
  have htl := (hT.fr hF hpne).lt
  obtain ⟨b0, b1, b2, b3, b4⟩ := M4.out.z.cells
  have z0 := M4.out.z.frozen 0
  have z1 := M4.out.z.frozen 1
  have z2 := M4.out.z.frozen 2
  have z3 := M4.out.z.frozen 3
  have z4 := M4.out.z.frozen 4
  have hbl := M4.out.z.lt
  have HZW := Lib.hid (show w.heap.size < W2.heap.size by omega)
  clear hM hT hF hD hx M3 T3 HN hk1 fk
  go_wp2
  obtain ⟨d0, d1, d2, d3, d4⟩ := (M4.out.ucells (x0 := .string ⟨#[110, 101, 103]⟩) (x1 := .string ⟨#[]⟩) (x2 := .int .i64 0) (x3 := .slice (some ⟨w3.heap.size + 1, 0, none⟩) 1 1) (x4 := .int .i64 ps) (((Below.refl _ _).alloc (by simp) (.cells #[.string o3, .string nm3, .int .i64 n3, .slice A3 ll3 cap3, .int .i64 p3] 70)).alloc (by simp) (.cells #[.string o3, .string nm3, .int .i64 n3, .slice A3 ll3 cap3, .int .i64 p3] 70))).cells
  rw [HR.out]
  refine bodyPost_ret (v := .agg #[.string ⟨#[110, 101, 103]⟩, .string ⟨#[]⟩, .int .i64 0, .slice (some ⟨w3.heap.size + 1, 0, none⟩) 1 1, .int .i64 ps]) (by simp [results, Tryz.results208, go_sem, d0, d1, d2, d3, d4]) rfl ?_
  refine M4.out.fin (res := ((lift (dp l).m (.good us.tail)).1.map (fun b => Ex.un opNeg b (hd us).pos), (lift (dp l).m (.good us.tail)).2)) rfl (((Below.refl _ _).alloc (by simp) _).alloc (by simp) _) (fun x hx => ?_)
  obtain ⟨b, hb, rfl⟩ := Option.map_eq_some_iff.1 hx
  have E5z := EX.newAt (W := (((((w3.setCell ⟨w.heap.size, 0, none⟩ (.string ⟨#[110, 101, 103]⟩)).setCell ⟨w.heap.size, 1, none⟩ (.string ⟨#[]⟩)).setCell ⟨w.heap.size, 2, none⟩ (.int .i64 0)).setCell ⟨w.heap.size, 3, none⟩ (.slice (some ⟨w3.heap.size + 1, 0, none⟩) 1 1)).setCell ⟨w.heap.size, 4, none⟩ (.int .i64 ps))) (lo := w.heap.size + 1) (v := ⟨o3, nm3, n3, A3, ll3, cap3, p3⟩) (x := some b) (k := w3.heap.size) (by simp) (fun e he => by
    injection he with he
    subst he
    have hzw := HZW.out
    exact ((HX.out b hb).far5S (b := w.heap.size) (by unfold Rg; omega) _ _ _ _ _).wide (fun j _ hj => by unfold Rg at *; simp; omega))
  exact ex_un E5z (by simp) (by omega) opNeg HPS.out
set_option maxHeartbeats 2000000 in
set_option maxRecDepth 100000 in
theorem ratom_num {D lev l : Nat} (hlev : lev ≤ D) (w : World) (pb : Nat) (us : List Tok) (z : Int) (hz : z = (lev : Int)) (h : DS w pb D (.good us)) (hi : isT (hd us) [45] = false) (h2 : (hd us).kind = 2) :
    Calls Tryz.prog 208 #[.pointer (some ⟨pb, 0, none⟩), .int .i64 z] w (DP pb D (lift (minusX (dp l)) (.good us)) w) := by
  have hm := DV.start h
  have g1 : decide ((D : Int) < z) = false := by simp; omega
  have hz1 : z + 1 = ((lev + 1 : Nat) : Int) := by omega
  have hz2 : 0 ≤ z := by omega
  have hz3 : z ≤ 64 := by have := DR.dep h; omega
  obtain ⟨y2, y3, _⟩ := h.cells
  replace y3 : w.cell? ⟨pb, 3, none⟩ = some (.int .i64 ((0 : Nat) : Int)) := y3
  have hl := h.lt
  have hlen := DR.fine h |>.len
  have M := Lib.hid hm
  have H1 := Lib.hid (rnow_any hm.d)
  have HZ1 := Lib.hid hz1
  obtain ⟨tb, htb⟩ : ∃ tb : ByteArray, tb = ⟨(hd us).text.toArray⟩ := ⟨_, rfl⟩
  have HTB := Lib.hid (show tb.data.toList = (hd us).text by rw [htb])
  have hts : tb.size ≤ 65536 := by rw [← size_list, HTB.out]; exact hlen
  have HTE := Lib.hid htb
  rw [← htb] at H1
  obtain ⟨kd, hkd⟩ : ∃ kd : Int, kd = ((hd us).kind : Int) := ⟨_, rfl⟩
  rw [← hkd] at H1
  obtain ⟨ps, hps⟩ : ∃ ps : Int, ps = ((hd us).pos : Int) := ⟨_, rfl⟩
  have HPS := Lib.hid hps
  rw [← hps] at H1
  have HI := Lib.hid (show isT (hd us) (⟨#[45]⟩ : ByteArray).data.toList = false from hi)
  have HR := Lib.hid (show lift (minusX (dp l)) (.good us) = (some (.leaf opNum [] (valOf (hd us).text) (hd us).pos), .good us.tail) by
    rw [minus_no hi]
    refine lift_ok ?_
    unfold atomX
    rw [if_neg (by unfold isT; rw [h2]; simp), if_neg (by omega), if_pos h2])
  have g2 : (kd == 2) = true := by rw [hkd, h2]; rfl
  obtain ⟨n1, n2, n3⟩ := (DR.fine h).numb h2
  have HV := Lib.hid (fun W : World => value_any tb W hts (by rw [HTB.out]; exact n2))
  rw [HTB.out] at HV
  have HN3 := Lib.hid n3
  have HK := Lib.hid (show (hd us).kind ≠ 0 by omega)
  clear h hm hz hz1 hlev hi htb hkd hps n1 n2 n3 h2
  go_enter Tryz.func208, Tryz.ntmps208
  go_wp2_with fail
  refine (H1.out).mono ?_
  rintro e w1 ⟨rfl, hb1⟩
  have M1 := Lib.hid ((M.out.below hb1).alloc (.cells #[.int .i64 kd, .string tb, .int .i64 ps] 110))
  have T1 := Lib.hid (show TB (w1.alloc (.cells #[.int .i64 kd, .string tb, .int .i64 ps] 110)) w1.heap.size kd tb ps from heap_alloc_new w1 _)
  have hs1 : w.heap.size + 1 ≤ w1.heap.size := by have := hb1.size; simp at this; omega
  have hpl := M.out.l
  clear hb1 H1 M
  go_wp2_with fail
  refine calls_gen (P := fun W => DV w W pb D (.good us) ∧ TB W w1.heap.size kd tb ps) ⟨M1.out, T1.out⟩ ?_
  rintro W ⟨hM, hT⟩
  refine (ris_any hM.d ⟨#[45]⟩).mono ?_
  rintro e w2 ⟨rfl, hb2⟩
  rw [HI.out]
  have M2 := Lib.hid (hM.below hb2)
  have T2 := Lib.hid (hT.below hb2)
  clear hM hT hb2 M1 T1 HI
  obtain ⟨k, hk1, hk2, hT⟩ := M2.out.tail HK.out
  have fk := M2.out.cells.2.2 1
  have hlk := M2.out.d.lt
  have hpne : w1.heap.size ≠ pb := by omega
  have M3 := Lib.hid hT
  have T3 := Lib.hid (T2.out.far (p := ⟨pb, 1, none⟩) hpne (.int .i64 ((k : Int) + 1)))
  obtain ⟨t0, t1, t2⟩ := T3.out.cells
  have htl := T3.out.lt
  obtain ⟨u0, u1, u2⟩ := T2.out.cells
  have hul := T2.out.lt
  clear hT M2 T2
  have HVT := Lib.hid (show valT (hd us).text = .tuple #[.int .i64 (valOf (hd us).text), .bool true] by unfold valT; rw [if_pos HN3.out])
  go_wp2_with fail
  refine calls_gen (P := fun W => DV w W pb D (.good us.tail) ∧ TB W w1.heap.size kd tb ps) ⟨M3.out, T3.out⟩ ?_
  rintro W2 ⟨hM, hT⟩
  refine (HV.out W2).mono ?_
  rintro e w3 ⟨rfl, rfl⟩
  rw [HVT.out]
  obtain ⟨t0, t1, t2⟩ := hT.cells
  have htl := hT.lt
  have M4 := Lib.hid hM
  obtain ⟨b0, b1, b2, b3, b4⟩ := M4.out.z.cells
  have z0 := M4.out.z.frozen 0
  have z1 := M4.out.z.frozen 1
  have z2 := M4.out.z.frozen 2
  have z3 := M4.out.z.frozen 3
  have z4 := M4.out.z.frozen 4
  have hbl := M4.out.z.lt
  clear hM hT M3 T3 hk1 fk u0 u1 u2 hul
  go_wp2
  obtain ⟨d0, d1, d2, d3, d4⟩ := (M4.out.zcells (.string ⟨#[110, 117, 109]⟩) (.string ⟨#[]⟩) (.int .i64 (valOf (hd us).text : Int)) (.slice none 0 0) (.int .i64 ps)).cells
  rw [HR.out]
  refine bodyPost_ret (v := .agg #[.string ⟨#[110, 117, 109]⟩, .string ⟨#[]⟩, .int .i64 (valOf (hd us).text : Int), .slice none 0 0, .int .i64 ps]) (by simp [results, Tryz.results208, go_sem, d0, d1, d2, d3, d4]) rfl ?_
  refine M4.out.done (res := (some (.leaf opNum [] (valOf (hd us).text) (hd us).pos), .good us.tail)) rfl (fun x hx => ?_)
  injection hx with hx
  subst hx
  rw [HPS.out]
  rfl
set_option maxHeartbeats 2000000 in
set_option maxRecDepth 100000 in
theorem ratom_name {D lev l : Nat} (hlev : lev ≤ D) (w : World) (pb : Nat) (us : List Tok) (z : Int) (hz : z = (lev : Int)) (h : DS w pb D (.good us)) (hi : isT (hd us) [45] = false) (h1 : (hd us).kind = 1) :
    Calls Tryz.prog 208 #[.pointer (some ⟨pb, 0, none⟩), .int .i64 z] w (DP pb D (lift (minusX (dp l)) (.good us)) w) := by
  have hm := DV.start h
  have g1 : decide ((D : Int) < z) = false := by simp; omega
  have hz1 : z + 1 = ((lev + 1 : Nat) : Int) := by omega
  have hz2 : 0 ≤ z := by omega
  have hz3 : z ≤ 64 := by have := DR.dep h; omega
  obtain ⟨y2, y3, _⟩ := h.cells
  replace y3 : w.cell? ⟨pb, 3, none⟩ = some (.int .i64 ((0 : Nat) : Int)) := y3
  have hl := h.lt
  have hlen := DR.fine h |>.len
  have M := Lib.hid hm
  have H1 := Lib.hid (rnow_any hm.d)
  have HZ1 := Lib.hid hz1
  obtain ⟨tb, htb⟩ : ∃ tb : ByteArray, tb = ⟨(hd us).text.toArray⟩ := ⟨_, rfl⟩
  have HTB := Lib.hid (show tb.data.toList = (hd us).text by rw [htb])
  have hts : tb.size ≤ 65536 := by rw [← size_list, HTB.out]; exact hlen
  have HTE := Lib.hid htb
  rw [← htb] at H1
  obtain ⟨kd, hkd⟩ : ∃ kd : Int, kd = ((hd us).kind : Int) := ⟨_, rfl⟩
  rw [← hkd] at H1
  obtain ⟨ps, hps⟩ : ∃ ps : Int, ps = ((hd us).pos : Int) := ⟨_, rfl⟩
  have HPS := Lib.hid hps
  rw [← hps] at H1
  have HI := Lib.hid (show isT (hd us) (⟨#[45]⟩ : ByteArray).data.toList = false from hi)
  have HR := Lib.hid (show lift (minusX (dp l)) (.good us) = (some (wordX (hd us).text (hd us).pos), .good us.tail) by
    rw [minus_no hi]
    refine lift_ok ?_
    unfold atomX
    rw [if_neg (by rw [name_par1 (DR.fine h) h1]; simp), if_pos h1])
  have g2 : (kd == 2) = false := by rw [hkd, h1]; rfl
  have g3 : (kd == 1) = true := by rw [hkd, h1]; rfl
  have HIN := Lib.hid (two_in tb)
  rw [HTB.out] at HIN
  have HK := Lib.hid (show (hd us).kind ≠ 0 by omega)
  clear h hm hz hz1 hlev hi htb hkd hps h1
  go_enter Tryz.func208, Tryz.ntmps208
  go_wp2_with fail
  refine (H1.out).mono ?_
  rintro e w1 ⟨rfl, hb1⟩
  have M1 := Lib.hid ((M.out.below hb1).alloc (.cells #[.int .i64 kd, .string tb, .int .i64 ps] 110))
  have T1 := Lib.hid (show TB (w1.alloc (.cells #[.int .i64 kd, .string tb, .int .i64 ps] 110)) w1.heap.size kd tb ps from heap_alloc_new w1 _)
  have hs1 : w.heap.size + 1 ≤ w1.heap.size := by have := hb1.size; simp at this; omega
  have hpl := M.out.l
  clear hb1 H1 M
  go_wp2_with fail
  refine calls_gen (P := fun W => DV w W pb D (.good us) ∧ TB W w1.heap.size kd tb ps) ⟨M1.out, T1.out⟩ ?_
  rintro W ⟨hM, hT⟩
  refine (ris_any hM.d ⟨#[45]⟩).mono ?_
  rintro e w2 ⟨rfl, hb2⟩
  rw [HI.out]
  have M2 := Lib.hid (hM.below hb2)
  have T2 := Lib.hid (hT.below hb2)
  clear hM hT hb2 M1 T1 HI
  obtain ⟨k, hk1, hk2, hT⟩ := M2.out.tail HK.out
  have fk := M2.out.cells.2.2 1
  have hlk := M2.out.d.lt
  have hpne : w1.heap.size ≠ pb := by omega
  have M3 := Lib.hid hT
  have T3 := Lib.hid (T2.out.far (p := ⟨pb, 1, none⟩) hpne (.int .i64 ((k : Int) + 1)))
  obtain ⟨u0, u1, u2⟩ := T2.out.cells
  have hul := T2.out.lt
  obtain ⟨t0, t1, t2⟩ := T3.out.cells
  have htl := T3.out.lt
  clear hT M2 T2
  have h5 := HIN.out (w2.setCell ⟨pb, 1, none⟩ (.int .i64 ((k : Int) + 1)))
  rw [show (w2.setCell ⟨pb, 1, none⟩ (.int .i64 ((k : Int) + 1))).heap.size = w2.heap.size by simp] at h5
  have H5 := Lib.hid h5
  have M4 := Lib.hid (M3.out.alloc (.cells #[.string ⟨#[116, 114, 117, 101]⟩, .string ⟨#[102, 97, 108, 115, 101]⟩] 9))
  have T4 := Lib.hid (T3.out.alloc (.cells #[.string ⟨#[116, 114, 117, 101]⟩, .string ⟨#[102, 97, 108, 115, 101]⟩] 9))
  clear h5
  by_cases hw : (hd us).text = opTrue ∨ (hd us).text = opFalse
  · have HW := Lib.hid (show wordX (hd us).text (hd us).pos = .leaf (hd us).text [] 0 (hd us).pos by unfold wordX; rw [if_pos hw])
    rw [show decide ((hd us).text ∈ [opTrue, opFalse]) = true by simpa using hw] at H5
    clear hw
    go_wp2_with fail
    refine (H5.out).mono ?_
    rintro e w4 ⟨rfl, rfl⟩
    generalize (w2.setCell ⟨pb, 1, none⟩ (.int .i64 ((k : Int) + 1))).alloc (.cells #[.string ⟨#[116, 114, 117, 101]⟩, .string ⟨#[102, 97, 108, 115, 101]⟩] 9) = W5 at M4 T4 ⊢
    clear M3 T3 H5 t0 t1 t2 htl u0 u1 u2 hul hk1 fk
    obtain ⟨t0, t1, t2⟩ := T4.out.cells
    have htl := T4.out.lt
    obtain ⟨b0, b1, b2, b3, b4⟩ := M4.out.z.cells
    have z0 := M4.out.z.frozen 0
    have z1 := M4.out.z.frozen 1
    have z2 := M4.out.z.frozen 2
    have z3 := M4.out.z.frozen 3
    have z4 := M4.out.z.frozen 4
    have hbl := M4.out.z.lt
    go_wp2
    obtain ⟨d0, d1, d2, d3, d4⟩ := (M4.out.zcells (.string tb) (.string ⟨#[]⟩) (.int .i64 0) (.slice none 0 0) (.int .i64 ps)).cells
    rw [HR.out, HW.out]
    refine bodyPost_ret (v := .agg #[.string tb, .string ⟨#[]⟩, .int .i64 0, .slice none 0 0, .int .i64 ps]) (by simp [results, Tryz.results208, go_sem, d0, d1, d2, d3, d4]) rfl ?_
    refine M4.out.done (res := (some (.leaf (hd us).text [] 0 (hd us).pos), .good us.tail)) rfl (fun x hx => ?_)
    injection hx with hx
    subst hx
    rw [HPS.out, HTE.out]
    rfl
  · have HW := Lib.hid (show wordX (hd us).text (hd us).pos = .leaf opName (hd us).text 0 (hd us).pos by unfold wordX; rw [if_neg hw])
    rw [show decide ((hd us).text ∈ [opTrue, opFalse]) = false by simpa using hw] at H5
    clear hw
    go_wp2_with fail
    refine (H5.out).mono ?_
    rintro e w4 ⟨rfl, rfl⟩
    generalize (w2.setCell ⟨pb, 1, none⟩ (.int .i64 ((k : Int) + 1))).alloc (.cells #[.string ⟨#[116, 114, 117, 101]⟩, .string ⟨#[102, 97, 108, 115, 101]⟩] 9) = W5 at M4 T4 ⊢
    clear M3 T3 H5 t0 t1 t2 htl u0 u1 u2 hul hk1 fk
    obtain ⟨t0, t1, t2⟩ := T4.out.cells
    have htl := T4.out.lt
    obtain ⟨b0, b1, b2, b3, b4⟩ := M4.out.z.cells
    have z0 := M4.out.z.frozen 0
    have z1 := M4.out.z.frozen 1
    have z2 := M4.out.z.frozen 2
    have z3 := M4.out.z.frozen 3
    have z4 := M4.out.z.frozen 4
    have hbl := M4.out.z.lt
    go_wp2
    obtain ⟨d0, d1, d2, d3, d4⟩ := (M4.out.zcells (.string ⟨#[110, 97, 109, 101]⟩) (.string tb) (.int .i64 0) (.slice none 0 0) (.int .i64 ps)).cells
    rw [HR.out, HW.out]
    refine bodyPost_ret (v := .agg #[.string ⟨#[110, 97, 109, 101]⟩, .string tb, .int .i64 0, .slice none 0 0, .int .i64 ps]) (by simp [results, Tryz.results208, go_sem, d0, d1, d2, d3, d4]) rfl ?_
    refine M4.out.done (res := (some (.leaf opName (hd us).text 0 (hd us).pos), .good us.tail)) rfl (fun x hx => ?_)
    injection hx with hx
    subst hx
    rw [HPS.out, HTE.out]
    rfl
set_option maxHeartbeats 2000000 in
set_option maxRecDepth 100000 in
theorem ratom_rest {D lev l : Nat} (hlev : lev ≤ D) (hC : RCD 78 (dp l).c D (lev + 1)) (w : World) (pb : Nat) (us : List Tok) (z : Int) (hz : z = (lev : Int)) (h : DS w pb D (.good us)) (hi : isT (hd us) [45] = false) (h1 : (hd us).kind ≠ 1) (h2 : (hd us).kind ≠ 2) :
    Calls Tryz.prog 208 #[.pointer (some ⟨pb, 0, none⟩), .int .i64 z] w (DP pb D (lift (minusX (dp l)) (.good us)) w) := by
  have hm := DV.start h
  have g1 : decide ((D : Int) < z) = false := by simp; omega
  have hz1 : z + 1 = ((lev + 1 : Nat) : Int) := by omega
  have hz2 : 0 ≤ z := by omega
  have hz3 : z ≤ 64 := by have := DR.dep h; omega
  obtain ⟨y2, y3, _⟩ := h.cells
  replace y3 : w.cell? ⟨pb, 3, none⟩ = some (.int .i64 ((0 : Nat) : Int)) := y3
  have hl := h.lt
  have hlen := DR.fine h |>.len
  have M := Lib.hid hm
  have H1 := Lib.hid (rnow_any hm.d)
  have HZ1 := Lib.hid hz1
  obtain ⟨tb, htb⟩ : ∃ tb : ByteArray, tb = ⟨(hd us).text.toArray⟩ := ⟨_, rfl⟩
  have HTB := Lib.hid (show tb.data.toList = (hd us).text by rw [htb])
  have hts : tb.size ≤ 65536 := by rw [← size_list, HTB.out]; exact hlen
  have HTE := Lib.hid htb
  rw [← htb] at H1
  obtain ⟨kd, hkd⟩ : ∃ kd : Int, kd = ((hd us).kind : Int) := ⟨_, rfl⟩
  rw [← hkd] at H1
  obtain ⟨ps, hps⟩ : ∃ ps : Int, ps = ((hd us).pos : Int) := ⟨_, rfl⟩
  have HPS := Lib.hid hps
  rw [← hps] at H1
  have HI := Lib.hid (show isT (hd us) (⟨#[45]⟩ : ByteArray).data.toList = false from hi)
  have HR := Lib.hid (lift_rest (d := dp l) h1 h2)
  have HN := Lib.hid (minus_no (d := dp l) hi)
  have g2 : (kd == 2) = false := by rw [hkd, beq_eq_false_iff_ne]; omega
  have g3 : (kd == 1) = false := by rw [hkd, beq_eq_false_iff_ne]; omega
  have HC := Lib.hid hC
  clear h hm hz hz1 hlev hi htb hkd hps h1 h2 hC
  go_enter Tryz.func208, Tryz.ntmps208
  go_wp2_with fail
  refine (H1.out).mono ?_
  rintro e w1 ⟨rfl, hb1⟩
  have M1 := Lib.hid ((M.out.below hb1).alloc (.cells #[.int .i64 kd, .string tb, .int .i64 ps] 110))
  have T1 := Lib.hid (show TB (w1.alloc (.cells #[.int .i64 kd, .string tb, .int .i64 ps] 110)) w1.heap.size kd tb ps from heap_alloc_new w1 _)
  have hs1 : w.heap.size + 1 ≤ w1.heap.size := by have := hb1.size; simp at this; omega
  have hpl := M.out.l
  clear hb1 H1 M
  go_wp2_with fail
  refine calls_gen (P := fun W => DV w W pb D (.good us) ∧ TB W w1.heap.size kd tb ps) ⟨M1.out, T1.out⟩ ?_
  rintro W ⟨hM, hT⟩
  refine (ris_any hM.d ⟨#[45]⟩).mono ?_
  rintro e w2 ⟨rfl, hb2⟩
  rw [HI.out]
  have M2 := Lib.hid (hM.below hb2)
  have T2 := Lib.hid (hT.below hb2)
  clear hM hT hb2 M1 T1 HI
  obtain ⟨t0, t1, t2⟩ := T2.out.cells
  have htl := T2.out.lt
  have hpne : w1.heap.size ≠ pb := by omega
  go_wp2_with fail
  refine (rwant_any M2.out.d ⟨#[40]⟩).mono ?_
  rintro e w3 ⟨rfl, hF, hD⟩
  have M3 := Lib.hid (show DV w w3 pb D ((St.good us).want [40]) from M2.out.step hF hD)
  have T3 := Lib.hid (T2.out.fr hF hpne)
  clear hF hD M2 T2 t0 t1 t2 htl
  go_wp2_with fail
  refine (HC.out w3 pb _ (z + 1) HZ1.out M3.out.d).mono ?_
  rintro e w4 ⟨o, nm, n, A, ll, cap, p, rfl, hF, hD, hx⟩
  obtain ⟨s2, hs2⟩ : ∃ s2, s2 = lift (dp l).c ((St.good us).want [40]) := ⟨_, rfl⟩
  rw [← hs2] at HR hD hx
  have hs3 := M3.out.z.lt
  have hs4 := hF.size
  have M4 := Lib.hid ((M3.out.step hF hD).alloc (.cells #[.string o, .string nm, .int .i64 n, .slice A ll cap, .int .i64 p] 70))
  have T4 := Lib.hid ((T3.out.fr hF hpne).alloc (.cells #[.string o, .string nm, .int .i64 n, .slice A ll cap, .int .i64 p] 70))
  have E4 := Lib.hid (EB.ofDP (lo := w.heap.size + 1) (by omega) hx)
  have hlz := (M3.out.step hF hD).d.lt
  clear hF hD hx M3 T3 hs2
  go_wp2_with fail
  refine calls_gen (P := fun W => DV w W pb D s2.2 ∧ TB W w1.heap.size kd tb ps ∧ EB W (w.heap.size + 1) w4.heap.size ⟨o, nm, n, A, ll, cap, p⟩ s2.1) ⟨M4.out, T4.out, E4.out⟩ ?_
  rintro W4 ⟨hM, hT, hE⟩
  refine (rwant_any hM.d ⟨#[41]⟩).mono ?_
  rintro e w5 ⟨rfl, hF, hD⟩
  have hb4 : w4.heap.size ≠ pb := by omega
  have M5 := Lib.hid (show DV w w5 pb D (s2.2.want [41]) from hM.step hF hD)
  obtain ⟨t0, t1, t2⟩ := (hT.fr hF hpne).cells
  have htl := (hT.fr hF hpne).lt
  have E5 := Lib.hid (hE.fr hF hb4 (by omega))
  clear hM hT hE hF hD M4 T4 E4
  obtain ⟨e0, e1, e2, e3, e4⟩ := E5.out.bx.cells
  have q4 := E5.out.bx.frozen 4
  have hel := E5.out.bx.lt
  have hzne : w.heap.size ≠ w4.heap.size := by omega
  have M6 := Lib.hid (M5.out.setBox E5.out.bx (by omega) ps)
  have E6 := Lib.hid (E5.out.pos4 ps)
  obtain ⟨b0, b1, b2, b3, b4⟩ := M5.out.z.cells
  have z0 := M5.out.z.frozen 0
  have z1 := M5.out.z.frozen 1
  have z2 := M5.out.z.frozen 2
  have z3 := M5.out.z.frozen 3
  have z4 := M5.out.z.frozen 4
  have hbl := M5.out.z.lt
  go_wp2
  obtain ⟨d0, d1, d2, d3, d4⟩ := (M6.out.zcells (.string o) (.string nm) (.int .i64 n) (.slice A ll cap) (.int .i64 ps)).cells
  refine bodyPost_ret (v := .agg #[.string o, .string nm, .int .i64 n, .slice A ll cap, .int .i64 ps]) (by simp [results, Tryz.results208, go_sem, d0, d1, d2, d3, d4]) rfl ?_
  rw [HN.out]
  refine M6.out.done HR.out.1 (fun x hx => ?_)
  obtain ⟨e, he, rfl⟩ := HR.out.2 x hx
  have := (E6.out e he).move (hd us).pos
  rw [← HPS.out] at this
  exact this
theorem ratom_main {D lev l : Nat} (hlev : lev ≤ D) (hN : RCD 208 (dp l).m D (lev + 1)) (hC : RCD 78 (dp l).c D (lev + 1)) (w : World) (pb : Nat) (us : List Tok) (z : Int) (hz : z = (lev : Int)) (h : DS w pb D (.good us)) :
    Calls Tryz.prog 208 #[.pointer (some ⟨pb, 0, none⟩), .int .i64 z] w (DP pb D (lift (minusX (dp l)) (.good us)) w) := by
  cases hi : isT (hd us) [45] with
  | true => exact ratom_neg hlev hN w pb us z hz h hi
  | false =>
    by_cases h2 : (hd us).kind = 2
    · exact ratom_num hlev w pb us z hz h hi h2
    · by_cases h1 : (hd us).kind = 1
      · exact ratom_name hlev w pb us z hz h hi h1
      · exact ratom_rest hlev hC w pb us z hz h hi h1 h2
end Go.Proofs.YtddeplbgihcdkaaGreatDoor
