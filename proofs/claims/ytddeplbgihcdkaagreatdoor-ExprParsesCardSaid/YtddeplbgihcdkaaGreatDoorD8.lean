/-
  The document's parser: what its readers keep; at an error, and too deep.
-/
import Derived.Test.YtddeplbgihcdkaaGreatDoorD5
import Derived.Test.YtddeplbgihcdkaaGreatDoorKV
namespace Go.Proofs.YtddeplbgihcdkaaGreatDoor
open Go.RowKit Go.Sort

/-- A reader of tokens as one of states. -/
def lift (F : List Tok → PR) : St → Option Ex × St
  | .good us => exprP (F us)
  | .bad c p => (none, .bad c p)
/-- What holds while one of the document's readers runs. -/
structure DV (w W : World) (pb D : Nat) (st : St) : Prop where
  f : Fr w.heap.size pb w W
  d : DS W pb D st
  z : BoxR W w.heap.size (.string ⟨#[]⟩) (.string ⟨#[]⟩) (.int .i64 0) (.slice none 0 0) (.int .i64 0)
  l : pb < w.heap.size
section
variable {w W W' : World} {pb D : Nat} {st st' : St}
theorem DV.start (h : DS w pb D st) : DV w (w.alloc (.cells #[.string ⟨#[]⟩, .string ⟨#[]⟩, .int .i64 0, .slice none 0 0, .int .i64 0] 70)) pb D st :=
  ⟨(Fr.refl _ _ _).alloc (Nat.le_refl _) _, h.alloc _, BoxR.new _ _ _ _ _ _, h.lt⟩
theorem DV.step (m : DV w W pb D st) (hf : Fr W.heap.size pb W W') (hd : DS W' pb D st') : DV w W' pb D st' :=
  ⟨m.f.on m.f.size hf, hd, m.z.fr hf (by have := m.l; omega), m.l⟩
theorem DV.below (m : DV w W pb D st) (hb : Below W.heap.size W W') : DV w W' pb D st := m.step (Fr.of hb) (m.d.below hb)
theorem DV.alloc (m : DV w W pb D st) (o : Obj) : DV w (W.alloc o) pb D st := m.below ((Below.refl _ _).alloc (Nat.le_refl _) _)
theorem DV.tail {us : List Tok} (m : DV w W pb D (.good us)) (h0 : (hd us).kind ≠ 0) : ∃ k : Nat, W.cell? ⟨pb, 1, none⟩ = some (.int .i64 (k : Int)) ∧ k ≤ 65537 ∧ DV w (W.setCell ⟨pb, 1, none⟩ (.int .i64 ((k : Int) + 1))) pb D (.good us.tail) := by
  obtain ⟨k, h1, h2, h3⟩ := DR.tail m.d h0
  exact ⟨k, h1, h2, m.step ((Fr.refl _ _ _).setCell (p := ⟨pb, 1, none⟩) (.inr rfl) _) h3⟩
theorem DV.cells (m : DV w W pb D st) : W.cell? ⟨pb, 2, none⟩ = some (.int .i64 (D : Int)) ∧ W.cell? ⟨pb, 3, none⟩ = some (.int .i64 (errOf st : Int)) ∧ (∀ i, W.frozen? ⟨pb, i, none⟩ = false) := m.d.cells
/-- The result has been laid. -/
theorem DV.done (m : DV w W pb D st) {res : Option Ex × St} (hr : res.2 = st) {o nm : ByteArray} {n : Int} {A : Option Addr} {l cap : Nat} {p : Int} (hx : ∀ x, res.1 = some x → HS W 70 (Rg (w.heap.size + 1) W.heap.size) x (exC o nm n A l cap p)) :
    DP pb D res w (.returned (.agg #[.string o, .string nm, .int .i64 n, .slice A l cap, .int .i64 p])) (((((W.setCell ⟨w.heap.size, 0, none⟩ (.string o)).setCell ⟨w.heap.size, 1, none⟩ (.string nm)).setCell ⟨w.heap.size, 2, none⟩ (.int .i64 n)).setCell ⟨w.heap.size, 3, none⟩ (.slice A l cap)).setCell ⟨w.heap.size, 4, none⟩ (.int .i64 p)) :=
  ⟨o, nm, n, A, l, cap, p, rfl, m.f.boxR (Nat.le_refl _) _ _ _ _ _, hr ▸ m.d.set5 m.z (by decide) (by decide) _ _ _ _ _, fun x h => ((hx x h).far5S (by unfold Rg; omega) _ _ _ _ _).wide (fun j _ hj => by simp; unfold Rg at *; omega)⟩
/-- The result has been laid, and blocks of the call's own behind it. -/
theorem DV.fin (m : DV w W pb D st) {res : Option Ex × St} (hr : res.2 = st) {o nm : ByteArray} {n : Int} {A : Option Addr} {l cap : Nat} {p : Int} {U : World}
    (hU : Below W.heap.size (((((W.setCell ⟨w.heap.size, 0, none⟩ (.string o)).setCell ⟨w.heap.size, 1, none⟩ (.string nm)).setCell ⟨w.heap.size, 2, none⟩ (.int .i64 n)).setCell ⟨w.heap.size, 3, none⟩ (.slice A l cap)).setCell ⟨w.heap.size, 4, none⟩ (.int .i64 p)) U)
    (hx : ∀ x, res.1 = some x → HS U 70 (Rg (w.heap.size + 1) U.heap.size) x (exC o nm n A l cap p)) :
    DP pb D res w (.returned (.agg #[.string o, .string nm, .int .i64 n, .slice A l cap, .int .i64 p])) U := by
  have hU' := hU
  rw [show W.heap.size = (((((W.setCell ⟨w.heap.size, 0, none⟩ (.string o)).setCell ⟨w.heap.size, 1, none⟩ (.string nm)).setCell ⟨w.heap.size, 2, none⟩ (.int .i64 n)).setCell ⟨w.heap.size, 3, none⟩ (.slice A l cap)).setCell ⟨w.heap.size, 4, none⟩ (.int .i64 p)).heap.size by simp] at hU'
  have hf : Fr w.heap.size pb w (((((W.setCell ⟨w.heap.size, 0, none⟩ (.string o)).setCell ⟨w.heap.size, 1, none⟩ (.string nm)).setCell ⟨w.heap.size, 2, none⟩ (.int .i64 n)).setCell ⟨w.heap.size, 3, none⟩ (.slice A l cap)).setCell ⟨w.heap.size, 4, none⟩ (.int .i64 p)) := m.f.boxR (Nat.le_refl _) _ _ _ _ _
  exact ⟨o, nm, n, A, l, cap, p, rfl, hf.onB hf.size hU', hr ▸ (m.d.set5 m.z (by decide) (by decide) _ _ _ _ _).below hU', fun x h => (hx x h).mono (by omega) (Nat.le_refl _)⟩
theorem DV.ucells (m : DV w W pb D st) {x0 x1 x2 x3 x4 : Value} {U : World} (hU : Below W.heap.size (((((W.setCell ⟨w.heap.size, 0, none⟩ x0).setCell ⟨w.heap.size, 1, none⟩ x1).setCell ⟨w.heap.size, 2, none⟩ x2).setCell ⟨w.heap.size, 3, none⟩ x3).setCell ⟨w.heap.size, 4, none⟩ x4) U) : BoxR U w.heap.size x0 x1 x2 x3 x4 := by
  rw [show W.heap.size = (((((W.setCell ⟨w.heap.size, 0, none⟩ x0).setCell ⟨w.heap.size, 1, none⟩ x1).setCell ⟨w.heap.size, 2, none⟩ x2).setCell ⟨w.heap.size, 3, none⟩ x3).setCell ⟨w.heap.size, 4, none⟩ x4).heap.size by simp] at hU
  exact (m.z.set5 _ _ _ _ _).below hU
theorem DV.zcells (m : DV w W pb D st) (x0 x1 x2 x3 x4 : Value) : BoxR (((((W.setCell ⟨w.heap.size, 0, none⟩ x0).setCell ⟨w.heap.size, 1, none⟩ x1).setCell ⟨w.heap.size, 2, none⟩ x2).setCell ⟨w.heap.size, 3, none⟩ x3).setCell ⟨w.heap.size, 4, none⟩ x4) w.heap.size x0 x1 x2 x3 x4 := m.z.set5 _ _ _ _ _
end
/-- An expression in a box of the call's own. -/
structure EX (W : World) (lo b : Nat) (v : XV) (x : Option Ex) : Prop where
  bx : BoxR W b (.string v.o) (.string v.nm) (.int .i64 v.n) (.slice v.A v.ll v.cap) (.int .i64 v.p)
  hs : ∀ e, x = some e → HS W 70 (Rg lo W.heap.size) e (exC v.o v.nm v.n v.A v.ll v.cap v.p)
section
variable {W W' : World} {lo b pb : Nat} {v : XV} {x : Option Ex}
theorem EX.fr (h : EX W lo b v x) (hf : Fr W.heap.size pb W W') (hn : b ≠ pb) (hl : pb < lo) : EX W' lo b v x :=
  ⟨h.bx.fr hf hn, fun e he => ((h.hs e he).frS hf (by unfold Rg; omega)).mono (Nat.le_refl _) hf.size⟩
theorem EX.below (h : EX W lo b v x) (hb : Below W.heap.size W W') : EX W' lo b v x :=
  ⟨h.bx.below hb, fun e he => ((h.hs e he).below hb).mono (Nat.le_refl _) hb.size⟩
theorem EX.alloc (h : EX W lo b v x) (o : Obj) : EX (W.alloc o) lo b v x := h.below ((Below.refl _ _).alloc (Nat.le_refl _) _)
theorem EX.ofDP {w w1 : World} {res : Option Ex × St} {o nm : ByteArray} {n : Int} {A : Option Addr} {l cap : Nat} {p : Int} (hlo : lo ≤ w.heap.size) (hx : ∀ x, res.1 = some x → HC w1 70 w.heap.size w1.heap.size x (exC o nm n A l cap p)) :
    EX (w1.alloc (.cells #[.string o, .string nm, .int .i64 n, .slice A l cap, .int .i64 p] 70)) lo w1.heap.size ⟨o, nm, n, A, l, cap, p⟩ res.1 :=
  ⟨BoxR.new _ _ _ _ _ _, fun e he => ((hx e he).alloc _).mono hlo (by simp)⟩
theorem EX.far5 (h : EX W lo b v x) {bz : Nat} (h1 : b ≠ bz) (h2 : bz < lo) (x0 x1 x2 x3 x4 : Value) : EX (((((W.setCell ⟨bz, 0, none⟩ x0).setCell ⟨bz, 1, none⟩ x1).setCell ⟨bz, 2, none⟩ x2).setCell ⟨bz, 3, none⟩ x3).setCell ⟨bz, 4, none⟩ x4) lo b v x :=
  ⟨((((h.bx.far (p := ⟨bz, 0, none⟩) h1 _).far (p := ⟨bz, 1, none⟩) h1 _).far (p := ⟨bz, 2, none⟩) h1 _).far (p := ⟨bz, 3, none⟩) h1 _).far (p := ⟨bz, 4, none⟩) h1 _, fun e he => ((h.hs e he).far5S (b := bz) (by unfold Rg; omega) x0 x1 x2 x3 x4).wide (fun j _ hj => by simpa using hj)⟩
theorem EX.newAt {k : Nat} (hk : k = W.heap.size) (hx : ∀ e, x = some e → HS W 70 (Rg lo W.heap.size) e (exC v.o v.nm v.n v.A v.ll v.cap v.p)) : EX (W.alloc (.cells #[.string v.o, .string v.nm, .int .i64 v.n, .slice v.A v.ll v.cap, .int .i64 v.p] 70)) lo k v x := by
  subst hk
  exact ⟨BoxR.new _ _ _ _ _ _, fun e he => ((hx e he).alloc _).mono (Nat.le_refl _) (by simp)⟩
theorem EX.setCell (h : EX W lo b v x) {p : Addr} (h1 : b ≠ p.block) (h2 : p.block < lo) (u : Value) : EX (W.setCell p u) lo b v x :=
  ⟨h.bx.far h1 u, fun e he => by
    have := (h.hs e he).setCellS (p := p) (by unfold Rg; omega) u
    exact this.wide (fun j _ hj => by simpa using hj)⟩
end
theorem arr_two {W : World} {lo g : Nat} {xs : List Value} (hg : g = W.heap.size) (hl : lo ≤ g) : Arr (W.alloc (.cells xs.toArray 70)) 70 (Rg lo (W.alloc (.cells xs.toArray 70)).heap.size) g xs := by
  subst hg
  exact ⟨⟨hl, by simp⟩, _, heap_alloc_new W _, fun j u hu => by simpa using hu⟩
theorem ex_un {W : World} {lo g : Nat} {bA : Nat} {va : XV} {a : Ex} (ha : EX W lo bA va (some a)) (hg : g = W.heap.size) (hlo : lo ≤ g) (op : List UInt8) {p : Nat} {z : Int} (hz : z = (p : Int)) :
    HS (W.alloc (.cells #[.string va.o, .string va.nm, .int .i64 va.n, .slice va.A va.ll va.cap, .int .i64 va.p] 70)) 70 (Rg lo (W.alloc (.cells #[.string va.o, .string va.nm, .int .i64 va.n, .slice va.A va.ll va.cap, .int .i64 va.p] 70)).heap.size) (.un op a p) (exC ⟨op.toArray⟩ ⟨#[]⟩ 0 (some ⟨g, 0, none⟩) 1 1 z) := by
  have h := arr_two (W := W) (xs := exC va.o va.nm va.n va.A va.ll va.cap va.p) hg hlo
  subst hg hz
  exact ⟨W.heap.size, 1, _, rfl, h, ((ha.hs a rfl).alloc _).mono (Nat.le_refl _) (by simp)⟩
theorem ex_bin {W : World} {lo g : Nat} {bA : Nat} {bB : Nat} {va : XV} {vb : XV} {a : Ex} {b : Ex} (ha : EX W lo bA va (some a)) (hb : EX W lo bB vb (some b)) (hg : g = W.heap.size) (hlo : lo ≤ g) (op : List UInt8) {p : Nat} {z : Int} (hz : z = (p : Int)) :
    HS (W.alloc (.cells #[.string va.o, .string va.nm, .int .i64 va.n, .slice va.A va.ll va.cap, .int .i64 va.p, .string vb.o, .string vb.nm, .int .i64 vb.n, .slice vb.A vb.ll vb.cap, .int .i64 vb.p] 70)) 70 (Rg lo (W.alloc (.cells #[.string va.o, .string va.nm, .int .i64 va.n, .slice va.A va.ll va.cap, .int .i64 va.p, .string vb.o, .string vb.nm, .int .i64 vb.n, .slice vb.A vb.ll vb.cap, .int .i64 vb.p] 70)).heap.size) (.bin op a b p) (exC ⟨op.toArray⟩ ⟨#[]⟩ 0 (some ⟨g, 0, none⟩) 2 2 z) := by
  have h := arr_two (W := W) (xs := exC va.o va.nm va.n va.A va.ll va.cap va.p ++ (exC vb.o vb.nm vb.n vb.A vb.ll vb.cap vb.p)) hg hlo
  subst hg hz
  exact ⟨W.heap.size, 2, _, _, rfl, h, ((ha.hs a rfl).alloc _).mono (Nat.le_refl _) (by simp), ((hb.hs b rfl).alloc _).mono (Nat.le_refl _) (by simp)⟩
theorem ex_cond {W : World} {lo g : Nat} {bA : Nat} {bB : Nat} {bC : Nat} {va : XV} {vb : XV} {vc : XV} {a : Ex} {b : Ex} {c : Ex} (ha : EX W lo bA va (some a)) (hb : EX W lo bB vb (some b)) (hc : EX W lo bC vc (some c)) (hg : g = W.heap.size) (hlo : lo ≤ g) {p : Nat} {z : Int} (hz : z = (p : Int)) :
    HS (W.alloc (.cells #[.string va.o, .string va.nm, .int .i64 va.n, .slice va.A va.ll va.cap, .int .i64 va.p, .string vb.o, .string vb.nm, .int .i64 vb.n, .slice vb.A vb.ll vb.cap, .int .i64 vb.p, .string vc.o, .string vc.nm, .int .i64 vc.n, .slice vc.A vc.ll vc.cap, .int .i64 vc.p] 70)) 70 (Rg lo (W.alloc (.cells #[.string va.o, .string va.nm, .int .i64 va.n, .slice va.A va.ll va.cap, .int .i64 va.p, .string vb.o, .string vb.nm, .int .i64 vb.n, .slice vb.A vb.ll vb.cap, .int .i64 vb.p, .string vc.o, .string vc.nm, .int .i64 vc.n, .slice vc.A vc.ll vc.cap, .int .i64 vc.p] 70)).heap.size) (.cond a b c p) (exC ⟨#[63]⟩ ⟨#[]⟩ 0 (some ⟨g, 0, none⟩) 3 3 z) := by
  have h := arr_two (W := W) (xs := exC va.o va.nm va.n va.A va.ll va.cap va.p ++ (exC vb.o vb.nm vb.n vb.A vb.ll vb.cap vb.p ++ (exC vc.o vc.nm vc.n vc.A vc.ll vc.cap vc.p))) hg hlo
  subst hg hz
  exact ⟨W.heap.size, 3, _, _, _, rfl, h, ((ha.hs a rfl).alloc _).mono (Nat.le_refl _) (by simp), ((hb.hs b rfl).alloc _).mono (Nat.le_refl _) (by simp), ((hc.hs c rfl).alloc _).mono (Nat.le_refl _) (by simp)⟩
theorem ex_pos {W : World} {lo b : Nat} {v : XV} {a : Ex} (h : EX W lo b v (some a)) : v.p = (a.pos : Int) := by
  obtain ⟨nm, n, A, l, cap, h1⟩ := (h.hs a rfl).form
  simp only [exC, List.cons.injEq, Value.int.injEq] at h1
  exact h1.2.2.2.2.1.2
/-- A reader of the document's, at a level. -/
def RCD (f : FuncId) (F : List Tok → PR) (D lev : Nat) : Prop := ∀ (w : World) (pb : Nat) (st : St) (z : Int), z = (lev : Int) → DS w pb D st → Calls Tryz.prog f #[.pointer (some ⟨pb, 0, none⟩), .int .i64 z] w (DP pb D (lift F st) w)
def RCK (k : Nat) (F : List Tok → PR) (D lev : Nat) : Prop := ∀ (w : World) (pb : Nat) (st : St) (y z : Int), y = (k : Int) → z = (lev : Int) → DS w pb D st → Calls Tryz.prog 172 #[.pointer (some ⟨pb, 0, none⟩), .int .i64 y, .int .i64 z] w (DP pb D (lift F st) w)
set_option maxHeartbeats 1000000 in
theorem rcond_bad {w : World} {pb D c0 q0 lev : Nat} (h : DS w pb D (.bad c0 q0)) (F : List Tok → PR) : Calls Tryz.prog 78 #[.pointer (some ⟨pb, 0, none⟩), .int .i64 (lev : Int)] w (DP pb D (lift F (.bad c0 q0)) w) := by
  have hm := DV.start h
  obtain ⟨e2, e3, ef⟩ := h.cells
  have hc : c0 ≠ 0 := h.1
  replace e3 : w.cell? ⟨pb, 3, none⟩ = some (.int .i64 (c0 : Int)) := e3
  have g0 : ((c0 : Int) != 0) = true := by rw [bne_iff_ne]; omega
  have hl := h.lt
  have M := Lib.hid hm
  clear h hm ef hc
  go_enter Tryz.func78, Tryz.ntmps78
  go_wp2
  obtain ⟨d0, d1, d2, d3, d4⟩ := M.out.z.cells
  refine bodyPost_ret (v := .agg #[.string ⟨#[]⟩, .string ⟨#[]⟩, .int .i64 0, .slice none 0 0, .int .i64 0]) (by simp [results, Tryz.results78, go_sem, d0, d1, d2, d3, d4]) rfl ⟨_, _, _, _, _, _, _, rfl, M.out.f, M.out.d, fun x hx => by cases hx⟩
set_option maxHeartbeats 1000000 in
theorem rcond_deep {w : World} {pb D lev : Nat} {us : List Tok} (h : DS w pb D (.good us)) (hlev : D < lev) : Calls Tryz.prog 78 #[.pointer (some ⟨pb, 0, none⟩), .int .i64 (lev : Int)] w (DP pb D (lift deepX (.good us)) w) := by
  have hm := DV.start h
  obtain ⟨e2, e3, ef⟩ := hm.cells
  replace e3 : (w.alloc (.cells #[.string ⟨#[]⟩, .string ⟨#[]⟩, .int .i64 0, .slice none 0 0, .int .i64 0] 70)).cell? ⟨pb, 3, none⟩ = some (.int .i64 ((0 : Nat) : Int)) := e3
  have g1 : decide ((D : Int) < (lev : Int)) = true := by simp; omega
  have g2 : decide (D < lev) = true := by simpa using hlev
  have hl := h.lt
  obtain ⟨y2, y3, yf⟩ := h.cells
  replace y3 : w.cell? ⟨pb, 3, none⟩ = some (.int .i64 ((0 : Nat) : Int)) := y3
  have M := Lib.hid hm
  have H := Lib.hid (rfail_any hm.d 21 (by decide) 21 rfl)
  clear h hm ef yf hlev
  go_enter Tryz.func78, Tryz.ntmps78
  go_wp2_with fail
  refine (H.out).mono ?_
  rintro e w1 ⟨rfl, hF1, hD1⟩
  unfold zeroE
  have M1 := Lib.hid (M.out.step hF1 hD1)
  obtain ⟨b0, b1, b2, b3, b4⟩ := M1.out.z.cells
  have z0 := M1.out.z.frozen 0
  have z1 := M1.out.z.frozen 1
  have z2 := M1.out.z.frozen 2
  have z3 := M1.out.z.frozen 3
  have z4 := M1.out.z.frozen 4
  have hbl := M1.out.z.lt
  clear hF1 hD1 M H
  go_wp2
  obtain ⟨d0, d1, d2, d3, d4⟩ := (M1.out.zcells (.string ⟨#[]⟩) (.string ⟨#[]⟩) (.int .i64 0) (.slice none 0 0) (.int .i64 0)).cells
  refine bodyPost_ret (v := .agg #[.string ⟨#[]⟩, .string ⟨#[]⟩, .int .i64 0, .slice none 0 0, .int .i64 0]) (by simp [results, Tryz.results78, go_sem, d0, d1, d2, d3, d4]) rfl (M1.out.done rfl (fun x hx => by cases hx))
set_option maxHeartbeats 1000000 in
theorem rimply_bad {w : World} {pb D c0 q0 lev : Nat} (h : DS w pb D (.bad c0 q0)) (F : List Tok → PR) : Calls Tryz.prog 127 #[.pointer (some ⟨pb, 0, none⟩), .int .i64 (lev : Int)] w (DP pb D (lift F (.bad c0 q0)) w) := by
  have hm := DV.start h
  obtain ⟨e2, e3, ef⟩ := h.cells
  have hc : c0 ≠ 0 := h.1
  replace e3 : w.cell? ⟨pb, 3, none⟩ = some (.int .i64 (c0 : Int)) := e3
  have g0 : ((c0 : Int) != 0) = true := by rw [bne_iff_ne]; omega
  have hl := h.lt
  have M := Lib.hid hm
  clear h hm ef hc
  go_enter Tryz.func127, Tryz.ntmps127
  go_wp2
  obtain ⟨d0, d1, d2, d3, d4⟩ := M.out.z.cells
  refine bodyPost_ret (v := .agg #[.string ⟨#[]⟩, .string ⟨#[]⟩, .int .i64 0, .slice none 0 0, .int .i64 0]) (by simp [results, Tryz.results127, go_sem, d0, d1, d2, d3, d4]) rfl ⟨_, _, _, _, _, _, _, rfl, M.out.f, M.out.d, fun x hx => by cases hx⟩
set_option maxHeartbeats 1000000 in
theorem rimply_deep {w : World} {pb D lev : Nat} {us : List Tok} (h : DS w pb D (.good us)) (hlev : D < lev) : Calls Tryz.prog 127 #[.pointer (some ⟨pb, 0, none⟩), .int .i64 (lev : Int)] w (DP pb D (lift deepX (.good us)) w) := by
  have hm := DV.start h
  obtain ⟨e2, e3, ef⟩ := hm.cells
  replace e3 : (w.alloc (.cells #[.string ⟨#[]⟩, .string ⟨#[]⟩, .int .i64 0, .slice none 0 0, .int .i64 0] 70)).cell? ⟨pb, 3, none⟩ = some (.int .i64 ((0 : Nat) : Int)) := e3
  have g1 : decide ((D : Int) < (lev : Int)) = true := by simp; omega
  have g2 : decide (D < lev) = true := by simpa using hlev
  have hl := h.lt
  obtain ⟨y2, y3, yf⟩ := h.cells
  replace y3 : w.cell? ⟨pb, 3, none⟩ = some (.int .i64 ((0 : Nat) : Int)) := y3
  have M := Lib.hid hm
  have H := Lib.hid (rfail_any hm.d 21 (by decide) 21 rfl)
  clear h hm ef yf hlev
  go_enter Tryz.func127, Tryz.ntmps127
  go_wp2_with fail
  refine (H.out).mono ?_
  rintro e w1 ⟨rfl, hF1, hD1⟩
  unfold zeroE
  have M1 := Lib.hid (M.out.step hF1 hD1)
  obtain ⟨b0, b1, b2, b3, b4⟩ := M1.out.z.cells
  have z0 := M1.out.z.frozen 0
  have z1 := M1.out.z.frozen 1
  have z2 := M1.out.z.frozen 2
  have z3 := M1.out.z.frozen 3
  have z4 := M1.out.z.frozen 4
  have hbl := M1.out.z.lt
  clear hF1 hD1 M H
  go_wp2
  obtain ⟨d0, d1, d2, d3, d4⟩ := (M1.out.zcells (.string ⟨#[]⟩) (.string ⟨#[]⟩) (.int .i64 0) (.slice none 0 0) (.int .i64 0)).cells
  refine bodyPost_ret (v := .agg #[.string ⟨#[]⟩, .string ⟨#[]⟩, .int .i64 0, .slice none 0 0, .int .i64 0]) (by simp [results, Tryz.results127, go_sem, d0, d1, d2, d3, d4]) rfl (M1.out.done rfl (fun x hx => by cases hx))
set_option maxHeartbeats 1000000 in
theorem rnot_bad {w : World} {pb D c0 q0 lev : Nat} (h : DS w pb D (.bad c0 q0)) (F : List Tok → PR) : Calls Tryz.prog 207 #[.pointer (some ⟨pb, 0, none⟩), .int .i64 (lev : Int)] w (DP pb D (lift F (.bad c0 q0)) w) := by
  have hm := DV.start h
  obtain ⟨e2, e3, ef⟩ := h.cells
  have hc : c0 ≠ 0 := h.1
  replace e3 : w.cell? ⟨pb, 3, none⟩ = some (.int .i64 (c0 : Int)) := e3
  have g0 : ((c0 : Int) != 0) = true := by rw [bne_iff_ne]; omega
  have hl := h.lt
  have M := Lib.hid hm
  clear h hm ef hc
  go_enter Tryz.func207, Tryz.ntmps207
  go_wp2
  obtain ⟨d0, d1, d2, d3, d4⟩ := M.out.z.cells
  refine bodyPost_ret (v := .agg #[.string ⟨#[]⟩, .string ⟨#[]⟩, .int .i64 0, .slice none 0 0, .int .i64 0]) (by simp [results, Tryz.results207, go_sem, d0, d1, d2, d3, d4]) rfl ⟨_, _, _, _, _, _, _, rfl, M.out.f, M.out.d, fun x hx => by cases hx⟩
set_option maxHeartbeats 1000000 in
theorem rnot_deep {w : World} {pb D lev : Nat} {us : List Tok} (h : DS w pb D (.good us)) (hlev : D < lev) : Calls Tryz.prog 207 #[.pointer (some ⟨pb, 0, none⟩), .int .i64 (lev : Int)] w (DP pb D (lift deepX (.good us)) w) := by
  have hm := DV.start h
  obtain ⟨e2, e3, ef⟩ := hm.cells
  replace e3 : (w.alloc (.cells #[.string ⟨#[]⟩, .string ⟨#[]⟩, .int .i64 0, .slice none 0 0, .int .i64 0] 70)).cell? ⟨pb, 3, none⟩ = some (.int .i64 ((0 : Nat) : Int)) := e3
  have g1 : decide ((D : Int) < (lev : Int)) = true := by simp; omega
  have g2 : decide (D < lev) = true := by simpa using hlev
  have hl := h.lt
  obtain ⟨y2, y3, yf⟩ := h.cells
  replace y3 : w.cell? ⟨pb, 3, none⟩ = some (.int .i64 ((0 : Nat) : Int)) := y3
  have M := Lib.hid hm
  have H := Lib.hid (rfail_any hm.d 21 (by decide) 21 rfl)
  clear h hm ef yf hlev
  go_enter Tryz.func207, Tryz.ntmps207
  go_wp2_with fail
  refine (H.out).mono ?_
  rintro e w1 ⟨rfl, hF1, hD1⟩
  unfold zeroE
  have M1 := Lib.hid (M.out.step hF1 hD1)
  obtain ⟨b0, b1, b2, b3, b4⟩ := M1.out.z.cells
  have z0 := M1.out.z.frozen 0
  have z1 := M1.out.z.frozen 1
  have z2 := M1.out.z.frozen 2
  have z3 := M1.out.z.frozen 3
  have z4 := M1.out.z.frozen 4
  have hbl := M1.out.z.lt
  clear hF1 hD1 M H
  go_wp2
  obtain ⟨d0, d1, d2, d3, d4⟩ := (M1.out.zcells (.string ⟨#[]⟩) (.string ⟨#[]⟩) (.int .i64 0) (.slice none 0 0) (.int .i64 0)).cells
  refine bodyPost_ret (v := .agg #[.string ⟨#[]⟩, .string ⟨#[]⟩, .int .i64 0, .slice none 0 0, .int .i64 0]) (by simp [results, Tryz.results207, go_sem, d0, d1, d2, d3, d4]) rfl (M1.out.done rfl (fun x hx => by cases hx))
set_option maxHeartbeats 1000000 in
theorem ratom_bad {w : World} {pb D c0 q0 lev : Nat} (h : DS w pb D (.bad c0 q0)) (F : List Tok → PR) : Calls Tryz.prog 208 #[.pointer (some ⟨pb, 0, none⟩), .int .i64 (lev : Int)] w (DP pb D (lift F (.bad c0 q0)) w) := by
  have hm := DV.start h
  obtain ⟨e2, e3, ef⟩ := h.cells
  have hc : c0 ≠ 0 := h.1
  replace e3 : w.cell? ⟨pb, 3, none⟩ = some (.int .i64 (c0 : Int)) := e3
  have g0 : ((c0 : Int) != 0) = true := by rw [bne_iff_ne]; omega
  have hl := h.lt
  have M := Lib.hid hm
  clear h hm ef hc
  go_enter Tryz.func208, Tryz.ntmps208
  go_wp2
  obtain ⟨d0, d1, d2, d3, d4⟩ := M.out.z.cells
  refine bodyPost_ret (v := .agg #[.string ⟨#[]⟩, .string ⟨#[]⟩, .int .i64 0, .slice none 0 0, .int .i64 0]) (by simp [results, Tryz.results208, go_sem, d0, d1, d2, d3, d4]) rfl ⟨_, _, _, _, _, _, _, rfl, M.out.f, M.out.d, fun x hx => by cases hx⟩
set_option maxHeartbeats 1000000 in
theorem ratom_deep {w : World} {pb D lev : Nat} {us : List Tok} (h : DS w pb D (.good us)) (hlev : D < lev) : Calls Tryz.prog 208 #[.pointer (some ⟨pb, 0, none⟩), .int .i64 (lev : Int)] w (DP pb D (lift deepX (.good us)) w) := by
  have hm := DV.start h
  obtain ⟨e2, e3, ef⟩ := hm.cells
  replace e3 : (w.alloc (.cells #[.string ⟨#[]⟩, .string ⟨#[]⟩, .int .i64 0, .slice none 0 0, .int .i64 0] 70)).cell? ⟨pb, 3, none⟩ = some (.int .i64 ((0 : Nat) : Int)) := e3
  have g1 : decide ((D : Int) < (lev : Int)) = true := by simp; omega
  have g2 : decide (D < lev) = true := by simpa using hlev
  have hl := h.lt
  obtain ⟨y2, y3, yf⟩ := h.cells
  replace y3 : w.cell? ⟨pb, 3, none⟩ = some (.int .i64 ((0 : Nat) : Int)) := y3
  have M := Lib.hid hm
  have H := Lib.hid (rfail_any hm.d 21 (by decide) 21 rfl)
  clear h hm ef yf hlev
  go_enter Tryz.func208, Tryz.ntmps208
  go_wp2_with fail
  refine (H.out).mono ?_
  rintro e w1 ⟨rfl, hF1, hD1⟩
  unfold zeroE
  have M1 := Lib.hid (M.out.step hF1 hD1)
  obtain ⟨b0, b1, b2, b3, b4⟩ := M1.out.z.cells
  have z0 := M1.out.z.frozen 0
  have z1 := M1.out.z.frozen 1
  have z2 := M1.out.z.frozen 2
  have z3 := M1.out.z.frozen 3
  have z4 := M1.out.z.frozen 4
  have hbl := M1.out.z.lt
  clear hF1 hD1 M H
  go_wp2
  obtain ⟨d0, d1, d2, d3, d4⟩ := (M1.out.zcells (.string ⟨#[]⟩) (.string ⟨#[]⟩) (.int .i64 0) (.slice none 0 0) (.int .i64 0)).cells
  refine bodyPost_ret (v := .agg #[.string ⟨#[]⟩, .string ⟨#[]⟩, .int .i64 0, .slice none 0 0, .int .i64 0]) (by simp [results, Tryz.results208, go_sem, d0, d1, d2, d3, d4]) rfl (M1.out.done rfl (fun x hx => by cases hx))
end Go.Proofs.YtddeplbgihcdkaaGreatDoor
