/-
  The document's chains: walked.
-/
import Derived.Test.YtddeplbgihcdkaaGreatDoorDd
import Derived.Deep.LoopGhost
namespace Go.Proofs.YtddeplbgihcdkaaGreatDoor
open Go.RowKit Go.Sort

def plen : PR → Nat
  | .ok _ r => r.length
  | .er _ _ => 0
/-- What a chain's rounds keep. -/
def ChD (w : World) (pb D K : Nat) (F : List Tok → PR) (tot : Option Ex × St) (gk : Nat) (i : Value) (wr : World) : Prop :=
  ∃ (n : Nat) (v : XV) (x : Option Ex) (st : St), i = .int .i64 (n : Int) ∧ n + gk ≤ 70000 ∧ DV w wr pb D st ∧ EX wr (w.heap.size + 2) (w.heap.size + 1) v x ∧
    ((n = 0 ∧ ∃ us, st = .good us ∧ tot = lift (chainX K F) (.good us) ∧ gk = us.length + 1) ∨ ∃ pr, (x, st) = exprP pr ∧ exprP (chainG K F pr) = tot ∧ gk = plen pr ∧ (n = 0 → ∃ c q, pr = .er c q))
theorem EX.put {W : World} {lo b : Nat} {v v' : XV} {x x' : Option Ex} (h : EX W lo b v x) (hb : b < lo) (hx : ∀ e, x' = some e → HS W 70 (Rg lo W.heap.size) e (exC v'.o v'.nm v'.n v'.A v'.ll v'.cap v'.p)) :
    EX (((((W.setCell ⟨b, 0, none⟩ (.string v'.o)).setCell ⟨b, 1, none⟩ (.string v'.nm)).setCell ⟨b, 2, none⟩ (.int .i64 v'.n)).setCell ⟨b, 3, none⟩ (.slice v'.A v'.ll v'.cap)).setCell ⟨b, 4, none⟩ (.int .i64 v'.p)) lo b v' x' :=
  ⟨h.bx.set5 _ _ _ _ _, fun e he => ((hx e he).far5S (b := b) (by unfold Rg; omega) _ _ _ _ _).wide (fun j _ hj => by simpa using hj)⟩
theorem DV.box5 {w W : World} {pb D : Nat} {st : St} (m : DV w W pb D st) {b : Nat} {c0 c1 c2 c3 c4 : Value} (hb : BoxR W b c0 c1 c2 c3 c4) (h1 : w.heap.size < b) (x0 x1 x2 x3 x4 : Value) : DV w (((((W.setCell ⟨b, 0, none⟩ x0).setCell ⟨b, 1, none⟩ x1).setCell ⟨b, 2, none⟩ x2).setCell ⟨b, 3, none⟩ x3).setCell ⟨b, 4, none⟩ x4) pb D st :=
  ⟨m.f.boxR (by omega) _ _ _ _ _, m.d.set5 hb (by decide) (by decide) _ _ _ _ _, ((((m.z.far (p := ⟨b, 0, none⟩) (by show w.heap.size ≠ b; omega) _).far (p := ⟨b, 1, none⟩) (by show w.heap.size ≠ b; omega) _).far (p := ⟨b, 2, none⟩) (by show w.heap.size ≠ b; omega) _).far (p := ⟨b, 3, none⟩) (by show w.heap.size ≠ b; omega) _).far (p := ⟨b, 4, none⟩) (by show w.heap.size ≠ b; omega) _, m.l⟩
theorem EX.self5 {W : World} {lo b bt : Nat} {v : XV} {x : Option Ex} (h : EX W lo b v x) (h1 : b ≠ bt) (hk : ∀ e, x = some e → HS W 70 (fun j => Rg lo W.heap.size j ∧ j ≠ bt) e (exC v.o v.nm v.n v.A v.ll v.cap v.p)) (x0 x1 x2 x3 x4 : Value) : EX (((((W.setCell ⟨bt, 0, none⟩ x0).setCell ⟨bt, 1, none⟩ x1).setCell ⟨bt, 2, none⟩ x2).setCell ⟨bt, 3, none⟩ x3).setCell ⟨bt, 4, none⟩ x4) lo b v x :=
  ⟨((((h.bx.far (p := ⟨bt, 0, none⟩) h1 _).far (p := ⟨bt, 1, none⟩) h1 _).far (p := ⟨bt, 2, none⟩) h1 _).far (p := ⟨bt, 3, none⟩) h1 _).far (p := ⟨bt, 4, none⟩) h1 _, fun e he => ((hk e he).far5S (b := bt) (by intro h; exact h.2 rfl) x0 x1 x2 x3 x4).wide (fun j _ hj => by simpa using hj.1)⟩
theorem ex_binH {W : World} {lo g : Nat} {va vb : XV} {a b : Ex} (ha : HS W 70 (Rg lo W.heap.size) a (exC va.o va.nm va.n va.A va.ll va.cap va.p)) (hb : HS W 70 (Rg lo W.heap.size) b (exC vb.o vb.nm vb.n vb.A vb.ll vb.cap vb.p)) (hg : g = W.heap.size) (hlo : lo ≤ g) (op : List UInt8) {p : Nat} {z : Int} (hz : z = (p : Int)) :
    HS (W.alloc (.cells #[.string va.o, .string va.nm, .int .i64 va.n, .slice va.A va.ll va.cap, .int .i64 va.p, .string vb.o, .string vb.nm, .int .i64 vb.n, .slice vb.A vb.ll vb.cap, .int .i64 vb.p] 70)) 70 (Rg lo (W.alloc (.cells #[.string va.o, .string va.nm, .int .i64 va.n, .slice va.A va.ll va.cap, .int .i64 va.p, .string vb.o, .string vb.nm, .int .i64 vb.n, .slice vb.A vb.ll vb.cap, .int .i64 vb.p] 70)).heap.size) (.bin op a b p) (exC ⟨op.toArray⟩ ⟨#[]⟩ 0 (some ⟨g, 0, none⟩) 2 2 z) := by
  have h := arr_two (W := W) (xs := exC va.o va.nm va.n va.A va.ll va.cap va.p ++ (exC vb.o vb.nm vb.n vb.A vb.ll vb.cap vb.p)) hg hlo
  subst hg hz
  exact ⟨W.heap.size, 2, _, _, rfl, h, (ha.alloc _).mono (Nat.le_refl _) (by simp), (hb.alloc _).mono (Nat.le_refl _) (by simp)⟩
theorem rsigns_0 (w : World) : Calls Tryz.prog 206 #[.int .i64 0] w fun e w' => e = .returned (.slice (some ⟨w.heap.size, 0, none⟩) 1 1) ∧ w' = w.alloc (.cells #[.string ⟨#[124]⟩] 9) := by
  go_enter Tryz.func206, Tryz.ntmps206
  go_wp2
  go_ret
  exact ⟨rfl, rfl⟩
theorem sgin_0 (s : ByteArray) (w : World) : Calls Tryz.prog 122 #[.string s, .slice (some ⟨w.heap.size, 0, none⟩) 1 1] (w.alloc (.cells #[.string ⟨#[124]⟩] 9)) (InP (decide (s.data.toList ∈ rkL 2)) (w.alloc (.cells #[.string ⟨#[124]⟩] 9))) :=
  rin_any s (rkL 2) w.heap.size 1 _ (heap_alloc_new w _) (by decide)
theorem rsigns_1 (w : World) : Calls Tryz.prog 206 #[.int .i64 1] w fun e w' => e = .returned (.slice (some ⟨w.heap.size, 0, none⟩) 1 1) ∧ w' = w.alloc (.cells #[.string ⟨#[38]⟩] 9) := by
  go_enter Tryz.func206, Tryz.ntmps206
  go_wp2
  go_ret
  exact ⟨rfl, rfl⟩
theorem sgin_1 (s : ByteArray) (w : World) : Calls Tryz.prog 122 #[.string s, .slice (some ⟨w.heap.size, 0, none⟩) 1 1] (w.alloc (.cells #[.string ⟨#[38]⟩] 9)) (InP (decide (s.data.toList ∈ rkL 3)) (w.alloc (.cells #[.string ⟨#[38]⟩] 9))) :=
  rin_any s (rkL 3) w.heap.size 1 _ (heap_alloc_new w _) (by decide)
theorem rsigns_2 (w : World) : Calls Tryz.prog 206 #[.int .i64 2] w fun e w' => e = .returned (.slice (some ⟨w.heap.size, 0, none⟩) 2 2) ∧ w' = w.alloc (.cells #[.string ⟨#[43]⟩, .string ⟨#[45]⟩] 9) := by
  go_enter Tryz.func206, Tryz.ntmps206
  go_wp2
  go_ret
  exact ⟨rfl, rfl⟩
theorem sgin_2 (s : ByteArray) (w : World) : Calls Tryz.prog 122 #[.string s, .slice (some ⟨w.heap.size, 0, none⟩) 2 2] (w.alloc (.cells #[.string ⟨#[43]⟩, .string ⟨#[45]⟩] 9)) (InP (decide (s.data.toList ∈ rkL 6)) (w.alloc (.cells #[.string ⟨#[43]⟩, .string ⟨#[45]⟩] 9))) :=
  rin_any s (rkL 6) w.heap.size 2 _ (heap_alloc_new w _) (by decide)
theorem rsigns_3 (w : World) : Calls Tryz.prog 206 #[.int .i64 3] w fun e w' => e = .returned (.slice (some ⟨w.heap.size, 0, none⟩) 1 1) ∧ w' = w.alloc (.cells #[.string ⟨#[42]⟩] 9) := by
  go_enter Tryz.func206, Tryz.ntmps206
  go_wp2
  go_ret
  exact ⟨rfl, rfl⟩
theorem sgin_3 (s : ByteArray) (w : World) : Calls Tryz.prog 122 #[.string s, .slice (some ⟨w.heap.size, 0, none⟩) 1 1] (w.alloc (.cells #[.string ⟨#[42]⟩] 9)) (InP (decide (s.data.toList ∈ rkL 7)) (w.alloc (.cells #[.string ⟨#[42]⟩] 9))) :=
  rin_any s (rkL 7) w.heap.size 1 _ (heap_alloc_new w _) (by decide)
set_option maxHeartbeats 8000000 in
set_option maxRecDepth 100000 in
theorem rchain_0 {D lev : Nat} {F : List Tok → PR} (hF : RCK 1 F D lev) (hS : Shr F) : RCK 0 (chainX 2 F) D lev := by
  intro w pb st y z hy hz h
  subst hy
  have hm := DV.start h
  have hl := h.lt
  have hE0 : EX ((w.alloc (.cells #[.string ⟨#[]⟩, .string ⟨#[]⟩, .int .i64 0, .slice none 0 0, .int .i64 0] 70)).alloc (.cells #[.string ⟨#[]⟩, .string ⟨#[]⟩, .int .i64 0, .slice none 0 0, .int .i64 0] 70)) (w.heap.size + 2) (w.heap.size + 1) ⟨⟨#[]⟩, ⟨#[]⟩, 0, none, 0, 0, 0⟩ none := ⟨heapN (by simp) _, fun e he => by cases he⟩
  obtain ⟨tot, htot⟩ : ∃ tot, tot = lift (chainX 2 F) st := ⟨_, rfl⟩
  rw [← htot]
  have hst : ∃ gk, gk ≤ 65540 ∧ ChD w pb D 2 F tot gk (.int .i64 0) ((w.alloc (.cells #[.string ⟨#[]⟩, .string ⟨#[]⟩, .int .i64 0, .slice none 0 0, .int .i64 0] 70)).alloc (.cells #[.string ⟨#[]⟩, .string ⟨#[]⟩, .int .i64 0, .slice none 0 0, .int .i64 0] 70)) := by
    cases st with
    | good us =>
      have hlu : us.length ≤ 65537 := by
        obtain ⟨ts, k, g, cap, q1, q2, q3, _⟩ := DR.blk h
        rw [q1, List.length_drop]; omega
      exact ⟨us.length + 1, by omega, 0, _, _, _, rfl, by omega, hm.alloc _, hE0, .inl ⟨rfl, us, rfl, htot, rfl⟩⟩
    | bad c q => exact ⟨0, by omega, 0, _, none, _, rfl, by omega, hm.alloc _, hE0, .inr ⟨.er c q, rfl, htot.symm, rfl, fun _ => ⟨c, q, rfl⟩⟩⟩
  obtain ⟨gk0, hgk0, hst⟩ := hst
  have HST := Lib.hid hst
  have HF := Lib.hid hF
  have HZ := Lib.hid hz
  have HSH := Lib.hid hS
  have HL := Lib.hid hl
  have hf1 := fieldr1
  have hf0 := fieldr0
  clear h hm hE0 htot hst hF hz hS hl hgk0
  go_enter Tryz.func172, Tryz.ntmps172
  go_wp2
  go_loopg [8] gk0 (fun gk i wr => ChD w pb D 2 F tot gk i wr)
  case atStart => exact HST.out
  case round =>
    clear HST
    obtain ⟨n, v, x, st1, rfl, hn, hM, hE, hcase⟩ := hrel
    have hpl := hM.l
    have hel0 := hE.bx.lt
    rcases hcase with ⟨rfl, us, rfl, htot, hgk⟩ | ⟨pr, hpr, htot, hgk, hn0⟩
    · have HTOT := Lib.hid htot
      have HGK := Lib.hid hgk
      obtain ⟨x2, x3, _⟩ := hM.cells
      replace x3 : wr.cell? ⟨pb, 3, none⟩ = some (.int .i64 ((0 : Nat) : Int)) := x3
      have hl1 := hM.d.lt
      have M1 := Lib.hid (hM.alloc (.cells #[.string ⟨#[]⟩, .string ⟨#[]⟩, .int .i64 0, .slice none 0 0, .int .i64 0] 70))
      have E1 := Lib.hid (hE.alloc (.cells #[.string ⟨#[]⟩, .string ⟨#[]⟩, .int .i64 0, .slice none 0 0, .int .i64 0] 70))
      have B1 := Lib.hid (BoxR.new wr (.string ⟨#[]⟩) (.string ⟨#[]⟩) (.int .i64 0) (.slice none 0 0) (.int .i64 0))
      clear hM hE htot hgk
      go_wp2_with fail
      refine calls_gen (P := fun W => DV w W pb D (.good us) ∧ EX W (w.heap.size + 2) (w.heap.size + 1) v x ∧ BoxR W wr.heap.size (.string ⟨#[]⟩) (.string ⟨#[]⟩) (.int .i64 0) (.slice none 0 0) (.int .i64 0)) ⟨M1.out, E1.out, B1.out⟩ ?_
      rintro W ⟨hM, hE, hB⟩
      refine (HF.out W pb (.good us) 1 z rfl HZ.out hM.d).mono ?_
      rintro e w3 ⟨o3, nm3, n3, A3, ll3, cap3, p3, rfl, hFr, hD, hx⟩
      have hs3 := hFr.size
      have hbw := hB.lt
      have hpe : w.heap.size + 1 ≠ pb := by omega
      have hpb : wr.heap.size ≠ pb := by omega
      have M2 := Lib.hid (hM.step hFr hD)
      have E2 := Lib.hid (hE.fr hFr hpe (by omega))
      have B2 := Lib.hid (hB.fr hFr hpb)
      have HX := Lib.hid hx
      have hne1 : wr.heap.size ≠ w.heap.size + 1 := by omega
      have hne2 : w.heap.size + 1 ≠ wr.heap.size := by omega
      have hltb : wr.heap.size < W.heap.size := hbw
      clear hM hE hB hFr hD hx M1 E1 B1 x2 x3
      obtain ⟨e0, e1, e2, e3, e4⟩ := E2.out.bx.cells
      have y0 := E2.out.bx.frozen 0
      have y1 := E2.out.bx.frozen 1
      have y2 := E2.out.bx.frozen 2
      have y3 := E2.out.bx.frozen 3
      have y4 := E2.out.bx.frozen 4
      have hel := E2.out.bx.lt
      obtain ⟨q0, q1, q2, q3, q4⟩ := B2.out.cells
      have t0 := B2.out.frozen 0
      have t1 := B2.out.frozen 1
      have t2 := B2.out.frozen 2
      have t3 := B2.out.frozen 3
      have t4 := B2.out.frozen 4
      have hql := B2.out.lt
      have HRL : Hid (ChD w pb D 2 F tot (plen (F us)) (.int .i64 ((0 : Int) + 1)) ((((((((((w3.setCell ⟨wr.heap.size, 0, none⟩ (.string o3)).setCell ⟨wr.heap.size, 1, none⟩ (.string nm3)).setCell ⟨wr.heap.size, 2, none⟩ (.int .i64 n3)).setCell ⟨wr.heap.size, 3, none⟩ (.slice A3 ll3 cap3)).setCell ⟨wr.heap.size, 4, none⟩ (.int .i64 p3)).setCell ⟨w.heap.size + 1, 0, none⟩ (.string o3)).setCell ⟨w.heap.size + 1, 1, none⟩ (.string nm3)).setCell ⟨w.heap.size + 1, 2, none⟩ (.int .i64 n3)).setCell ⟨w.heap.size + 1, 3, none⟩ (.slice A3 ll3 cap3)).setCell ⟨w.heap.size + 1, 4, none⟩ (.int .i64 p3))) := Lib.hid (by
        have hb5 := M2.out.box5 B2.out (by omega) (.string o3) (.string nm3) (.int .i64 n3) (.slice A3 ll3 cap3) (.int .i64 p3)
        have he5 := E2.out.bx
        have hx5 : ∀ e, (lift F (.good us)).1 = some e → HS (((((w3.setCell ⟨wr.heap.size, 0, none⟩ (.string o3)).setCell ⟨wr.heap.size, 1, none⟩ (.string nm3)).setCell ⟨wr.heap.size, 2, none⟩ (.int .i64 n3)).setCell ⟨wr.heap.size, 3, none⟩ (.slice A3 ll3 cap3)).setCell ⟨wr.heap.size, 4, none⟩ (.int .i64 p3)) 70 (Rg (w.heap.size + 2) (((((w3.setCell ⟨wr.heap.size, 0, none⟩ (.string o3)).setCell ⟨wr.heap.size, 1, none⟩ (.string nm3)).setCell ⟨wr.heap.size, 2, none⟩ (.int .i64 n3)).setCell ⟨wr.heap.size, 3, none⟩ (.slice A3 ll3 cap3)).setCell ⟨wr.heap.size, 4, none⟩ (.int .i64 p3)).heap.size) e (exC o3 nm3 n3 A3 ll3 cap3 p3) := fun e he =>
          ((HX.out e he).far5S (b := wr.heap.size) (by unfold Rg; omega) _ _ _ _ _).wide (fun j _ hj => by unfold Rg at *; simp; omega)
        have hE5 : EX (((((w3.setCell ⟨wr.heap.size, 0, none⟩ (.string o3)).setCell ⟨wr.heap.size, 1, none⟩ (.string nm3)).setCell ⟨wr.heap.size, 2, none⟩ (.int .i64 n3)).setCell ⟨wr.heap.size, 3, none⟩ (.slice A3 ll3 cap3)).setCell ⟨wr.heap.size, 4, none⟩ (.int .i64 p3)) (w.heap.size + 2) (w.heap.size + 1) v none := ⟨((((he5.far (p := ⟨wr.heap.size, 0, none⟩) hne2 _).far (p := ⟨wr.heap.size, 1, none⟩) hne2 _).far (p := ⟨wr.heap.size, 2, none⟩) hne2 _).far (p := ⟨wr.heap.size, 3, none⟩) hne2 _).far (p := ⟨wr.heap.size, 4, none⟩) hne2 _, fun e he => by cases he⟩
        have hgu := HGK.out
        refine ⟨1, ⟨o3, nm3, n3, A3, ll3, cap3, p3⟩, _, _, by simp, ?_, hb5.box5 hE5.bx (by omega) _ _ _ _ _, hE5.put (v' := ⟨o3, nm3, n3, A3, ll3, cap3, p3⟩) (by omega) hx5, .inr ⟨F us, rfl, HTOT.out.symm, rfl, fun h => absurd h (by omega)⟩⟩
        cases hfu : F us with
        | er c q => simp only [plen]; omega
        | ok e' r' => have := (HSH.out us e' r' hfu).1; simp only [plen]; omega)
      have HLT := Lib.hid (show plen (F us) < gk by
        have := HGK.out
        cases hfu : F us with
        | er c q => simp only [plen]; omega
        | ok e' r' => have := (HSH.out us e' r' hfu).1; simp only [plen]; omega)
      go_wp2
      go_roundg (plen (F us))
      case measure => exact HLT.out
      case rel => exact HRL.out
    · cases pr with
      | er c q =>
        obtain ⟨rfl, rfl⟩ := Prod.mk.inj hpr
        have HT := Lib.hid (show tot = (none, .bad c q) from htot.symm)
        have hc0 : c ≠ 0 := hM.d.1
        have g1 : ((c : Int) == 0) = false := by rw [beq_eq_false_iff_ne]; omega
        obtain ⟨x2, x3, _⟩ := hM.cells
        replace x3 : wr.cell? ⟨pb, 3, none⟩ = some (.int .i64 (c : Int)) := x3
        have hl1 := hM.d.lt
        have M1 := Lib.hid hM
        obtain ⟨b0, b1, b2, b3, b4⟩ := M1.out.z.cells
        have z0 := M1.out.z.frozen 0
        have z1 := M1.out.z.frozen 1
        have z2 := M1.out.z.frozen 2
        have z3 := M1.out.z.frozen 3
        have z4 := M1.out.z.frozen 4
        have hbl := M1.out.z.lt
        obtain ⟨e0, e1, e2, e3, e4⟩ := hE.bx.cells
        clear hM hE hpr htot hn0 hc0
        go_wp2
        obtain ⟨d0, d1, d2, d3, d4⟩ := (M1.out.zcells (.string v.o) (.string v.nm) (.int .i64 v.n) (.slice v.A v.ll v.cap) (.int .i64 v.p)).cells
        rw [HT.out]
        refine bodyPost_ret (v := .agg #[.string v.o, .string v.nm, .int .i64 v.n, .slice v.A v.ll v.cap, .int .i64 v.p]) (by simp [results, Tryz.results172, go_sem, d0, d1, d2, d3, d4]) rfl ?_
        exact M1.out.done (res := (none, .bad c q)) rfl (fun x hx => by cases hx)
      | ok e r =>
        obtain ⟨rfl, rfl⟩ := Prod.mk.inj hpr
        have hn1 : 0 < n := by
          rcases Nat.eq_zero_or_pos n with h | h
          · obtain ⟨c, q, h⟩ := hn0 h; cases h
          · exact h
        have HT := Lib.hid htot
        have HGK := Lib.hid (show gk = r.length from hgk)
        have g1 : decide ((0 : Int) < (n : Int)) = true := by simp; omega
        have g2 : decide (0 < n) = true := by simpa using hn1
        have g3 : ((n : Int) == 0) = false := by rw [beq_eq_false_iff_ne]; omega
        have hn2 : n ≤ 70000 := by omega
        obtain ⟨x2, x3, _⟩ := hM.cells
        replace x3 : wr.cell? ⟨pb, 3, none⟩ = some (.int .i64 ((0 : Nat) : Int)) := x3
        have hl1 := hM.d.lt
        have M1 := Lib.hid hM
        have E1 := Lib.hid hE
        clear hM hE hpr htot hn0 hgk
        go_wp2_with fail
        refine (rnow_any M1.out.d).mono ?_
        rintro e2 w2 ⟨rfl, hb2⟩
        have M2 := Lib.hid (M1.out.below hb2)
        have E2 := Lib.hid (E1.out.below hb2)
        clear hb2 M1 E1 x2 x3
        have hl2 := M2.out.d.lt
        go_wp2_with fail
        refine (rnow_any M2.out.d).mono ?_
        rintro e3 w3 ⟨rfl, hb3⟩
        have M3 := Lib.hid (M2.out.below hb3)
        have E3 := Lib.hid (E2.out.below hb3)
        clear hb3 M2 E2 hl2
        have hl3 := M3.out.d.lt
        obtain ⟨tb, htb⟩ : ∃ tb : ByteArray, tb = ⟨(hd r).text.toArray⟩ := ⟨_, rfl⟩
        have HTB := Lib.hid (show tb.data.toList = (hd r).text by rw [htb])
        have HTE := Lib.hid htb
        rw [← htb]
        clear htb
        by_cases h4 : (hd r).kind = 4
        · have g4 : (((hd r).kind : Int) != 4) = false := by simp [h4]
          have HSG := Lib.hid (sg_in (t := hd r) (k := 2) (by decide) h4)
          have H5 := Lib.hid (sgin_0 tb w3)
          rw [HTB.out, ← HSG.out] at H5
          have HK := Lib.hid (show (hd r).kind ≠ 0 by omega)
          clear h4
          cases hs : sg 2 (hd r) with
          | false =>
            rw [hs] at H5
            have HTT := Lib.hid (show tot = (some e, .good r) by rw [← HT.out, chainG, chain_stop hs]; rfl)
            obtain ⟨e0, e1, e2, e3, e4⟩ := E3.out.bx.cells
            have hel := E3.out.bx.lt
            obtain ⟨b0, b1, b2, b3, b4⟩ := M3.out.z.cells
            have z0 := M3.out.z.frozen 0
            have z1 := M3.out.z.frozen 1
            have z2 := M3.out.z.frozen 2
            have z3 := M3.out.z.frozen 3
            have z4 := M3.out.z.frozen 4
            have hbl := M3.out.z.lt
            clear hs HSG
            go_wp2_with fail
            refine (rsigns_0 w3).mono ?_
            rintro e4 w4 ⟨rfl, rfl⟩
            go_wp2_with fail
            refine (H5.out).mono ?_
            rintro e5 w5 ⟨rfl, rfl⟩
            go_wp2
            obtain ⟨d0, d1, d2, d3, d4⟩ := (M3.out.ucells (x0 := .string v.o) (x1 := .string v.nm) (x2 := .int .i64 v.n) (x3 := .slice v.A v.ll v.cap) (x4 := .int .i64 v.p) ((Below.refl _ _).alloc (by simp) (.cells #[.string ⟨#[124]⟩] 9))).cells
            rw [HTT.out]
            refine bodyPost_ret (v := .agg #[.string v.o, .string v.nm, .int .i64 v.n, .slice v.A v.ll v.cap, .int .i64 v.p]) (by simp [results, Tryz.results172, go_sem, d0, d1, d2, d3, d4]) rfl ?_
            refine M3.out.fin (res := (some e, .good r)) rfl ((Below.refl _ _).alloc (by simp) _) (fun x hx => ?_)
            injection hx with hx
            subst hx
            exact (((E3.out.far5 (bz := w.heap.size) (by omega) (by omega) (.string v.o) (.string v.nm) (.int .i64 v.n) (.slice v.A v.ll v.cap) (.int .i64 v.p)).alloc _).hs e rfl).mono (by omega) (Nat.le_refl _)
          | true =>
            rw [hs] at H5
            have HSG2 := Lib.hid hs
            have HLT1 := Lib.hid (show plen (joinX (hd r).text e (F r.tail)) < r.length by
              have hr := Fine.ne (DR.fine M3.out.d)
              have hp := List.length_pos_iff.2 hr
              cases hft : F r.tail with
              | er c q => exact hp
              | ok y' r2 => exact (chain_go (k := 2) (e := e) HSH.out hs hft).2)
            clear hs HSG
            go_wp2_with fail
            refine (rsigns_0 w3).mono ?_
            rintro e4 w4 ⟨rfl, rfl⟩
            go_wp2_with fail
            refine (H5.out).mono ?_
            rintro e5 w5 ⟨rfl, rfl⟩
            have M4 := Lib.hid (M3.out.alloc (.cells #[.string ⟨#[124]⟩] 9))
            have E4 := Lib.hid (E3.out.alloc (.cells #[.string ⟨#[124]⟩] 9))
            generalize w3.alloc (.cells #[.string ⟨#[124]⟩] 9) = W5 at M4 E4 ⊢
            clear M3 E3 H5 hl3 hel0
            have hel := E4.out.bx.lt
            obtain ⟨k, hk1, hk2, hT⟩ := M4.out.tail HK.out
            have fk := M4.out.cells.2.2 1
            have hlk := M4.out.d.lt
            have hpe : w.heap.size + 1 ≠ pb := by omega
            have M5 := Lib.hid (hT.alloc (.cells #[.string ⟨#[]⟩, .string ⟨#[]⟩, .int .i64 0, .slice none 0 0, .int .i64 0] 70))
            have hE5 := (E4.out.setCell (p := ⟨pb, 1, none⟩) hpe (by show pb < _; omega) (.int .i64 ((k : Int) + 1)))
            have HA5 := Lib.hid (show HS ((W5.setCell ⟨pb, 1, none⟩ (.int .i64 ((k : Int) + 1))).alloc (.cells #[.string ⟨#[]⟩, .string ⟨#[]⟩, .int .i64 0, .slice none 0 0, .int .i64 0] 70)) 70 (Rg (w.heap.size + 2) W5.heap.size) e (exC v.o v.nm v.n v.A v.ll v.cap v.p) from ((hE5.hs e rfl).alloc _).wide (fun j _ hj => by simpa using hj))
            have E5 := Lib.hid (hE5.alloc (.cells #[.string ⟨#[]⟩, .string ⟨#[]⟩, .int .i64 0, .slice none 0 0, .int .i64 0] 70)).bx
            have B5 := Lib.hid (show BoxR ((W5.setCell ⟨pb, 1, none⟩ (.int .i64 ((k : Int) + 1))).alloc (.cells #[.string ⟨#[]⟩, .string ⟨#[]⟩, .int .i64 0, .slice none 0 0, .int .i64 0] 70)) W5.heap.size (.string ⟨#[]⟩) (.string ⟨#[]⟩) (.int .i64 0) (.slice none 0 0) (.int .i64 0) from heapN (by simp) _)
            have HEP := Lib.hid (ex_pos E4.out)
            clear hT hE5 M4 E4
            go_wp2_with fail
            refine calls_gen (P := fun W => DV w W pb D (.good r.tail) ∧ BoxR W (w.heap.size + 1) (.string v.o) (.string v.nm) (.int .i64 v.n) (.slice v.A v.ll v.cap) (.int .i64 v.p) ∧ BoxR W W5.heap.size (.string ⟨#[]⟩) (.string ⟨#[]⟩) (.int .i64 0) (.slice none 0 0) (.int .i64 0) ∧ HS W 70 (Rg (w.heap.size + 2) W5.heap.size) e (exC v.o v.nm v.n v.A v.ll v.cap v.p)) ⟨M5.out, E5.out, B5.out, HA5.out⟩ ?_
            rintro W ⟨hM, hE, hB, hA⟩
            refine (HF.out W pb (.good r.tail) 1 z rfl HZ.out hM.d).mono ?_
            rintro e6 w6 ⟨o3, nm3, n3, A3, ll3, cap3, p3, rfl, hFr, hD, hx⟩
            have hs6 := hFr.size
            have hbw := hB.lt
            have hpb : W5.heap.size ≠ pb := by omega
            have M6 := Lib.hid (hM.step hFr hD)
            have E6 := Lib.hid (hE.fr hFr hpe)
            have B6 := Lib.hid (hB.fr hFr hpb)
            have HA6 := Lib.hid (hA.frS hFr (by unfold Rg; omega))
            have HX := Lib.hid hx
            have hne1 : W5.heap.size ≠ w.heap.size + 1 := by omega
            have hne2 : w.heap.size + 1 ≠ W5.heap.size := by omega
            clear hM hE hB hA hFr hD hx M5 E5 B5 HA5 hk1 fk hlk
            obtain ⟨e0, e1, e2, e3, e4⟩ := E6.out.cells
            have y0 := E6.out.frozen 0
            have y1 := E6.out.frozen 1
            have y2 := E6.out.frozen 2
            have y3 := E6.out.frozen 3
            have y4 := E6.out.frozen 4
            have hel6 := E6.out.lt
            obtain ⟨q0, q1, q2, q3, q4⟩ := B6.out.cells
            have t0 := B6.out.frozen 0
            have t1 := B6.out.frozen 1
            have t2 := B6.out.frozen 2
            have t3 := B6.out.frozen 3
            have t4 := B6.out.frozen 4
            have hql := B6.out.lt
            have HRL : Hid (ChD w pb D 2 F tot (plen (joinX (hd r).text e (F r.tail))) (.int .i64 ((n : Int) + 1)) (((((((((((w6.setCell ⟨W5.heap.size, 0, none⟩ (.string o3)).setCell ⟨W5.heap.size, 1, none⟩ (.string nm3)).setCell ⟨W5.heap.size, 2, none⟩ (.int .i64 n3)).setCell ⟨W5.heap.size, 3, none⟩ (.slice A3 ll3 cap3)).setCell ⟨W5.heap.size, 4, none⟩ (.int .i64 p3)).setCell ⟨w.heap.size + 1, 0, none⟩ (.string tb)).setCell ⟨w.heap.size + 1, 1, none⟩ (.string ⟨#[]⟩)).setCell ⟨w.heap.size + 1, 2, none⟩ (.int .i64 0)).setCell ⟨w.heap.size + 1, 3, none⟩ (.slice (some ⟨w6.heap.size, 0, none⟩) 2 2)).setCell ⟨w.heap.size + 1, 4, none⟩ (.int .i64 v.p)).alloc (.cells #[.string v.o, .string v.nm, .int .i64 v.n, .slice v.A v.ll v.cap, .int .i64 v.p, .string o3, .string nm3, .int .i64 n3, .slice A3 ll3 cap3, .int .i64 p3] 70))) := Lib.hid (by
              have hb6 := M6.out.box5 B6.out (by omega) (.string o3) (.string nm3) (.int .i64 n3) (.slice A3 ll3 cap3) (.int .i64 p3)
              have he6 : BoxR (((((w6.setCell ⟨W5.heap.size, 0, none⟩ (.string o3)).setCell ⟨W5.heap.size, 1, none⟩ (.string nm3)).setCell ⟨W5.heap.size, 2, none⟩ (.int .i64 n3)).setCell ⟨W5.heap.size, 3, none⟩ (.slice A3 ll3 cap3)).setCell ⟨W5.heap.size, 4, none⟩ (.int .i64 p3)) (w.heap.size + 1) (.string v.o) (.string v.nm) (.int .i64 v.n) (.slice v.A v.ll v.cap) (.int .i64 v.p) := ((((E6.out.far (p := ⟨W5.heap.size, 0, none⟩) hne2 _).far (p := ⟨W5.heap.size, 1, none⟩) hne2 _).far (p := ⟨W5.heap.size, 2, none⟩) hne2 _).far (p := ⟨W5.heap.size, 3, none⟩) hne2 _).far (p := ⟨W5.heap.size, 4, none⟩) hne2 _
              have hm6 := (hb6.box5 he6 (by omega) (.string tb) (.string ⟨#[]⟩) (.int .i64 0) (.slice (some ⟨w6.heap.size, 0, none⟩) 2 2) (.int .i64 v.p)).alloc (.cells #[.string v.o, .string v.nm, .int .i64 v.n, .slice v.A v.ll v.cap, .int .i64 v.p, .string o3, .string nm3, .int .i64 n3, .slice A3 ll3 cap3, .int .i64 p3] 70)
              have hg6 : BoxR (((((((((((w6.setCell ⟨W5.heap.size, 0, none⟩ (.string o3)).setCell ⟨W5.heap.size, 1, none⟩ (.string nm3)).setCell ⟨W5.heap.size, 2, none⟩ (.int .i64 n3)).setCell ⟨W5.heap.size, 3, none⟩ (.slice A3 ll3 cap3)).setCell ⟨W5.heap.size, 4, none⟩ (.int .i64 p3)).setCell ⟨w.heap.size + 1, 0, none⟩ (.string tb)).setCell ⟨w.heap.size + 1, 1, none⟩ (.string ⟨#[]⟩)).setCell ⟨w.heap.size + 1, 2, none⟩ (.int .i64 0)).setCell ⟨w.heap.size + 1, 3, none⟩ (.slice (some ⟨w6.heap.size, 0, none⟩) 2 2)).setCell ⟨w.heap.size + 1, 4, none⟩ (.int .i64 v.p)).alloc (.cells #[.string v.o, .string v.nm, .int .i64 v.n, .slice v.A v.ll v.cap, .int .i64 v.p, .string o3, .string nm3, .int .i64 n3, .slice A3 ll3 cap3, .int .i64 p3] 70)) (w.heap.size + 1) (.string tb) (.string ⟨#[]⟩) (.int .i64 0) (.slice (some ⟨w6.heap.size, 0, none⟩) 2 2) (.int .i64 v.p) := (he6.set5 _ _ _ _ _).alloc _
              have hsz : ((((((((((w6.setCell ⟨W5.heap.size, 0, none⟩ (.string o3)).setCell ⟨W5.heap.size, 1, none⟩ (.string nm3)).setCell ⟨W5.heap.size, 2, none⟩ (.int .i64 n3)).setCell ⟨W5.heap.size, 3, none⟩ (.slice A3 ll3 cap3)).setCell ⟨W5.heap.size, 4, none⟩ (.int .i64 p3)).setCell ⟨w.heap.size + 1, 0, none⟩ (.string tb)).setCell ⟨w.heap.size + 1, 1, none⟩ (.string ⟨#[]⟩)).setCell ⟨w.heap.size + 1, 2, none⟩ (.int .i64 0)).setCell ⟨w.heap.size + 1, 3, none⟩ (.slice (some ⟨w6.heap.size, 0, none⟩) 2 2)).setCell ⟨w.heap.size + 1, 4, none⟩ (.int .i64 v.p)).heap.size = w6.heap.size := by simp
              have ha6 : HS ((((((((((w6.setCell ⟨W5.heap.size, 0, none⟩ (.string o3)).setCell ⟨W5.heap.size, 1, none⟩ (.string nm3)).setCell ⟨W5.heap.size, 2, none⟩ (.int .i64 n3)).setCell ⟨W5.heap.size, 3, none⟩ (.slice A3 ll3 cap3)).setCell ⟨W5.heap.size, 4, none⟩ (.int .i64 p3)).setCell ⟨w.heap.size + 1, 0, none⟩ (.string tb)).setCell ⟨w.heap.size + 1, 1, none⟩ (.string ⟨#[]⟩)).setCell ⟨w.heap.size + 1, 2, none⟩ (.int .i64 0)).setCell ⟨w.heap.size + 1, 3, none⟩ (.slice (some ⟨w6.heap.size, 0, none⟩) 2 2)).setCell ⟨w.heap.size + 1, 4, none⟩ (.int .i64 v.p)) 70 (Rg (w.heap.size + 2) ((((((((((w6.setCell ⟨W5.heap.size, 0, none⟩ (.string o3)).setCell ⟨W5.heap.size, 1, none⟩ (.string nm3)).setCell ⟨W5.heap.size, 2, none⟩ (.int .i64 n3)).setCell ⟨W5.heap.size, 3, none⟩ (.slice A3 ll3 cap3)).setCell ⟨W5.heap.size, 4, none⟩ (.int .i64 p3)).setCell ⟨w.heap.size + 1, 0, none⟩ (.string tb)).setCell ⟨w.heap.size + 1, 1, none⟩ (.string ⟨#[]⟩)).setCell ⟨w.heap.size + 1, 2, none⟩ (.int .i64 0)).setCell ⟨w.heap.size + 1, 3, none⟩ (.slice (some ⟨w6.heap.size, 0, none⟩) 2 2)).setCell ⟨w.heap.size + 1, 4, none⟩ (.int .i64 v.p)).heap.size) e (exC v.o v.nm v.n v.A v.ll v.cap v.p) :=
                ((HA6.out.far5S (b := W5.heap.size) (by unfold Rg; omega) _ _ _ _ _).far5S (b := w.heap.size + 1) (by unfold Rg; omega) _ _ _ _ _).wide (fun j _ hj => by rw [hsz]; unfold Rg at *; omega)
              have hgn := HGK.out
              refine ⟨n + 1, ⟨tb, ⟨#[]⟩, 0, some ⟨w6.heap.size, 0, none⟩, 2, 2, v.p⟩, _, _, by go_num, ?_, hm6, ⟨hg6, fun x hx => ?_⟩, .inr ⟨joinX (hd r).text e (F r.tail), lift_join.symm, ?_, rfl, fun h => absurd h (by omega)⟩⟩
              · have := HLT1.out; omega
              · obtain ⟨b, hb, rfl⟩ := Option.map_eq_some_iff.1 hx
                have hb7 : HS ((((((((((w6.setCell ⟨W5.heap.size, 0, none⟩ (.string o3)).setCell ⟨W5.heap.size, 1, none⟩ (.string nm3)).setCell ⟨W5.heap.size, 2, none⟩ (.int .i64 n3)).setCell ⟨W5.heap.size, 3, none⟩ (.slice A3 ll3 cap3)).setCell ⟨W5.heap.size, 4, none⟩ (.int .i64 p3)).setCell ⟨w.heap.size + 1, 0, none⟩ (.string tb)).setCell ⟨w.heap.size + 1, 1, none⟩ (.string ⟨#[]⟩)).setCell ⟨w.heap.size + 1, 2, none⟩ (.int .i64 0)).setCell ⟨w.heap.size + 1, 3, none⟩ (.slice (some ⟨w6.heap.size, 0, none⟩) 2 2)).setCell ⟨w.heap.size + 1, 4, none⟩ (.int .i64 v.p)) 70 (Rg (w.heap.size + 2) ((((((((((w6.setCell ⟨W5.heap.size, 0, none⟩ (.string o3)).setCell ⟨W5.heap.size, 1, none⟩ (.string nm3)).setCell ⟨W5.heap.size, 2, none⟩ (.int .i64 n3)).setCell ⟨W5.heap.size, 3, none⟩ (.slice A3 ll3 cap3)).setCell ⟨W5.heap.size, 4, none⟩ (.int .i64 p3)).setCell ⟨w.heap.size + 1, 0, none⟩ (.string tb)).setCell ⟨w.heap.size + 1, 1, none⟩ (.string ⟨#[]⟩)).setCell ⟨w.heap.size + 1, 2, none⟩ (.int .i64 0)).setCell ⟨w.heap.size + 1, 3, none⟩ (.slice (some ⟨w6.heap.size, 0, none⟩) 2 2)).setCell ⟨w.heap.size + 1, 4, none⟩ (.int .i64 v.p)).heap.size) b (exC o3 nm3 n3 A3 ll3 cap3 p3) :=
                  (((HX.out b hb).far5S (b := W5.heap.size) (by unfold Rg; omega) _ _ _ _ _).far5S (b := w.heap.size + 1) (by unfold Rg; omega) _ _ _ _ _).wide (fun j _ hj => by rw [hsz]; unfold Rg at *; omega)
                have := ex_binH (W := ((((((((((w6.setCell ⟨W5.heap.size, 0, none⟩ (.string o3)).setCell ⟨W5.heap.size, 1, none⟩ (.string nm3)).setCell ⟨W5.heap.size, 2, none⟩ (.int .i64 n3)).setCell ⟨W5.heap.size, 3, none⟩ (.slice A3 ll3 cap3)).setCell ⟨W5.heap.size, 4, none⟩ (.int .i64 p3)).setCell ⟨w.heap.size + 1, 0, none⟩ (.string tb)).setCell ⟨w.heap.size + 1, 1, none⟩ (.string ⟨#[]⟩)).setCell ⟨w.heap.size + 1, 2, none⟩ (.int .i64 0)).setCell ⟨w.heap.size + 1, 3, none⟩ (.slice (some ⟨w6.heap.size, 0, none⟩) 2 2)).setCell ⟨w.heap.size + 1, 4, none⟩ (.int .i64 v.p))) (va := v) (vb := ⟨o3, nm3, n3, A3, ll3, cap3, p3⟩) (g := w6.heap.size) ha6 hb7 hsz.symm (by omega) (hd r).text HEP.out
                rw [← HTE.out] at this
                exact this
              · rw [← HT.out]
                show _ = exprP (chainF 2 F r.length e r)
                cases hft : F r.tail with
                | er c q => rw [chain_er HSG2.out hft]; rfl
                | ok y' r2 => rw [(chain_go (k := 2) (e := e) HSH.out HSG2.out hft).1]; rfl)
            go_wp2
            go_roundg (plen (joinX (hd r).text e (F r.tail)))
            case measure => rw [HGK.out]; exact HLT1.out
            case rel => exact HRL.out
        · have g4 : (((hd r).kind : Int) != 4) = true := by rw [bne_iff_ne]; omega
          have HTT := Lib.hid (show tot = (some e, .good r) by rw [← HT.out, chainG, chain_stop (sg_no h4)]; rfl)
          obtain ⟨e0, e1, e2, e3, e4⟩ := E3.out.bx.cells
          have hel := E3.out.bx.lt
          obtain ⟨b0, b1, b2, b3, b4⟩ := M3.out.z.cells
          have z0 := M3.out.z.frozen 0
          have z1 := M3.out.z.frozen 1
          have z2 := M3.out.z.frozen 2
          have z3 := M3.out.z.frozen 3
          have z4 := M3.out.z.frozen 4
          have hbl := M3.out.z.lt
          clear h4
          go_wp2
          obtain ⟨d0, d1, d2, d3, d4⟩ := (M3.out.zcells (.string v.o) (.string v.nm) (.int .i64 v.n) (.slice v.A v.ll v.cap) (.int .i64 v.p)).cells
          rw [HTT.out]
          refine bodyPost_ret (v := .agg #[.string v.o, .string v.nm, .int .i64 v.n, .slice v.A v.ll v.cap, .int .i64 v.p]) (by simp [results, Tryz.results172, go_sem, d0, d1, d2, d3, d4]) rfl ?_
          refine M3.out.done (res := (some e, .good r)) rfl (fun x hx => ?_)
          injection hx with hx
          subst hx
          exact (E3.out.hs e rfl).mono (by omega) (Nat.le_refl _)
set_option maxHeartbeats 8000000 in
set_option maxRecDepth 100000 in
theorem rchain_1 {D lev : Nat} {F : List Tok → PR} (hF : RCD 207 F D lev) (hS : Shr F) : RCK 1 (chainX 3 F) D lev := by
  intro w pb st y z hy hz h
  subst hy
  have hm := DV.start h
  have hl := h.lt
  have hE0 : EX ((w.alloc (.cells #[.string ⟨#[]⟩, .string ⟨#[]⟩, .int .i64 0, .slice none 0 0, .int .i64 0] 70)).alloc (.cells #[.string ⟨#[]⟩, .string ⟨#[]⟩, .int .i64 0, .slice none 0 0, .int .i64 0] 70)) (w.heap.size + 2) (w.heap.size + 1) ⟨⟨#[]⟩, ⟨#[]⟩, 0, none, 0, 0, 0⟩ none := ⟨heapN (by simp) _, fun e he => by cases he⟩
  obtain ⟨tot, htot⟩ : ∃ tot, tot = lift (chainX 3 F) st := ⟨_, rfl⟩
  rw [← htot]
  have hst : ∃ gk, gk ≤ 65540 ∧ ChD w pb D 3 F tot gk (.int .i64 0) ((w.alloc (.cells #[.string ⟨#[]⟩, .string ⟨#[]⟩, .int .i64 0, .slice none 0 0, .int .i64 0] 70)).alloc (.cells #[.string ⟨#[]⟩, .string ⟨#[]⟩, .int .i64 0, .slice none 0 0, .int .i64 0] 70)) := by
    cases st with
    | good us =>
      have hlu : us.length ≤ 65537 := by
        obtain ⟨ts, k, g, cap, q1, q2, q3, _⟩ := DR.blk h
        rw [q1, List.length_drop]; omega
      exact ⟨us.length + 1, by omega, 0, _, _, _, rfl, by omega, hm.alloc _, hE0, .inl ⟨rfl, us, rfl, htot, rfl⟩⟩
    | bad c q => exact ⟨0, by omega, 0, _, none, _, rfl, by omega, hm.alloc _, hE0, .inr ⟨.er c q, rfl, htot.symm, rfl, fun _ => ⟨c, q, rfl⟩⟩⟩
  obtain ⟨gk0, hgk0, hst⟩ := hst
  have HST := Lib.hid hst
  have HF := Lib.hid hF
  have HZ := Lib.hid hz
  have HSH := Lib.hid hS
  have HL := Lib.hid hl
  have hf1 := fieldr1
  have hf0 := fieldr0
  clear h hm hE0 htot hst hF hz hS hl hgk0
  go_enter Tryz.func172, Tryz.ntmps172
  go_wp2
  go_loopg [8] gk0 (fun gk i wr => ChD w pb D 3 F tot gk i wr)
  case atStart => exact HST.out
  case round =>
    clear HST
    obtain ⟨n, v, x, st1, rfl, hn, hM, hE, hcase⟩ := hrel
    have hpl := hM.l
    have hel0 := hE.bx.lt
    rcases hcase with ⟨rfl, us, rfl, htot, hgk⟩ | ⟨pr, hpr, htot, hgk, hn0⟩
    · have HTOT := Lib.hid htot
      have HGK := Lib.hid hgk
      obtain ⟨x2, x3, _⟩ := hM.cells
      replace x3 : wr.cell? ⟨pb, 3, none⟩ = some (.int .i64 ((0 : Nat) : Int)) := x3
      have hl1 := hM.d.lt
      have M1 := Lib.hid (hM.alloc (.cells #[.string ⟨#[]⟩, .string ⟨#[]⟩, .int .i64 0, .slice none 0 0, .int .i64 0] 70))
      have E1 := Lib.hid (hE.alloc (.cells #[.string ⟨#[]⟩, .string ⟨#[]⟩, .int .i64 0, .slice none 0 0, .int .i64 0] 70))
      have B1 := Lib.hid (BoxR.new wr (.string ⟨#[]⟩) (.string ⟨#[]⟩) (.int .i64 0) (.slice none 0 0) (.int .i64 0))
      clear hM hE htot hgk
      go_wp2_with fail
      refine calls_gen (P := fun W => DV w W pb D (.good us) ∧ EX W (w.heap.size + 2) (w.heap.size + 1) v x ∧ BoxR W wr.heap.size (.string ⟨#[]⟩) (.string ⟨#[]⟩) (.int .i64 0) (.slice none 0 0) (.int .i64 0)) ⟨M1.out, E1.out, B1.out⟩ ?_
      rintro W ⟨hM, hE, hB⟩
      refine (HF.out W pb (.good us) z HZ.out hM.d).mono ?_
      rintro e w3 ⟨o3, nm3, n3, A3, ll3, cap3, p3, rfl, hFr, hD, hx⟩
      have hs3 := hFr.size
      have hbw := hB.lt
      have hpe : w.heap.size + 1 ≠ pb := by omega
      have hpb : wr.heap.size ≠ pb := by omega
      have M2 := Lib.hid (hM.step hFr hD)
      have E2 := Lib.hid (hE.fr hFr hpe (by omega))
      have B2 := Lib.hid (hB.fr hFr hpb)
      have HX := Lib.hid hx
      have hne1 : wr.heap.size ≠ w.heap.size + 1 := by omega
      have hne2 : w.heap.size + 1 ≠ wr.heap.size := by omega
      have hltb : wr.heap.size < W.heap.size := hbw
      clear hM hE hB hFr hD hx M1 E1 B1 x2 x3
      obtain ⟨e0, e1, e2, e3, e4⟩ := E2.out.bx.cells
      have y0 := E2.out.bx.frozen 0
      have y1 := E2.out.bx.frozen 1
      have y2 := E2.out.bx.frozen 2
      have y3 := E2.out.bx.frozen 3
      have y4 := E2.out.bx.frozen 4
      have hel := E2.out.bx.lt
      obtain ⟨q0, q1, q2, q3, q4⟩ := B2.out.cells
      have t0 := B2.out.frozen 0
      have t1 := B2.out.frozen 1
      have t2 := B2.out.frozen 2
      have t3 := B2.out.frozen 3
      have t4 := B2.out.frozen 4
      have hql := B2.out.lt
      have HRL : Hid (ChD w pb D 3 F tot (plen (F us)) (.int .i64 ((0 : Int) + 1)) ((((((((((w3.setCell ⟨wr.heap.size, 0, none⟩ (.string o3)).setCell ⟨wr.heap.size, 1, none⟩ (.string nm3)).setCell ⟨wr.heap.size, 2, none⟩ (.int .i64 n3)).setCell ⟨wr.heap.size, 3, none⟩ (.slice A3 ll3 cap3)).setCell ⟨wr.heap.size, 4, none⟩ (.int .i64 p3)).setCell ⟨w.heap.size + 1, 0, none⟩ (.string o3)).setCell ⟨w.heap.size + 1, 1, none⟩ (.string nm3)).setCell ⟨w.heap.size + 1, 2, none⟩ (.int .i64 n3)).setCell ⟨w.heap.size + 1, 3, none⟩ (.slice A3 ll3 cap3)).setCell ⟨w.heap.size + 1, 4, none⟩ (.int .i64 p3))) := Lib.hid (by
        have hb5 := M2.out.box5 B2.out (by omega) (.string o3) (.string nm3) (.int .i64 n3) (.slice A3 ll3 cap3) (.int .i64 p3)
        have he5 := E2.out.bx
        have hx5 : ∀ e, (lift F (.good us)).1 = some e → HS (((((w3.setCell ⟨wr.heap.size, 0, none⟩ (.string o3)).setCell ⟨wr.heap.size, 1, none⟩ (.string nm3)).setCell ⟨wr.heap.size, 2, none⟩ (.int .i64 n3)).setCell ⟨wr.heap.size, 3, none⟩ (.slice A3 ll3 cap3)).setCell ⟨wr.heap.size, 4, none⟩ (.int .i64 p3)) 70 (Rg (w.heap.size + 2) (((((w3.setCell ⟨wr.heap.size, 0, none⟩ (.string o3)).setCell ⟨wr.heap.size, 1, none⟩ (.string nm3)).setCell ⟨wr.heap.size, 2, none⟩ (.int .i64 n3)).setCell ⟨wr.heap.size, 3, none⟩ (.slice A3 ll3 cap3)).setCell ⟨wr.heap.size, 4, none⟩ (.int .i64 p3)).heap.size) e (exC o3 nm3 n3 A3 ll3 cap3 p3) := fun e he =>
          ((HX.out e he).far5S (b := wr.heap.size) (by unfold Rg; omega) _ _ _ _ _).wide (fun j _ hj => by unfold Rg at *; simp; omega)
        have hE5 : EX (((((w3.setCell ⟨wr.heap.size, 0, none⟩ (.string o3)).setCell ⟨wr.heap.size, 1, none⟩ (.string nm3)).setCell ⟨wr.heap.size, 2, none⟩ (.int .i64 n3)).setCell ⟨wr.heap.size, 3, none⟩ (.slice A3 ll3 cap3)).setCell ⟨wr.heap.size, 4, none⟩ (.int .i64 p3)) (w.heap.size + 2) (w.heap.size + 1) v none := ⟨((((he5.far (p := ⟨wr.heap.size, 0, none⟩) hne2 _).far (p := ⟨wr.heap.size, 1, none⟩) hne2 _).far (p := ⟨wr.heap.size, 2, none⟩) hne2 _).far (p := ⟨wr.heap.size, 3, none⟩) hne2 _).far (p := ⟨wr.heap.size, 4, none⟩) hne2 _, fun e he => by cases he⟩
        have hgu := HGK.out
        refine ⟨1, ⟨o3, nm3, n3, A3, ll3, cap3, p3⟩, _, _, by simp, ?_, hb5.box5 hE5.bx (by omega) _ _ _ _ _, hE5.put (v' := ⟨o3, nm3, n3, A3, ll3, cap3, p3⟩) (by omega) hx5, .inr ⟨F us, rfl, HTOT.out.symm, rfl, fun h => absurd h (by omega)⟩⟩
        cases hfu : F us with
        | er c q => simp only [plen]; omega
        | ok e' r' => have := (HSH.out us e' r' hfu).1; simp only [plen]; omega)
      have HLT := Lib.hid (show plen (F us) < gk by
        have := HGK.out
        cases hfu : F us with
        | er c q => simp only [plen]; omega
        | ok e' r' => have := (HSH.out us e' r' hfu).1; simp only [plen]; omega)
      go_wp2
      go_roundg (plen (F us))
      case measure => exact HLT.out
      case rel => exact HRL.out
    · cases pr with
      | er c q =>
        obtain ⟨rfl, rfl⟩ := Prod.mk.inj hpr
        have HT := Lib.hid (show tot = (none, .bad c q) from htot.symm)
        have hc0 : c ≠ 0 := hM.d.1
        have g1 : ((c : Int) == 0) = false := by rw [beq_eq_false_iff_ne]; omega
        obtain ⟨x2, x3, _⟩ := hM.cells
        replace x3 : wr.cell? ⟨pb, 3, none⟩ = some (.int .i64 (c : Int)) := x3
        have hl1 := hM.d.lt
        have M1 := Lib.hid hM
        obtain ⟨b0, b1, b2, b3, b4⟩ := M1.out.z.cells
        have z0 := M1.out.z.frozen 0
        have z1 := M1.out.z.frozen 1
        have z2 := M1.out.z.frozen 2
        have z3 := M1.out.z.frozen 3
        have z4 := M1.out.z.frozen 4
        have hbl := M1.out.z.lt
        obtain ⟨e0, e1, e2, e3, e4⟩ := hE.bx.cells
        clear hM hE hpr htot hn0 hc0
        go_wp2
        obtain ⟨d0, d1, d2, d3, d4⟩ := (M1.out.zcells (.string v.o) (.string v.nm) (.int .i64 v.n) (.slice v.A v.ll v.cap) (.int .i64 v.p)).cells
        rw [HT.out]
        refine bodyPost_ret (v := .agg #[.string v.o, .string v.nm, .int .i64 v.n, .slice v.A v.ll v.cap, .int .i64 v.p]) (by simp [results, Tryz.results172, go_sem, d0, d1, d2, d3, d4]) rfl ?_
        exact M1.out.done (res := (none, .bad c q)) rfl (fun x hx => by cases hx)
      | ok e r =>
        obtain ⟨rfl, rfl⟩ := Prod.mk.inj hpr
        have hn1 : 0 < n := by
          rcases Nat.eq_zero_or_pos n with h | h
          · obtain ⟨c, q, h⟩ := hn0 h; cases h
          · exact h
        have HT := Lib.hid htot
        have HGK := Lib.hid (show gk = r.length from hgk)
        have g1 : decide ((0 : Int) < (n : Int)) = true := by simp; omega
        have g2 : decide (0 < n) = true := by simpa using hn1
        have g3 : ((n : Int) == 0) = false := by rw [beq_eq_false_iff_ne]; omega
        have hn2 : n ≤ 70000 := by omega
        obtain ⟨x2, x3, _⟩ := hM.cells
        replace x3 : wr.cell? ⟨pb, 3, none⟩ = some (.int .i64 ((0 : Nat) : Int)) := x3
        have hl1 := hM.d.lt
        have M1 := Lib.hid hM
        have E1 := Lib.hid hE
        clear hM hE hpr htot hn0 hgk
        go_wp2_with fail
        refine (rnow_any M1.out.d).mono ?_
        rintro e2 w2 ⟨rfl, hb2⟩
        have M2 := Lib.hid (M1.out.below hb2)
        have E2 := Lib.hid (E1.out.below hb2)
        clear hb2 M1 E1 x2 x3
        have hl2 := M2.out.d.lt
        go_wp2_with fail
        refine (rnow_any M2.out.d).mono ?_
        rintro e3 w3 ⟨rfl, hb3⟩
        have M3 := Lib.hid (M2.out.below hb3)
        have E3 := Lib.hid (E2.out.below hb3)
        clear hb3 M2 E2 hl2
        have hl3 := M3.out.d.lt
        obtain ⟨tb, htb⟩ : ∃ tb : ByteArray, tb = ⟨(hd r).text.toArray⟩ := ⟨_, rfl⟩
        have HTB := Lib.hid (show tb.data.toList = (hd r).text by rw [htb])
        have HTE := Lib.hid htb
        rw [← htb]
        clear htb
        by_cases h4 : (hd r).kind = 4
        · have g4 : (((hd r).kind : Int) != 4) = false := by simp [h4]
          have HSG := Lib.hid (sg_in (t := hd r) (k := 3) (by decide) h4)
          have H5 := Lib.hid (sgin_1 tb w3)
          rw [HTB.out, ← HSG.out] at H5
          have HK := Lib.hid (show (hd r).kind ≠ 0 by omega)
          clear h4
          cases hs : sg 3 (hd r) with
          | false =>
            rw [hs] at H5
            have HTT := Lib.hid (show tot = (some e, .good r) by rw [← HT.out, chainG, chain_stop hs]; rfl)
            obtain ⟨e0, e1, e2, e3, e4⟩ := E3.out.bx.cells
            have hel := E3.out.bx.lt
            obtain ⟨b0, b1, b2, b3, b4⟩ := M3.out.z.cells
            have z0 := M3.out.z.frozen 0
            have z1 := M3.out.z.frozen 1
            have z2 := M3.out.z.frozen 2
            have z3 := M3.out.z.frozen 3
            have z4 := M3.out.z.frozen 4
            have hbl := M3.out.z.lt
            clear hs HSG
            go_wp2_with fail
            refine (rsigns_1 w3).mono ?_
            rintro e4 w4 ⟨rfl, rfl⟩
            go_wp2_with fail
            refine (H5.out).mono ?_
            rintro e5 w5 ⟨rfl, rfl⟩
            go_wp2
            obtain ⟨d0, d1, d2, d3, d4⟩ := (M3.out.ucells (x0 := .string v.o) (x1 := .string v.nm) (x2 := .int .i64 v.n) (x3 := .slice v.A v.ll v.cap) (x4 := .int .i64 v.p) ((Below.refl _ _).alloc (by simp) (.cells #[.string ⟨#[38]⟩] 9))).cells
            rw [HTT.out]
            refine bodyPost_ret (v := .agg #[.string v.o, .string v.nm, .int .i64 v.n, .slice v.A v.ll v.cap, .int .i64 v.p]) (by simp [results, Tryz.results172, go_sem, d0, d1, d2, d3, d4]) rfl ?_
            refine M3.out.fin (res := (some e, .good r)) rfl ((Below.refl _ _).alloc (by simp) _) (fun x hx => ?_)
            injection hx with hx
            subst hx
            exact (((E3.out.far5 (bz := w.heap.size) (by omega) (by omega) (.string v.o) (.string v.nm) (.int .i64 v.n) (.slice v.A v.ll v.cap) (.int .i64 v.p)).alloc _).hs e rfl).mono (by omega) (Nat.le_refl _)
          | true =>
            rw [hs] at H5
            have HSG2 := Lib.hid hs
            have HLT1 := Lib.hid (show plen (joinX (hd r).text e (F r.tail)) < r.length by
              have hr := Fine.ne (DR.fine M3.out.d)
              have hp := List.length_pos_iff.2 hr
              cases hft : F r.tail with
              | er c q => exact hp
              | ok y' r2 => exact (chain_go (k := 3) (e := e) HSH.out hs hft).2)
            clear hs HSG
            go_wp2_with fail
            refine (rsigns_1 w3).mono ?_
            rintro e4 w4 ⟨rfl, rfl⟩
            go_wp2_with fail
            refine (H5.out).mono ?_
            rintro e5 w5 ⟨rfl, rfl⟩
            have M4 := Lib.hid (M3.out.alloc (.cells #[.string ⟨#[38]⟩] 9))
            have E4 := Lib.hid (E3.out.alloc (.cells #[.string ⟨#[38]⟩] 9))
            generalize w3.alloc (.cells #[.string ⟨#[38]⟩] 9) = W5 at M4 E4 ⊢
            clear M3 E3 H5 hl3 hel0
            have hel := E4.out.bx.lt
            obtain ⟨k, hk1, hk2, hT⟩ := M4.out.tail HK.out
            have fk := M4.out.cells.2.2 1
            have hlk := M4.out.d.lt
            have hpe : w.heap.size + 1 ≠ pb := by omega
            have M5 := Lib.hid (hT.alloc (.cells #[.string ⟨#[]⟩, .string ⟨#[]⟩, .int .i64 0, .slice none 0 0, .int .i64 0] 70))
            have hE5 := (E4.out.setCell (p := ⟨pb, 1, none⟩) hpe (by show pb < _; omega) (.int .i64 ((k : Int) + 1)))
            have HA5 := Lib.hid (show HS ((W5.setCell ⟨pb, 1, none⟩ (.int .i64 ((k : Int) + 1))).alloc (.cells #[.string ⟨#[]⟩, .string ⟨#[]⟩, .int .i64 0, .slice none 0 0, .int .i64 0] 70)) 70 (Rg (w.heap.size + 2) W5.heap.size) e (exC v.o v.nm v.n v.A v.ll v.cap v.p) from ((hE5.hs e rfl).alloc _).wide (fun j _ hj => by simpa using hj))
            have E5 := Lib.hid (hE5.alloc (.cells #[.string ⟨#[]⟩, .string ⟨#[]⟩, .int .i64 0, .slice none 0 0, .int .i64 0] 70)).bx
            have B5 := Lib.hid (show BoxR ((W5.setCell ⟨pb, 1, none⟩ (.int .i64 ((k : Int) + 1))).alloc (.cells #[.string ⟨#[]⟩, .string ⟨#[]⟩, .int .i64 0, .slice none 0 0, .int .i64 0] 70)) W5.heap.size (.string ⟨#[]⟩) (.string ⟨#[]⟩) (.int .i64 0) (.slice none 0 0) (.int .i64 0) from heapN (by simp) _)
            have HEP := Lib.hid (ex_pos E4.out)
            clear hT hE5 M4 E4
            go_wp2_with fail
            refine calls_gen (P := fun W => DV w W pb D (.good r.tail) ∧ BoxR W (w.heap.size + 1) (.string v.o) (.string v.nm) (.int .i64 v.n) (.slice v.A v.ll v.cap) (.int .i64 v.p) ∧ BoxR W W5.heap.size (.string ⟨#[]⟩) (.string ⟨#[]⟩) (.int .i64 0) (.slice none 0 0) (.int .i64 0) ∧ HS W 70 (Rg (w.heap.size + 2) W5.heap.size) e (exC v.o v.nm v.n v.A v.ll v.cap v.p)) ⟨M5.out, E5.out, B5.out, HA5.out⟩ ?_
            rintro W ⟨hM, hE, hB, hA⟩
            refine (HF.out W pb (.good r.tail) z HZ.out hM.d).mono ?_
            rintro e6 w6 ⟨o3, nm3, n3, A3, ll3, cap3, p3, rfl, hFr, hD, hx⟩
            have hs6 := hFr.size
            have hbw := hB.lt
            have hpb : W5.heap.size ≠ pb := by omega
            have M6 := Lib.hid (hM.step hFr hD)
            have E6 := Lib.hid (hE.fr hFr hpe)
            have B6 := Lib.hid (hB.fr hFr hpb)
            have HA6 := Lib.hid (hA.frS hFr (by unfold Rg; omega))
            have HX := Lib.hid hx
            have hne1 : W5.heap.size ≠ w.heap.size + 1 := by omega
            have hne2 : w.heap.size + 1 ≠ W5.heap.size := by omega
            clear hM hE hB hA hFr hD hx M5 E5 B5 HA5 hk1 fk hlk
            obtain ⟨e0, e1, e2, e3, e4⟩ := E6.out.cells
            have y0 := E6.out.frozen 0
            have y1 := E6.out.frozen 1
            have y2 := E6.out.frozen 2
            have y3 := E6.out.frozen 3
            have y4 := E6.out.frozen 4
            have hel6 := E6.out.lt
            obtain ⟨q0, q1, q2, q3, q4⟩ := B6.out.cells
            have t0 := B6.out.frozen 0
            have t1 := B6.out.frozen 1
            have t2 := B6.out.frozen 2
            have t3 := B6.out.frozen 3
            have t4 := B6.out.frozen 4
            have hql := B6.out.lt
            have HRL : Hid (ChD w pb D 3 F tot (plen (joinX (hd r).text e (F r.tail))) (.int .i64 ((n : Int) + 1)) (((((((((((w6.setCell ⟨W5.heap.size, 0, none⟩ (.string o3)).setCell ⟨W5.heap.size, 1, none⟩ (.string nm3)).setCell ⟨W5.heap.size, 2, none⟩ (.int .i64 n3)).setCell ⟨W5.heap.size, 3, none⟩ (.slice A3 ll3 cap3)).setCell ⟨W5.heap.size, 4, none⟩ (.int .i64 p3)).setCell ⟨w.heap.size + 1, 0, none⟩ (.string tb)).setCell ⟨w.heap.size + 1, 1, none⟩ (.string ⟨#[]⟩)).setCell ⟨w.heap.size + 1, 2, none⟩ (.int .i64 0)).setCell ⟨w.heap.size + 1, 3, none⟩ (.slice (some ⟨w6.heap.size, 0, none⟩) 2 2)).setCell ⟨w.heap.size + 1, 4, none⟩ (.int .i64 v.p)).alloc (.cells #[.string v.o, .string v.nm, .int .i64 v.n, .slice v.A v.ll v.cap, .int .i64 v.p, .string o3, .string nm3, .int .i64 n3, .slice A3 ll3 cap3, .int .i64 p3] 70))) := Lib.hid (by
              have hb6 := M6.out.box5 B6.out (by omega) (.string o3) (.string nm3) (.int .i64 n3) (.slice A3 ll3 cap3) (.int .i64 p3)
              have he6 : BoxR (((((w6.setCell ⟨W5.heap.size, 0, none⟩ (.string o3)).setCell ⟨W5.heap.size, 1, none⟩ (.string nm3)).setCell ⟨W5.heap.size, 2, none⟩ (.int .i64 n3)).setCell ⟨W5.heap.size, 3, none⟩ (.slice A3 ll3 cap3)).setCell ⟨W5.heap.size, 4, none⟩ (.int .i64 p3)) (w.heap.size + 1) (.string v.o) (.string v.nm) (.int .i64 v.n) (.slice v.A v.ll v.cap) (.int .i64 v.p) := ((((E6.out.far (p := ⟨W5.heap.size, 0, none⟩) hne2 _).far (p := ⟨W5.heap.size, 1, none⟩) hne2 _).far (p := ⟨W5.heap.size, 2, none⟩) hne2 _).far (p := ⟨W5.heap.size, 3, none⟩) hne2 _).far (p := ⟨W5.heap.size, 4, none⟩) hne2 _
              have hm6 := (hb6.box5 he6 (by omega) (.string tb) (.string ⟨#[]⟩) (.int .i64 0) (.slice (some ⟨w6.heap.size, 0, none⟩) 2 2) (.int .i64 v.p)).alloc (.cells #[.string v.o, .string v.nm, .int .i64 v.n, .slice v.A v.ll v.cap, .int .i64 v.p, .string o3, .string nm3, .int .i64 n3, .slice A3 ll3 cap3, .int .i64 p3] 70)
              have hg6 : BoxR (((((((((((w6.setCell ⟨W5.heap.size, 0, none⟩ (.string o3)).setCell ⟨W5.heap.size, 1, none⟩ (.string nm3)).setCell ⟨W5.heap.size, 2, none⟩ (.int .i64 n3)).setCell ⟨W5.heap.size, 3, none⟩ (.slice A3 ll3 cap3)).setCell ⟨W5.heap.size, 4, none⟩ (.int .i64 p3)).setCell ⟨w.heap.size + 1, 0, none⟩ (.string tb)).setCell ⟨w.heap.size + 1, 1, none⟩ (.string ⟨#[]⟩)).setCell ⟨w.heap.size + 1, 2, none⟩ (.int .i64 0)).setCell ⟨w.heap.size + 1, 3, none⟩ (.slice (some ⟨w6.heap.size, 0, none⟩) 2 2)).setCell ⟨w.heap.size + 1, 4, none⟩ (.int .i64 v.p)).alloc (.cells #[.string v.o, .string v.nm, .int .i64 v.n, .slice v.A v.ll v.cap, .int .i64 v.p, .string o3, .string nm3, .int .i64 n3, .slice A3 ll3 cap3, .int .i64 p3] 70)) (w.heap.size + 1) (.string tb) (.string ⟨#[]⟩) (.int .i64 0) (.slice (some ⟨w6.heap.size, 0, none⟩) 2 2) (.int .i64 v.p) := (he6.set5 _ _ _ _ _).alloc _
              have hsz : ((((((((((w6.setCell ⟨W5.heap.size, 0, none⟩ (.string o3)).setCell ⟨W5.heap.size, 1, none⟩ (.string nm3)).setCell ⟨W5.heap.size, 2, none⟩ (.int .i64 n3)).setCell ⟨W5.heap.size, 3, none⟩ (.slice A3 ll3 cap3)).setCell ⟨W5.heap.size, 4, none⟩ (.int .i64 p3)).setCell ⟨w.heap.size + 1, 0, none⟩ (.string tb)).setCell ⟨w.heap.size + 1, 1, none⟩ (.string ⟨#[]⟩)).setCell ⟨w.heap.size + 1, 2, none⟩ (.int .i64 0)).setCell ⟨w.heap.size + 1, 3, none⟩ (.slice (some ⟨w6.heap.size, 0, none⟩) 2 2)).setCell ⟨w.heap.size + 1, 4, none⟩ (.int .i64 v.p)).heap.size = w6.heap.size := by simp
              have ha6 : HS ((((((((((w6.setCell ⟨W5.heap.size, 0, none⟩ (.string o3)).setCell ⟨W5.heap.size, 1, none⟩ (.string nm3)).setCell ⟨W5.heap.size, 2, none⟩ (.int .i64 n3)).setCell ⟨W5.heap.size, 3, none⟩ (.slice A3 ll3 cap3)).setCell ⟨W5.heap.size, 4, none⟩ (.int .i64 p3)).setCell ⟨w.heap.size + 1, 0, none⟩ (.string tb)).setCell ⟨w.heap.size + 1, 1, none⟩ (.string ⟨#[]⟩)).setCell ⟨w.heap.size + 1, 2, none⟩ (.int .i64 0)).setCell ⟨w.heap.size + 1, 3, none⟩ (.slice (some ⟨w6.heap.size, 0, none⟩) 2 2)).setCell ⟨w.heap.size + 1, 4, none⟩ (.int .i64 v.p)) 70 (Rg (w.heap.size + 2) ((((((((((w6.setCell ⟨W5.heap.size, 0, none⟩ (.string o3)).setCell ⟨W5.heap.size, 1, none⟩ (.string nm3)).setCell ⟨W5.heap.size, 2, none⟩ (.int .i64 n3)).setCell ⟨W5.heap.size, 3, none⟩ (.slice A3 ll3 cap3)).setCell ⟨W5.heap.size, 4, none⟩ (.int .i64 p3)).setCell ⟨w.heap.size + 1, 0, none⟩ (.string tb)).setCell ⟨w.heap.size + 1, 1, none⟩ (.string ⟨#[]⟩)).setCell ⟨w.heap.size + 1, 2, none⟩ (.int .i64 0)).setCell ⟨w.heap.size + 1, 3, none⟩ (.slice (some ⟨w6.heap.size, 0, none⟩) 2 2)).setCell ⟨w.heap.size + 1, 4, none⟩ (.int .i64 v.p)).heap.size) e (exC v.o v.nm v.n v.A v.ll v.cap v.p) :=
                ((HA6.out.far5S (b := W5.heap.size) (by unfold Rg; omega) _ _ _ _ _).far5S (b := w.heap.size + 1) (by unfold Rg; omega) _ _ _ _ _).wide (fun j _ hj => by rw [hsz]; unfold Rg at *; omega)
              have hgn := HGK.out
              refine ⟨n + 1, ⟨tb, ⟨#[]⟩, 0, some ⟨w6.heap.size, 0, none⟩, 2, 2, v.p⟩, _, _, by go_num, ?_, hm6, ⟨hg6, fun x hx => ?_⟩, .inr ⟨joinX (hd r).text e (F r.tail), lift_join.symm, ?_, rfl, fun h => absurd h (by omega)⟩⟩
              · have := HLT1.out; omega
              · obtain ⟨b, hb, rfl⟩ := Option.map_eq_some_iff.1 hx
                have hb7 : HS ((((((((((w6.setCell ⟨W5.heap.size, 0, none⟩ (.string o3)).setCell ⟨W5.heap.size, 1, none⟩ (.string nm3)).setCell ⟨W5.heap.size, 2, none⟩ (.int .i64 n3)).setCell ⟨W5.heap.size, 3, none⟩ (.slice A3 ll3 cap3)).setCell ⟨W5.heap.size, 4, none⟩ (.int .i64 p3)).setCell ⟨w.heap.size + 1, 0, none⟩ (.string tb)).setCell ⟨w.heap.size + 1, 1, none⟩ (.string ⟨#[]⟩)).setCell ⟨w.heap.size + 1, 2, none⟩ (.int .i64 0)).setCell ⟨w.heap.size + 1, 3, none⟩ (.slice (some ⟨w6.heap.size, 0, none⟩) 2 2)).setCell ⟨w.heap.size + 1, 4, none⟩ (.int .i64 v.p)) 70 (Rg (w.heap.size + 2) ((((((((((w6.setCell ⟨W5.heap.size, 0, none⟩ (.string o3)).setCell ⟨W5.heap.size, 1, none⟩ (.string nm3)).setCell ⟨W5.heap.size, 2, none⟩ (.int .i64 n3)).setCell ⟨W5.heap.size, 3, none⟩ (.slice A3 ll3 cap3)).setCell ⟨W5.heap.size, 4, none⟩ (.int .i64 p3)).setCell ⟨w.heap.size + 1, 0, none⟩ (.string tb)).setCell ⟨w.heap.size + 1, 1, none⟩ (.string ⟨#[]⟩)).setCell ⟨w.heap.size + 1, 2, none⟩ (.int .i64 0)).setCell ⟨w.heap.size + 1, 3, none⟩ (.slice (some ⟨w6.heap.size, 0, none⟩) 2 2)).setCell ⟨w.heap.size + 1, 4, none⟩ (.int .i64 v.p)).heap.size) b (exC o3 nm3 n3 A3 ll3 cap3 p3) :=
                  (((HX.out b hb).far5S (b := W5.heap.size) (by unfold Rg; omega) _ _ _ _ _).far5S (b := w.heap.size + 1) (by unfold Rg; omega) _ _ _ _ _).wide (fun j _ hj => by rw [hsz]; unfold Rg at *; omega)
                have := ex_binH (W := ((((((((((w6.setCell ⟨W5.heap.size, 0, none⟩ (.string o3)).setCell ⟨W5.heap.size, 1, none⟩ (.string nm3)).setCell ⟨W5.heap.size, 2, none⟩ (.int .i64 n3)).setCell ⟨W5.heap.size, 3, none⟩ (.slice A3 ll3 cap3)).setCell ⟨W5.heap.size, 4, none⟩ (.int .i64 p3)).setCell ⟨w.heap.size + 1, 0, none⟩ (.string tb)).setCell ⟨w.heap.size + 1, 1, none⟩ (.string ⟨#[]⟩)).setCell ⟨w.heap.size + 1, 2, none⟩ (.int .i64 0)).setCell ⟨w.heap.size + 1, 3, none⟩ (.slice (some ⟨w6.heap.size, 0, none⟩) 2 2)).setCell ⟨w.heap.size + 1, 4, none⟩ (.int .i64 v.p))) (va := v) (vb := ⟨o3, nm3, n3, A3, ll3, cap3, p3⟩) (g := w6.heap.size) ha6 hb7 hsz.symm (by omega) (hd r).text HEP.out
                rw [← HTE.out] at this
                exact this
              · rw [← HT.out]
                show _ = exprP (chainF 3 F r.length e r)
                cases hft : F r.tail with
                | er c q => rw [chain_er HSG2.out hft]; rfl
                | ok y' r2 => rw [(chain_go (k := 3) (e := e) HSH.out HSG2.out hft).1]; rfl)
            go_wp2
            go_roundg (plen (joinX (hd r).text e (F r.tail)))
            case measure => rw [HGK.out]; exact HLT1.out
            case rel => exact HRL.out
        · have g4 : (((hd r).kind : Int) != 4) = true := by rw [bne_iff_ne]; omega
          have HTT := Lib.hid (show tot = (some e, .good r) by rw [← HT.out, chainG, chain_stop (sg_no h4)]; rfl)
          obtain ⟨e0, e1, e2, e3, e4⟩ := E3.out.bx.cells
          have hel := E3.out.bx.lt
          obtain ⟨b0, b1, b2, b3, b4⟩ := M3.out.z.cells
          have z0 := M3.out.z.frozen 0
          have z1 := M3.out.z.frozen 1
          have z2 := M3.out.z.frozen 2
          have z3 := M3.out.z.frozen 3
          have z4 := M3.out.z.frozen 4
          have hbl := M3.out.z.lt
          clear h4
          go_wp2
          obtain ⟨d0, d1, d2, d3, d4⟩ := (M3.out.zcells (.string v.o) (.string v.nm) (.int .i64 v.n) (.slice v.A v.ll v.cap) (.int .i64 v.p)).cells
          rw [HTT.out]
          refine bodyPost_ret (v := .agg #[.string v.o, .string v.nm, .int .i64 v.n, .slice v.A v.ll v.cap, .int .i64 v.p]) (by simp [results, Tryz.results172, go_sem, d0, d1, d2, d3, d4]) rfl ?_
          refine M3.out.done (res := (some e, .good r)) rfl (fun x hx => ?_)
          injection hx with hx
          subst hx
          exact (E3.out.hs e rfl).mono (by omega) (Nat.le_refl _)
set_option maxHeartbeats 8000000 in
set_option maxRecDepth 100000 in
theorem rchain_2 {D lev : Nat} {F : List Tok → PR} (hF : RCK 3 F D lev) (hS : Shr F) : RCK 2 (chainX 6 F) D lev := by
  intro w pb st y z hy hz h
  subst hy
  have hm := DV.start h
  have hl := h.lt
  have hE0 : EX ((w.alloc (.cells #[.string ⟨#[]⟩, .string ⟨#[]⟩, .int .i64 0, .slice none 0 0, .int .i64 0] 70)).alloc (.cells #[.string ⟨#[]⟩, .string ⟨#[]⟩, .int .i64 0, .slice none 0 0, .int .i64 0] 70)) (w.heap.size + 2) (w.heap.size + 1) ⟨⟨#[]⟩, ⟨#[]⟩, 0, none, 0, 0, 0⟩ none := ⟨heapN (by simp) _, fun e he => by cases he⟩
  obtain ⟨tot, htot⟩ : ∃ tot, tot = lift (chainX 6 F) st := ⟨_, rfl⟩
  rw [← htot]
  have hst : ∃ gk, gk ≤ 65540 ∧ ChD w pb D 6 F tot gk (.int .i64 0) ((w.alloc (.cells #[.string ⟨#[]⟩, .string ⟨#[]⟩, .int .i64 0, .slice none 0 0, .int .i64 0] 70)).alloc (.cells #[.string ⟨#[]⟩, .string ⟨#[]⟩, .int .i64 0, .slice none 0 0, .int .i64 0] 70)) := by
    cases st with
    | good us =>
      have hlu : us.length ≤ 65537 := by
        obtain ⟨ts, k, g, cap, q1, q2, q3, _⟩ := DR.blk h
        rw [q1, List.length_drop]; omega
      exact ⟨us.length + 1, by omega, 0, _, _, _, rfl, by omega, hm.alloc _, hE0, .inl ⟨rfl, us, rfl, htot, rfl⟩⟩
    | bad c q => exact ⟨0, by omega, 0, _, none, _, rfl, by omega, hm.alloc _, hE0, .inr ⟨.er c q, rfl, htot.symm, rfl, fun _ => ⟨c, q, rfl⟩⟩⟩
  obtain ⟨gk0, hgk0, hst⟩ := hst
  have HST := Lib.hid hst
  have HF := Lib.hid hF
  have HZ := Lib.hid hz
  have HSH := Lib.hid hS
  have HL := Lib.hid hl
  have hf1 := fieldr1
  have hf0 := fieldr0
  clear h hm hE0 htot hst hF hz hS hl hgk0
  go_enter Tryz.func172, Tryz.ntmps172
  go_wp2
  go_loopg [8] gk0 (fun gk i wr => ChD w pb D 6 F tot gk i wr)
  case atStart => exact HST.out
  case round =>
    clear HST
    obtain ⟨n, v, x, st1, rfl, hn, hM, hE, hcase⟩ := hrel
    have hpl := hM.l
    have hel0 := hE.bx.lt
    rcases hcase with ⟨rfl, us, rfl, htot, hgk⟩ | ⟨pr, hpr, htot, hgk, hn0⟩
    · have HTOT := Lib.hid htot
      have HGK := Lib.hid hgk
      obtain ⟨x2, x3, _⟩ := hM.cells
      replace x3 : wr.cell? ⟨pb, 3, none⟩ = some (.int .i64 ((0 : Nat) : Int)) := x3
      have hl1 := hM.d.lt
      have M1 := Lib.hid (hM.alloc (.cells #[.string ⟨#[]⟩, .string ⟨#[]⟩, .int .i64 0, .slice none 0 0, .int .i64 0] 70))
      have E1 := Lib.hid (hE.alloc (.cells #[.string ⟨#[]⟩, .string ⟨#[]⟩, .int .i64 0, .slice none 0 0, .int .i64 0] 70))
      have B1 := Lib.hid (BoxR.new wr (.string ⟨#[]⟩) (.string ⟨#[]⟩) (.int .i64 0) (.slice none 0 0) (.int .i64 0))
      clear hM hE htot hgk
      go_wp2_with fail
      refine calls_gen (P := fun W => DV w W pb D (.good us) ∧ EX W (w.heap.size + 2) (w.heap.size + 1) v x ∧ BoxR W wr.heap.size (.string ⟨#[]⟩) (.string ⟨#[]⟩) (.int .i64 0) (.slice none 0 0) (.int .i64 0)) ⟨M1.out, E1.out, B1.out⟩ ?_
      rintro W ⟨hM, hE, hB⟩
      refine (HF.out W pb (.good us) 3 z rfl HZ.out hM.d).mono ?_
      rintro e w3 ⟨o3, nm3, n3, A3, ll3, cap3, p3, rfl, hFr, hD, hx⟩
      have hs3 := hFr.size
      have hbw := hB.lt
      have hpe : w.heap.size + 1 ≠ pb := by omega
      have hpb : wr.heap.size ≠ pb := by omega
      have M2 := Lib.hid (hM.step hFr hD)
      have E2 := Lib.hid (hE.fr hFr hpe (by omega))
      have B2 := Lib.hid (hB.fr hFr hpb)
      have HX := Lib.hid hx
      have hne1 : wr.heap.size ≠ w.heap.size + 1 := by omega
      have hne2 : w.heap.size + 1 ≠ wr.heap.size := by omega
      have hltb : wr.heap.size < W.heap.size := hbw
      clear hM hE hB hFr hD hx M1 E1 B1 x2 x3
      obtain ⟨e0, e1, e2, e3, e4⟩ := E2.out.bx.cells
      have y0 := E2.out.bx.frozen 0
      have y1 := E2.out.bx.frozen 1
      have y2 := E2.out.bx.frozen 2
      have y3 := E2.out.bx.frozen 3
      have y4 := E2.out.bx.frozen 4
      have hel := E2.out.bx.lt
      obtain ⟨q0, q1, q2, q3, q4⟩ := B2.out.cells
      have t0 := B2.out.frozen 0
      have t1 := B2.out.frozen 1
      have t2 := B2.out.frozen 2
      have t3 := B2.out.frozen 3
      have t4 := B2.out.frozen 4
      have hql := B2.out.lt
      have HRL : Hid (ChD w pb D 6 F tot (plen (F us)) (.int .i64 ((0 : Int) + 1)) ((((((((((w3.setCell ⟨wr.heap.size, 0, none⟩ (.string o3)).setCell ⟨wr.heap.size, 1, none⟩ (.string nm3)).setCell ⟨wr.heap.size, 2, none⟩ (.int .i64 n3)).setCell ⟨wr.heap.size, 3, none⟩ (.slice A3 ll3 cap3)).setCell ⟨wr.heap.size, 4, none⟩ (.int .i64 p3)).setCell ⟨w.heap.size + 1, 0, none⟩ (.string o3)).setCell ⟨w.heap.size + 1, 1, none⟩ (.string nm3)).setCell ⟨w.heap.size + 1, 2, none⟩ (.int .i64 n3)).setCell ⟨w.heap.size + 1, 3, none⟩ (.slice A3 ll3 cap3)).setCell ⟨w.heap.size + 1, 4, none⟩ (.int .i64 p3))) := Lib.hid (by
        have hb5 := M2.out.box5 B2.out (by omega) (.string o3) (.string nm3) (.int .i64 n3) (.slice A3 ll3 cap3) (.int .i64 p3)
        have he5 := E2.out.bx
        have hx5 : ∀ e, (lift F (.good us)).1 = some e → HS (((((w3.setCell ⟨wr.heap.size, 0, none⟩ (.string o3)).setCell ⟨wr.heap.size, 1, none⟩ (.string nm3)).setCell ⟨wr.heap.size, 2, none⟩ (.int .i64 n3)).setCell ⟨wr.heap.size, 3, none⟩ (.slice A3 ll3 cap3)).setCell ⟨wr.heap.size, 4, none⟩ (.int .i64 p3)) 70 (Rg (w.heap.size + 2) (((((w3.setCell ⟨wr.heap.size, 0, none⟩ (.string o3)).setCell ⟨wr.heap.size, 1, none⟩ (.string nm3)).setCell ⟨wr.heap.size, 2, none⟩ (.int .i64 n3)).setCell ⟨wr.heap.size, 3, none⟩ (.slice A3 ll3 cap3)).setCell ⟨wr.heap.size, 4, none⟩ (.int .i64 p3)).heap.size) e (exC o3 nm3 n3 A3 ll3 cap3 p3) := fun e he =>
          ((HX.out e he).far5S (b := wr.heap.size) (by unfold Rg; omega) _ _ _ _ _).wide (fun j _ hj => by unfold Rg at *; simp; omega)
        have hE5 : EX (((((w3.setCell ⟨wr.heap.size, 0, none⟩ (.string o3)).setCell ⟨wr.heap.size, 1, none⟩ (.string nm3)).setCell ⟨wr.heap.size, 2, none⟩ (.int .i64 n3)).setCell ⟨wr.heap.size, 3, none⟩ (.slice A3 ll3 cap3)).setCell ⟨wr.heap.size, 4, none⟩ (.int .i64 p3)) (w.heap.size + 2) (w.heap.size + 1) v none := ⟨((((he5.far (p := ⟨wr.heap.size, 0, none⟩) hne2 _).far (p := ⟨wr.heap.size, 1, none⟩) hne2 _).far (p := ⟨wr.heap.size, 2, none⟩) hne2 _).far (p := ⟨wr.heap.size, 3, none⟩) hne2 _).far (p := ⟨wr.heap.size, 4, none⟩) hne2 _, fun e he => by cases he⟩
        have hgu := HGK.out
        refine ⟨1, ⟨o3, nm3, n3, A3, ll3, cap3, p3⟩, _, _, by simp, ?_, hb5.box5 hE5.bx (by omega) _ _ _ _ _, hE5.put (v' := ⟨o3, nm3, n3, A3, ll3, cap3, p3⟩) (by omega) hx5, .inr ⟨F us, rfl, HTOT.out.symm, rfl, fun h => absurd h (by omega)⟩⟩
        cases hfu : F us with
        | er c q => simp only [plen]; omega
        | ok e' r' => have := (HSH.out us e' r' hfu).1; simp only [plen]; omega)
      have HLT := Lib.hid (show plen (F us) < gk by
        have := HGK.out
        cases hfu : F us with
        | er c q => simp only [plen]; omega
        | ok e' r' => have := (HSH.out us e' r' hfu).1; simp only [plen]; omega)
      go_wp2
      go_roundg (plen (F us))
      case measure => exact HLT.out
      case rel => exact HRL.out
    · cases pr with
      | er c q =>
        obtain ⟨rfl, rfl⟩ := Prod.mk.inj hpr
        have HT := Lib.hid (show tot = (none, .bad c q) from htot.symm)
        have hc0 : c ≠ 0 := hM.d.1
        have g1 : ((c : Int) == 0) = false := by rw [beq_eq_false_iff_ne]; omega
        obtain ⟨x2, x3, _⟩ := hM.cells
        replace x3 : wr.cell? ⟨pb, 3, none⟩ = some (.int .i64 (c : Int)) := x3
        have hl1 := hM.d.lt
        have M1 := Lib.hid hM
        obtain ⟨b0, b1, b2, b3, b4⟩ := M1.out.z.cells
        have z0 := M1.out.z.frozen 0
        have z1 := M1.out.z.frozen 1
        have z2 := M1.out.z.frozen 2
        have z3 := M1.out.z.frozen 3
        have z4 := M1.out.z.frozen 4
        have hbl := M1.out.z.lt
        obtain ⟨e0, e1, e2, e3, e4⟩ := hE.bx.cells
        clear hM hE hpr htot hn0 hc0
        go_wp2
        obtain ⟨d0, d1, d2, d3, d4⟩ := (M1.out.zcells (.string v.o) (.string v.nm) (.int .i64 v.n) (.slice v.A v.ll v.cap) (.int .i64 v.p)).cells
        rw [HT.out]
        refine bodyPost_ret (v := .agg #[.string v.o, .string v.nm, .int .i64 v.n, .slice v.A v.ll v.cap, .int .i64 v.p]) (by simp [results, Tryz.results172, go_sem, d0, d1, d2, d3, d4]) rfl ?_
        exact M1.out.done (res := (none, .bad c q)) rfl (fun x hx => by cases hx)
      | ok e r =>
        obtain ⟨rfl, rfl⟩ := Prod.mk.inj hpr
        have hn1 : 0 < n := by
          rcases Nat.eq_zero_or_pos n with h | h
          · obtain ⟨c, q, h⟩ := hn0 h; cases h
          · exact h
        have HT := Lib.hid htot
        have HGK := Lib.hid (show gk = r.length from hgk)
        have g1 : decide ((0 : Int) < (n : Int)) = true := by simp; omega
        have g2 : decide (0 < n) = true := by simpa using hn1
        have g3 : ((n : Int) == 0) = false := by rw [beq_eq_false_iff_ne]; omega
        have hn2 : n ≤ 70000 := by omega
        obtain ⟨x2, x3, _⟩ := hM.cells
        replace x3 : wr.cell? ⟨pb, 3, none⟩ = some (.int .i64 ((0 : Nat) : Int)) := x3
        have hl1 := hM.d.lt
        have M1 := Lib.hid hM
        have E1 := Lib.hid hE
        clear hM hE hpr htot hn0 hgk
        go_wp2_with fail
        refine (rnow_any M1.out.d).mono ?_
        rintro e2 w2 ⟨rfl, hb2⟩
        have M2 := Lib.hid (M1.out.below hb2)
        have E2 := Lib.hid (E1.out.below hb2)
        clear hb2 M1 E1 x2 x3
        have hl2 := M2.out.d.lt
        go_wp2_with fail
        refine (rnow_any M2.out.d).mono ?_
        rintro e3 w3 ⟨rfl, hb3⟩
        have M3 := Lib.hid (M2.out.below hb3)
        have E3 := Lib.hid (E2.out.below hb3)
        clear hb3 M2 E2 hl2
        have hl3 := M3.out.d.lt
        obtain ⟨tb, htb⟩ : ∃ tb : ByteArray, tb = ⟨(hd r).text.toArray⟩ := ⟨_, rfl⟩
        have HTB := Lib.hid (show tb.data.toList = (hd r).text by rw [htb])
        have HTE := Lib.hid htb
        rw [← htb]
        clear htb
        by_cases h4 : (hd r).kind = 4
        · have g4 : (((hd r).kind : Int) != 4) = false := by simp [h4]
          have HSG := Lib.hid (sg_in (t := hd r) (k := 6) (by decide) h4)
          have H5 := Lib.hid (sgin_2 tb w3)
          rw [HTB.out, ← HSG.out] at H5
          have HK := Lib.hid (show (hd r).kind ≠ 0 by omega)
          clear h4
          cases hs : sg 6 (hd r) with
          | false =>
            rw [hs] at H5
            have HTT := Lib.hid (show tot = (some e, .good r) by rw [← HT.out, chainG, chain_stop hs]; rfl)
            obtain ⟨e0, e1, e2, e3, e4⟩ := E3.out.bx.cells
            have hel := E3.out.bx.lt
            obtain ⟨b0, b1, b2, b3, b4⟩ := M3.out.z.cells
            have z0 := M3.out.z.frozen 0
            have z1 := M3.out.z.frozen 1
            have z2 := M3.out.z.frozen 2
            have z3 := M3.out.z.frozen 3
            have z4 := M3.out.z.frozen 4
            have hbl := M3.out.z.lt
            clear hs HSG
            go_wp2_with fail
            refine (rsigns_2 w3).mono ?_
            rintro e4 w4 ⟨rfl, rfl⟩
            go_wp2_with fail
            refine (H5.out).mono ?_
            rintro e5 w5 ⟨rfl, rfl⟩
            go_wp2
            obtain ⟨d0, d1, d2, d3, d4⟩ := (M3.out.ucells (x0 := .string v.o) (x1 := .string v.nm) (x2 := .int .i64 v.n) (x3 := .slice v.A v.ll v.cap) (x4 := .int .i64 v.p) ((Below.refl _ _).alloc (by simp) (.cells #[.string ⟨#[43]⟩, .string ⟨#[45]⟩] 9))).cells
            rw [HTT.out]
            refine bodyPost_ret (v := .agg #[.string v.o, .string v.nm, .int .i64 v.n, .slice v.A v.ll v.cap, .int .i64 v.p]) (by simp [results, Tryz.results172, go_sem, d0, d1, d2, d3, d4]) rfl ?_
            refine M3.out.fin (res := (some e, .good r)) rfl ((Below.refl _ _).alloc (by simp) _) (fun x hx => ?_)
            injection hx with hx
            subst hx
            exact (((E3.out.far5 (bz := w.heap.size) (by omega) (by omega) (.string v.o) (.string v.nm) (.int .i64 v.n) (.slice v.A v.ll v.cap) (.int .i64 v.p)).alloc _).hs e rfl).mono (by omega) (Nat.le_refl _)
          | true =>
            rw [hs] at H5
            have HSG2 := Lib.hid hs
            have HLT1 := Lib.hid (show plen (joinX (hd r).text e (F r.tail)) < r.length by
              have hr := Fine.ne (DR.fine M3.out.d)
              have hp := List.length_pos_iff.2 hr
              cases hft : F r.tail with
              | er c q => exact hp
              | ok y' r2 => exact (chain_go (k := 6) (e := e) HSH.out hs hft).2)
            clear hs HSG
            go_wp2_with fail
            refine (rsigns_2 w3).mono ?_
            rintro e4 w4 ⟨rfl, rfl⟩
            go_wp2_with fail
            refine (H5.out).mono ?_
            rintro e5 w5 ⟨rfl, rfl⟩
            have M4 := Lib.hid (M3.out.alloc (.cells #[.string ⟨#[43]⟩, .string ⟨#[45]⟩] 9))
            have E4 := Lib.hid (E3.out.alloc (.cells #[.string ⟨#[43]⟩, .string ⟨#[45]⟩] 9))
            generalize w3.alloc (.cells #[.string ⟨#[43]⟩, .string ⟨#[45]⟩] 9) = W5 at M4 E4 ⊢
            clear M3 E3 H5 hl3 hel0
            have hel := E4.out.bx.lt
            obtain ⟨k, hk1, hk2, hT⟩ := M4.out.tail HK.out
            have fk := M4.out.cells.2.2 1
            have hlk := M4.out.d.lt
            have hpe : w.heap.size + 1 ≠ pb := by omega
            have M5 := Lib.hid (hT.alloc (.cells #[.string ⟨#[]⟩, .string ⟨#[]⟩, .int .i64 0, .slice none 0 0, .int .i64 0] 70))
            have hE5 := (E4.out.setCell (p := ⟨pb, 1, none⟩) hpe (by show pb < _; omega) (.int .i64 ((k : Int) + 1)))
            have HA5 := Lib.hid (show HS ((W5.setCell ⟨pb, 1, none⟩ (.int .i64 ((k : Int) + 1))).alloc (.cells #[.string ⟨#[]⟩, .string ⟨#[]⟩, .int .i64 0, .slice none 0 0, .int .i64 0] 70)) 70 (Rg (w.heap.size + 2) W5.heap.size) e (exC v.o v.nm v.n v.A v.ll v.cap v.p) from ((hE5.hs e rfl).alloc _).wide (fun j _ hj => by simpa using hj))
            have E5 := Lib.hid (hE5.alloc (.cells #[.string ⟨#[]⟩, .string ⟨#[]⟩, .int .i64 0, .slice none 0 0, .int .i64 0] 70)).bx
            have B5 := Lib.hid (show BoxR ((W5.setCell ⟨pb, 1, none⟩ (.int .i64 ((k : Int) + 1))).alloc (.cells #[.string ⟨#[]⟩, .string ⟨#[]⟩, .int .i64 0, .slice none 0 0, .int .i64 0] 70)) W5.heap.size (.string ⟨#[]⟩) (.string ⟨#[]⟩) (.int .i64 0) (.slice none 0 0) (.int .i64 0) from heapN (by simp) _)
            have HEP := Lib.hid (ex_pos E4.out)
            clear hT hE5 M4 E4
            go_wp2_with fail
            refine calls_gen (P := fun W => DV w W pb D (.good r.tail) ∧ BoxR W (w.heap.size + 1) (.string v.o) (.string v.nm) (.int .i64 v.n) (.slice v.A v.ll v.cap) (.int .i64 v.p) ∧ BoxR W W5.heap.size (.string ⟨#[]⟩) (.string ⟨#[]⟩) (.int .i64 0) (.slice none 0 0) (.int .i64 0) ∧ HS W 70 (Rg (w.heap.size + 2) W5.heap.size) e (exC v.o v.nm v.n v.A v.ll v.cap v.p)) ⟨M5.out, E5.out, B5.out, HA5.out⟩ ?_
            rintro W ⟨hM, hE, hB, hA⟩
            refine (HF.out W pb (.good r.tail) 3 z rfl HZ.out hM.d).mono ?_
            rintro e6 w6 ⟨o3, nm3, n3, A3, ll3, cap3, p3, rfl, hFr, hD, hx⟩
            have hs6 := hFr.size
            have hbw := hB.lt
            have hpb : W5.heap.size ≠ pb := by omega
            have M6 := Lib.hid (hM.step hFr hD)
            have E6 := Lib.hid (hE.fr hFr hpe)
            have B6 := Lib.hid (hB.fr hFr hpb)
            have HA6 := Lib.hid (hA.frS hFr (by unfold Rg; omega))
            have HX := Lib.hid hx
            have hne1 : W5.heap.size ≠ w.heap.size + 1 := by omega
            have hne2 : w.heap.size + 1 ≠ W5.heap.size := by omega
            clear hM hE hB hA hFr hD hx M5 E5 B5 HA5 hk1 fk hlk
            obtain ⟨e0, e1, e2, e3, e4⟩ := E6.out.cells
            have y0 := E6.out.frozen 0
            have y1 := E6.out.frozen 1
            have y2 := E6.out.frozen 2
            have y3 := E6.out.frozen 3
            have y4 := E6.out.frozen 4
            have hel6 := E6.out.lt
            obtain ⟨q0, q1, q2, q3, q4⟩ := B6.out.cells
            have t0 := B6.out.frozen 0
            have t1 := B6.out.frozen 1
            have t2 := B6.out.frozen 2
            have t3 := B6.out.frozen 3
            have t4 := B6.out.frozen 4
            have hql := B6.out.lt
            have HRL : Hid (ChD w pb D 6 F tot (plen (joinX (hd r).text e (F r.tail))) (.int .i64 ((n : Int) + 1)) (((((((((((w6.setCell ⟨W5.heap.size, 0, none⟩ (.string o3)).setCell ⟨W5.heap.size, 1, none⟩ (.string nm3)).setCell ⟨W5.heap.size, 2, none⟩ (.int .i64 n3)).setCell ⟨W5.heap.size, 3, none⟩ (.slice A3 ll3 cap3)).setCell ⟨W5.heap.size, 4, none⟩ (.int .i64 p3)).setCell ⟨w.heap.size + 1, 0, none⟩ (.string tb)).setCell ⟨w.heap.size + 1, 1, none⟩ (.string ⟨#[]⟩)).setCell ⟨w.heap.size + 1, 2, none⟩ (.int .i64 0)).setCell ⟨w.heap.size + 1, 3, none⟩ (.slice (some ⟨w6.heap.size, 0, none⟩) 2 2)).setCell ⟨w.heap.size + 1, 4, none⟩ (.int .i64 v.p)).alloc (.cells #[.string v.o, .string v.nm, .int .i64 v.n, .slice v.A v.ll v.cap, .int .i64 v.p, .string o3, .string nm3, .int .i64 n3, .slice A3 ll3 cap3, .int .i64 p3] 70))) := Lib.hid (by
              have hb6 := M6.out.box5 B6.out (by omega) (.string o3) (.string nm3) (.int .i64 n3) (.slice A3 ll3 cap3) (.int .i64 p3)
              have he6 : BoxR (((((w6.setCell ⟨W5.heap.size, 0, none⟩ (.string o3)).setCell ⟨W5.heap.size, 1, none⟩ (.string nm3)).setCell ⟨W5.heap.size, 2, none⟩ (.int .i64 n3)).setCell ⟨W5.heap.size, 3, none⟩ (.slice A3 ll3 cap3)).setCell ⟨W5.heap.size, 4, none⟩ (.int .i64 p3)) (w.heap.size + 1) (.string v.o) (.string v.nm) (.int .i64 v.n) (.slice v.A v.ll v.cap) (.int .i64 v.p) := ((((E6.out.far (p := ⟨W5.heap.size, 0, none⟩) hne2 _).far (p := ⟨W5.heap.size, 1, none⟩) hne2 _).far (p := ⟨W5.heap.size, 2, none⟩) hne2 _).far (p := ⟨W5.heap.size, 3, none⟩) hne2 _).far (p := ⟨W5.heap.size, 4, none⟩) hne2 _
              have hm6 := (hb6.box5 he6 (by omega) (.string tb) (.string ⟨#[]⟩) (.int .i64 0) (.slice (some ⟨w6.heap.size, 0, none⟩) 2 2) (.int .i64 v.p)).alloc (.cells #[.string v.o, .string v.nm, .int .i64 v.n, .slice v.A v.ll v.cap, .int .i64 v.p, .string o3, .string nm3, .int .i64 n3, .slice A3 ll3 cap3, .int .i64 p3] 70)
              have hg6 : BoxR (((((((((((w6.setCell ⟨W5.heap.size, 0, none⟩ (.string o3)).setCell ⟨W5.heap.size, 1, none⟩ (.string nm3)).setCell ⟨W5.heap.size, 2, none⟩ (.int .i64 n3)).setCell ⟨W5.heap.size, 3, none⟩ (.slice A3 ll3 cap3)).setCell ⟨W5.heap.size, 4, none⟩ (.int .i64 p3)).setCell ⟨w.heap.size + 1, 0, none⟩ (.string tb)).setCell ⟨w.heap.size + 1, 1, none⟩ (.string ⟨#[]⟩)).setCell ⟨w.heap.size + 1, 2, none⟩ (.int .i64 0)).setCell ⟨w.heap.size + 1, 3, none⟩ (.slice (some ⟨w6.heap.size, 0, none⟩) 2 2)).setCell ⟨w.heap.size + 1, 4, none⟩ (.int .i64 v.p)).alloc (.cells #[.string v.o, .string v.nm, .int .i64 v.n, .slice v.A v.ll v.cap, .int .i64 v.p, .string o3, .string nm3, .int .i64 n3, .slice A3 ll3 cap3, .int .i64 p3] 70)) (w.heap.size + 1) (.string tb) (.string ⟨#[]⟩) (.int .i64 0) (.slice (some ⟨w6.heap.size, 0, none⟩) 2 2) (.int .i64 v.p) := (he6.set5 _ _ _ _ _).alloc _
              have hsz : ((((((((((w6.setCell ⟨W5.heap.size, 0, none⟩ (.string o3)).setCell ⟨W5.heap.size, 1, none⟩ (.string nm3)).setCell ⟨W5.heap.size, 2, none⟩ (.int .i64 n3)).setCell ⟨W5.heap.size, 3, none⟩ (.slice A3 ll3 cap3)).setCell ⟨W5.heap.size, 4, none⟩ (.int .i64 p3)).setCell ⟨w.heap.size + 1, 0, none⟩ (.string tb)).setCell ⟨w.heap.size + 1, 1, none⟩ (.string ⟨#[]⟩)).setCell ⟨w.heap.size + 1, 2, none⟩ (.int .i64 0)).setCell ⟨w.heap.size + 1, 3, none⟩ (.slice (some ⟨w6.heap.size, 0, none⟩) 2 2)).setCell ⟨w.heap.size + 1, 4, none⟩ (.int .i64 v.p)).heap.size = w6.heap.size := by simp
              have ha6 : HS ((((((((((w6.setCell ⟨W5.heap.size, 0, none⟩ (.string o3)).setCell ⟨W5.heap.size, 1, none⟩ (.string nm3)).setCell ⟨W5.heap.size, 2, none⟩ (.int .i64 n3)).setCell ⟨W5.heap.size, 3, none⟩ (.slice A3 ll3 cap3)).setCell ⟨W5.heap.size, 4, none⟩ (.int .i64 p3)).setCell ⟨w.heap.size + 1, 0, none⟩ (.string tb)).setCell ⟨w.heap.size + 1, 1, none⟩ (.string ⟨#[]⟩)).setCell ⟨w.heap.size + 1, 2, none⟩ (.int .i64 0)).setCell ⟨w.heap.size + 1, 3, none⟩ (.slice (some ⟨w6.heap.size, 0, none⟩) 2 2)).setCell ⟨w.heap.size + 1, 4, none⟩ (.int .i64 v.p)) 70 (Rg (w.heap.size + 2) ((((((((((w6.setCell ⟨W5.heap.size, 0, none⟩ (.string o3)).setCell ⟨W5.heap.size, 1, none⟩ (.string nm3)).setCell ⟨W5.heap.size, 2, none⟩ (.int .i64 n3)).setCell ⟨W5.heap.size, 3, none⟩ (.slice A3 ll3 cap3)).setCell ⟨W5.heap.size, 4, none⟩ (.int .i64 p3)).setCell ⟨w.heap.size + 1, 0, none⟩ (.string tb)).setCell ⟨w.heap.size + 1, 1, none⟩ (.string ⟨#[]⟩)).setCell ⟨w.heap.size + 1, 2, none⟩ (.int .i64 0)).setCell ⟨w.heap.size + 1, 3, none⟩ (.slice (some ⟨w6.heap.size, 0, none⟩) 2 2)).setCell ⟨w.heap.size + 1, 4, none⟩ (.int .i64 v.p)).heap.size) e (exC v.o v.nm v.n v.A v.ll v.cap v.p) :=
                ((HA6.out.far5S (b := W5.heap.size) (by unfold Rg; omega) _ _ _ _ _).far5S (b := w.heap.size + 1) (by unfold Rg; omega) _ _ _ _ _).wide (fun j _ hj => by rw [hsz]; unfold Rg at *; omega)
              have hgn := HGK.out
              refine ⟨n + 1, ⟨tb, ⟨#[]⟩, 0, some ⟨w6.heap.size, 0, none⟩, 2, 2, v.p⟩, _, _, by go_num, ?_, hm6, ⟨hg6, fun x hx => ?_⟩, .inr ⟨joinX (hd r).text e (F r.tail), lift_join.symm, ?_, rfl, fun h => absurd h (by omega)⟩⟩
              · have := HLT1.out; omega
              · obtain ⟨b, hb, rfl⟩ := Option.map_eq_some_iff.1 hx
                have hb7 : HS ((((((((((w6.setCell ⟨W5.heap.size, 0, none⟩ (.string o3)).setCell ⟨W5.heap.size, 1, none⟩ (.string nm3)).setCell ⟨W5.heap.size, 2, none⟩ (.int .i64 n3)).setCell ⟨W5.heap.size, 3, none⟩ (.slice A3 ll3 cap3)).setCell ⟨W5.heap.size, 4, none⟩ (.int .i64 p3)).setCell ⟨w.heap.size + 1, 0, none⟩ (.string tb)).setCell ⟨w.heap.size + 1, 1, none⟩ (.string ⟨#[]⟩)).setCell ⟨w.heap.size + 1, 2, none⟩ (.int .i64 0)).setCell ⟨w.heap.size + 1, 3, none⟩ (.slice (some ⟨w6.heap.size, 0, none⟩) 2 2)).setCell ⟨w.heap.size + 1, 4, none⟩ (.int .i64 v.p)) 70 (Rg (w.heap.size + 2) ((((((((((w6.setCell ⟨W5.heap.size, 0, none⟩ (.string o3)).setCell ⟨W5.heap.size, 1, none⟩ (.string nm3)).setCell ⟨W5.heap.size, 2, none⟩ (.int .i64 n3)).setCell ⟨W5.heap.size, 3, none⟩ (.slice A3 ll3 cap3)).setCell ⟨W5.heap.size, 4, none⟩ (.int .i64 p3)).setCell ⟨w.heap.size + 1, 0, none⟩ (.string tb)).setCell ⟨w.heap.size + 1, 1, none⟩ (.string ⟨#[]⟩)).setCell ⟨w.heap.size + 1, 2, none⟩ (.int .i64 0)).setCell ⟨w.heap.size + 1, 3, none⟩ (.slice (some ⟨w6.heap.size, 0, none⟩) 2 2)).setCell ⟨w.heap.size + 1, 4, none⟩ (.int .i64 v.p)).heap.size) b (exC o3 nm3 n3 A3 ll3 cap3 p3) :=
                  (((HX.out b hb).far5S (b := W5.heap.size) (by unfold Rg; omega) _ _ _ _ _).far5S (b := w.heap.size + 1) (by unfold Rg; omega) _ _ _ _ _).wide (fun j _ hj => by rw [hsz]; unfold Rg at *; omega)
                have := ex_binH (W := ((((((((((w6.setCell ⟨W5.heap.size, 0, none⟩ (.string o3)).setCell ⟨W5.heap.size, 1, none⟩ (.string nm3)).setCell ⟨W5.heap.size, 2, none⟩ (.int .i64 n3)).setCell ⟨W5.heap.size, 3, none⟩ (.slice A3 ll3 cap3)).setCell ⟨W5.heap.size, 4, none⟩ (.int .i64 p3)).setCell ⟨w.heap.size + 1, 0, none⟩ (.string tb)).setCell ⟨w.heap.size + 1, 1, none⟩ (.string ⟨#[]⟩)).setCell ⟨w.heap.size + 1, 2, none⟩ (.int .i64 0)).setCell ⟨w.heap.size + 1, 3, none⟩ (.slice (some ⟨w6.heap.size, 0, none⟩) 2 2)).setCell ⟨w.heap.size + 1, 4, none⟩ (.int .i64 v.p))) (va := v) (vb := ⟨o3, nm3, n3, A3, ll3, cap3, p3⟩) (g := w6.heap.size) ha6 hb7 hsz.symm (by omega) (hd r).text HEP.out
                rw [← HTE.out] at this
                exact this
              · rw [← HT.out]
                show _ = exprP (chainF 6 F r.length e r)
                cases hft : F r.tail with
                | er c q => rw [chain_er HSG2.out hft]; rfl
                | ok y' r2 => rw [(chain_go (k := 6) (e := e) HSH.out HSG2.out hft).1]; rfl)
            go_wp2
            go_roundg (plen (joinX (hd r).text e (F r.tail)))
            case measure => rw [HGK.out]; exact HLT1.out
            case rel => exact HRL.out
        · have g4 : (((hd r).kind : Int) != 4) = true := by rw [bne_iff_ne]; omega
          have HTT := Lib.hid (show tot = (some e, .good r) by rw [← HT.out, chainG, chain_stop (sg_no h4)]; rfl)
          obtain ⟨e0, e1, e2, e3, e4⟩ := E3.out.bx.cells
          have hel := E3.out.bx.lt
          obtain ⟨b0, b1, b2, b3, b4⟩ := M3.out.z.cells
          have z0 := M3.out.z.frozen 0
          have z1 := M3.out.z.frozen 1
          have z2 := M3.out.z.frozen 2
          have z3 := M3.out.z.frozen 3
          have z4 := M3.out.z.frozen 4
          have hbl := M3.out.z.lt
          clear h4
          go_wp2
          obtain ⟨d0, d1, d2, d3, d4⟩ := (M3.out.zcells (.string v.o) (.string v.nm) (.int .i64 v.n) (.slice v.A v.ll v.cap) (.int .i64 v.p)).cells
          rw [HTT.out]
          refine bodyPost_ret (v := .agg #[.string v.o, .string v.nm, .int .i64 v.n, .slice v.A v.ll v.cap, .int .i64 v.p]) (by simp [results, Tryz.results172, go_sem, d0, d1, d2, d3, d4]) rfl ?_
          refine M3.out.done (res := (some e, .good r)) rfl (fun x hx => ?_)
          injection hx with hx
          subst hx
          exact (E3.out.hs e rfl).mono (by omega) (Nat.le_refl _)
set_option maxHeartbeats 8000000 in
set_option maxRecDepth 100000 in
theorem rchain_3 {D lev : Nat} {F : List Tok → PR} (hF : RCD 208 F D lev) (hS : Shr F) : RCK 3 (chainX 7 F) D lev := by
  intro w pb st y z hy hz h
  subst hy
  have hm := DV.start h
  have hl := h.lt
  have hE0 : EX ((w.alloc (.cells #[.string ⟨#[]⟩, .string ⟨#[]⟩, .int .i64 0, .slice none 0 0, .int .i64 0] 70)).alloc (.cells #[.string ⟨#[]⟩, .string ⟨#[]⟩, .int .i64 0, .slice none 0 0, .int .i64 0] 70)) (w.heap.size + 2) (w.heap.size + 1) ⟨⟨#[]⟩, ⟨#[]⟩, 0, none, 0, 0, 0⟩ none := ⟨heapN (by simp) _, fun e he => by cases he⟩
  obtain ⟨tot, htot⟩ : ∃ tot, tot = lift (chainX 7 F) st := ⟨_, rfl⟩
  rw [← htot]
  have hst : ∃ gk, gk ≤ 65540 ∧ ChD w pb D 7 F tot gk (.int .i64 0) ((w.alloc (.cells #[.string ⟨#[]⟩, .string ⟨#[]⟩, .int .i64 0, .slice none 0 0, .int .i64 0] 70)).alloc (.cells #[.string ⟨#[]⟩, .string ⟨#[]⟩, .int .i64 0, .slice none 0 0, .int .i64 0] 70)) := by
    cases st with
    | good us =>
      have hlu : us.length ≤ 65537 := by
        obtain ⟨ts, k, g, cap, q1, q2, q3, _⟩ := DR.blk h
        rw [q1, List.length_drop]; omega
      exact ⟨us.length + 1, by omega, 0, _, _, _, rfl, by omega, hm.alloc _, hE0, .inl ⟨rfl, us, rfl, htot, rfl⟩⟩
    | bad c q => exact ⟨0, by omega, 0, _, none, _, rfl, by omega, hm.alloc _, hE0, .inr ⟨.er c q, rfl, htot.symm, rfl, fun _ => ⟨c, q, rfl⟩⟩⟩
  obtain ⟨gk0, hgk0, hst⟩ := hst
  have HST := Lib.hid hst
  have HF := Lib.hid hF
  have HZ := Lib.hid hz
  have HSH := Lib.hid hS
  have HL := Lib.hid hl
  have hf1 := fieldr1
  have hf0 := fieldr0
  clear h hm hE0 htot hst hF hz hS hl hgk0
  go_enter Tryz.func172, Tryz.ntmps172
  go_wp2
  go_loopg [8] gk0 (fun gk i wr => ChD w pb D 7 F tot gk i wr)
  case atStart => exact HST.out
  case round =>
    clear HST
    obtain ⟨n, v, x, st1, rfl, hn, hM, hE, hcase⟩ := hrel
    have hpl := hM.l
    have hel0 := hE.bx.lt
    rcases hcase with ⟨rfl, us, rfl, htot, hgk⟩ | ⟨pr, hpr, htot, hgk, hn0⟩
    · have HTOT := Lib.hid htot
      have HGK := Lib.hid hgk
      obtain ⟨x2, x3, _⟩ := hM.cells
      replace x3 : wr.cell? ⟨pb, 3, none⟩ = some (.int .i64 ((0 : Nat) : Int)) := x3
      have hl1 := hM.d.lt
      have M1 := Lib.hid (hM.alloc (.cells #[.string ⟨#[]⟩, .string ⟨#[]⟩, .int .i64 0, .slice none 0 0, .int .i64 0] 70))
      have E1 := Lib.hid (hE.alloc (.cells #[.string ⟨#[]⟩, .string ⟨#[]⟩, .int .i64 0, .slice none 0 0, .int .i64 0] 70))
      have B1 := Lib.hid (BoxR.new wr (.string ⟨#[]⟩) (.string ⟨#[]⟩) (.int .i64 0) (.slice none 0 0) (.int .i64 0))
      clear hM hE htot hgk
      go_wp2_with fail
      refine calls_gen (P := fun W => DV w W pb D (.good us) ∧ EX W (w.heap.size + 2) (w.heap.size + 1) v x ∧ BoxR W wr.heap.size (.string ⟨#[]⟩) (.string ⟨#[]⟩) (.int .i64 0) (.slice none 0 0) (.int .i64 0)) ⟨M1.out, E1.out, B1.out⟩ ?_
      rintro W ⟨hM, hE, hB⟩
      refine (HF.out W pb (.good us) z HZ.out hM.d).mono ?_
      rintro e w3 ⟨o3, nm3, n3, A3, ll3, cap3, p3, rfl, hFr, hD, hx⟩
      have hs3 := hFr.size
      have hbw := hB.lt
      have hpe : w.heap.size + 1 ≠ pb := by omega
      have hpb : wr.heap.size ≠ pb := by omega
      have M2 := Lib.hid (hM.step hFr hD)
      have E2 := Lib.hid (hE.fr hFr hpe (by omega))
      have B2 := Lib.hid (hB.fr hFr hpb)
      have HX := Lib.hid hx
      have hne1 : wr.heap.size ≠ w.heap.size + 1 := by omega
      have hne2 : w.heap.size + 1 ≠ wr.heap.size := by omega
      have hltb : wr.heap.size < W.heap.size := hbw
      clear hM hE hB hFr hD hx M1 E1 B1 x2 x3
      obtain ⟨e0, e1, e2, e3, e4⟩ := E2.out.bx.cells
      have y0 := E2.out.bx.frozen 0
      have y1 := E2.out.bx.frozen 1
      have y2 := E2.out.bx.frozen 2
      have y3 := E2.out.bx.frozen 3
      have y4 := E2.out.bx.frozen 4
      have hel := E2.out.bx.lt
      obtain ⟨q0, q1, q2, q3, q4⟩ := B2.out.cells
      have t0 := B2.out.frozen 0
      have t1 := B2.out.frozen 1
      have t2 := B2.out.frozen 2
      have t3 := B2.out.frozen 3
      have t4 := B2.out.frozen 4
      have hql := B2.out.lt
      have HRL : Hid (ChD w pb D 7 F tot (plen (F us)) (.int .i64 ((0 : Int) + 1)) ((((((((((w3.setCell ⟨wr.heap.size, 0, none⟩ (.string o3)).setCell ⟨wr.heap.size, 1, none⟩ (.string nm3)).setCell ⟨wr.heap.size, 2, none⟩ (.int .i64 n3)).setCell ⟨wr.heap.size, 3, none⟩ (.slice A3 ll3 cap3)).setCell ⟨wr.heap.size, 4, none⟩ (.int .i64 p3)).setCell ⟨w.heap.size + 1, 0, none⟩ (.string o3)).setCell ⟨w.heap.size + 1, 1, none⟩ (.string nm3)).setCell ⟨w.heap.size + 1, 2, none⟩ (.int .i64 n3)).setCell ⟨w.heap.size + 1, 3, none⟩ (.slice A3 ll3 cap3)).setCell ⟨w.heap.size + 1, 4, none⟩ (.int .i64 p3))) := Lib.hid (by
        have hb5 := M2.out.box5 B2.out (by omega) (.string o3) (.string nm3) (.int .i64 n3) (.slice A3 ll3 cap3) (.int .i64 p3)
        have he5 := E2.out.bx
        have hx5 : ∀ e, (lift F (.good us)).1 = some e → HS (((((w3.setCell ⟨wr.heap.size, 0, none⟩ (.string o3)).setCell ⟨wr.heap.size, 1, none⟩ (.string nm3)).setCell ⟨wr.heap.size, 2, none⟩ (.int .i64 n3)).setCell ⟨wr.heap.size, 3, none⟩ (.slice A3 ll3 cap3)).setCell ⟨wr.heap.size, 4, none⟩ (.int .i64 p3)) 70 (Rg (w.heap.size + 2) (((((w3.setCell ⟨wr.heap.size, 0, none⟩ (.string o3)).setCell ⟨wr.heap.size, 1, none⟩ (.string nm3)).setCell ⟨wr.heap.size, 2, none⟩ (.int .i64 n3)).setCell ⟨wr.heap.size, 3, none⟩ (.slice A3 ll3 cap3)).setCell ⟨wr.heap.size, 4, none⟩ (.int .i64 p3)).heap.size) e (exC o3 nm3 n3 A3 ll3 cap3 p3) := fun e he =>
          ((HX.out e he).far5S (b := wr.heap.size) (by unfold Rg; omega) _ _ _ _ _).wide (fun j _ hj => by unfold Rg at *; simp; omega)
        have hE5 : EX (((((w3.setCell ⟨wr.heap.size, 0, none⟩ (.string o3)).setCell ⟨wr.heap.size, 1, none⟩ (.string nm3)).setCell ⟨wr.heap.size, 2, none⟩ (.int .i64 n3)).setCell ⟨wr.heap.size, 3, none⟩ (.slice A3 ll3 cap3)).setCell ⟨wr.heap.size, 4, none⟩ (.int .i64 p3)) (w.heap.size + 2) (w.heap.size + 1) v none := ⟨((((he5.far (p := ⟨wr.heap.size, 0, none⟩) hne2 _).far (p := ⟨wr.heap.size, 1, none⟩) hne2 _).far (p := ⟨wr.heap.size, 2, none⟩) hne2 _).far (p := ⟨wr.heap.size, 3, none⟩) hne2 _).far (p := ⟨wr.heap.size, 4, none⟩) hne2 _, fun e he => by cases he⟩
        have hgu := HGK.out
        refine ⟨1, ⟨o3, nm3, n3, A3, ll3, cap3, p3⟩, _, _, by simp, ?_, hb5.box5 hE5.bx (by omega) _ _ _ _ _, hE5.put (v' := ⟨o3, nm3, n3, A3, ll3, cap3, p3⟩) (by omega) hx5, .inr ⟨F us, rfl, HTOT.out.symm, rfl, fun h => absurd h (by omega)⟩⟩
        cases hfu : F us with
        | er c q => simp only [plen]; omega
        | ok e' r' => have := (HSH.out us e' r' hfu).1; simp only [plen]; omega)
      have HLT := Lib.hid (show plen (F us) < gk by
        have := HGK.out
        cases hfu : F us with
        | er c q => simp only [plen]; omega
        | ok e' r' => have := (HSH.out us e' r' hfu).1; simp only [plen]; omega)
      go_wp2
      go_roundg (plen (F us))
      case measure => exact HLT.out
      case rel => exact HRL.out
    · cases pr with
      | er c q =>
        obtain ⟨rfl, rfl⟩ := Prod.mk.inj hpr
        have HT := Lib.hid (show tot = (none, .bad c q) from htot.symm)
        have hc0 : c ≠ 0 := hM.d.1
        have g1 : ((c : Int) == 0) = false := by rw [beq_eq_false_iff_ne]; omega
        obtain ⟨x2, x3, _⟩ := hM.cells
        replace x3 : wr.cell? ⟨pb, 3, none⟩ = some (.int .i64 (c : Int)) := x3
        have hl1 := hM.d.lt
        have M1 := Lib.hid hM
        obtain ⟨b0, b1, b2, b3, b4⟩ := M1.out.z.cells
        have z0 := M1.out.z.frozen 0
        have z1 := M1.out.z.frozen 1
        have z2 := M1.out.z.frozen 2
        have z3 := M1.out.z.frozen 3
        have z4 := M1.out.z.frozen 4
        have hbl := M1.out.z.lt
        obtain ⟨e0, e1, e2, e3, e4⟩ := hE.bx.cells
        clear hM hE hpr htot hn0 hc0
        go_wp2
        obtain ⟨d0, d1, d2, d3, d4⟩ := (M1.out.zcells (.string v.o) (.string v.nm) (.int .i64 v.n) (.slice v.A v.ll v.cap) (.int .i64 v.p)).cells
        rw [HT.out]
        refine bodyPost_ret (v := .agg #[.string v.o, .string v.nm, .int .i64 v.n, .slice v.A v.ll v.cap, .int .i64 v.p]) (by simp [results, Tryz.results172, go_sem, d0, d1, d2, d3, d4]) rfl ?_
        exact M1.out.done (res := (none, .bad c q)) rfl (fun x hx => by cases hx)
      | ok e r =>
        obtain ⟨rfl, rfl⟩ := Prod.mk.inj hpr
        have hn1 : 0 < n := by
          rcases Nat.eq_zero_or_pos n with h | h
          · obtain ⟨c, q, h⟩ := hn0 h; cases h
          · exact h
        have HT := Lib.hid htot
        have HGK := Lib.hid (show gk = r.length from hgk)
        have g1 : decide ((0 : Int) < (n : Int)) = true := by simp; omega
        have g2 : decide (0 < n) = true := by simpa using hn1
        have g3 : ((n : Int) == 0) = false := by rw [beq_eq_false_iff_ne]; omega
        have hn2 : n ≤ 70000 := by omega
        obtain ⟨x2, x3, _⟩ := hM.cells
        replace x3 : wr.cell? ⟨pb, 3, none⟩ = some (.int .i64 ((0 : Nat) : Int)) := x3
        have hl1 := hM.d.lt
        have M1 := Lib.hid hM
        have E1 := Lib.hid hE
        clear hM hE hpr htot hn0 hgk
        go_wp2_with fail
        refine (rnow_any M1.out.d).mono ?_
        rintro e2 w2 ⟨rfl, hb2⟩
        have M2 := Lib.hid (M1.out.below hb2)
        have E2 := Lib.hid (E1.out.below hb2)
        clear hb2 M1 E1 x2 x3
        have hl2 := M2.out.d.lt
        go_wp2_with fail
        refine (rnow_any M2.out.d).mono ?_
        rintro e3 w3 ⟨rfl, hb3⟩
        have M3 := Lib.hid (M2.out.below hb3)
        have E3 := Lib.hid (E2.out.below hb3)
        clear hb3 M2 E2 hl2
        have hl3 := M3.out.d.lt
        obtain ⟨tb, htb⟩ : ∃ tb : ByteArray, tb = ⟨(hd r).text.toArray⟩ := ⟨_, rfl⟩
        have HTB := Lib.hid (show tb.data.toList = (hd r).text by rw [htb])
        have HTE := Lib.hid htb
        rw [← htb]
        clear htb
        by_cases h4 : (hd r).kind = 4
        · have g4 : (((hd r).kind : Int) != 4) = false := by simp [h4]
          have HSG := Lib.hid (sg_in (t := hd r) (k := 7) (by decide) h4)
          have H5 := Lib.hid (sgin_3 tb w3)
          rw [HTB.out, ← HSG.out] at H5
          have HK := Lib.hid (show (hd r).kind ≠ 0 by omega)
          clear h4
          cases hs : sg 7 (hd r) with
          | false =>
            rw [hs] at H5
            have HTT := Lib.hid (show tot = (some e, .good r) by rw [← HT.out, chainG, chain_stop hs]; rfl)
            obtain ⟨e0, e1, e2, e3, e4⟩ := E3.out.bx.cells
            have hel := E3.out.bx.lt
            obtain ⟨b0, b1, b2, b3, b4⟩ := M3.out.z.cells
            have z0 := M3.out.z.frozen 0
            have z1 := M3.out.z.frozen 1
            have z2 := M3.out.z.frozen 2
            have z3 := M3.out.z.frozen 3
            have z4 := M3.out.z.frozen 4
            have hbl := M3.out.z.lt
            clear hs HSG
            go_wp2_with fail
            refine (rsigns_3 w3).mono ?_
            rintro e4 w4 ⟨rfl, rfl⟩
            go_wp2_with fail
            refine (H5.out).mono ?_
            rintro e5 w5 ⟨rfl, rfl⟩
            go_wp2
            obtain ⟨d0, d1, d2, d3, d4⟩ := (M3.out.ucells (x0 := .string v.o) (x1 := .string v.nm) (x2 := .int .i64 v.n) (x3 := .slice v.A v.ll v.cap) (x4 := .int .i64 v.p) ((Below.refl _ _).alloc (by simp) (.cells #[.string ⟨#[42]⟩] 9))).cells
            rw [HTT.out]
            refine bodyPost_ret (v := .agg #[.string v.o, .string v.nm, .int .i64 v.n, .slice v.A v.ll v.cap, .int .i64 v.p]) (by simp [results, Tryz.results172, go_sem, d0, d1, d2, d3, d4]) rfl ?_
            refine M3.out.fin (res := (some e, .good r)) rfl ((Below.refl _ _).alloc (by simp) _) (fun x hx => ?_)
            injection hx with hx
            subst hx
            exact (((E3.out.far5 (bz := w.heap.size) (by omega) (by omega) (.string v.o) (.string v.nm) (.int .i64 v.n) (.slice v.A v.ll v.cap) (.int .i64 v.p)).alloc _).hs e rfl).mono (by omega) (Nat.le_refl _)
          | true =>
            rw [hs] at H5
            have HSG2 := Lib.hid hs
            have HLT1 := Lib.hid (show plen (joinX (hd r).text e (F r.tail)) < r.length by
              have hr := Fine.ne (DR.fine M3.out.d)
              have hp := List.length_pos_iff.2 hr
              cases hft : F r.tail with
              | er c q => exact hp
              | ok y' r2 => exact (chain_go (k := 7) (e := e) HSH.out hs hft).2)
            clear hs HSG
            go_wp2_with fail
            refine (rsigns_3 w3).mono ?_
            rintro e4 w4 ⟨rfl, rfl⟩
            go_wp2_with fail
            refine (H5.out).mono ?_
            rintro e5 w5 ⟨rfl, rfl⟩
            have M4 := Lib.hid (M3.out.alloc (.cells #[.string ⟨#[42]⟩] 9))
            have E4 := Lib.hid (E3.out.alloc (.cells #[.string ⟨#[42]⟩] 9))
            generalize w3.alloc (.cells #[.string ⟨#[42]⟩] 9) = W5 at M4 E4 ⊢
            clear M3 E3 H5 hl3 hel0
            have hel := E4.out.bx.lt
            obtain ⟨k, hk1, hk2, hT⟩ := M4.out.tail HK.out
            have fk := M4.out.cells.2.2 1
            have hlk := M4.out.d.lt
            have hpe : w.heap.size + 1 ≠ pb := by omega
            have M5 := Lib.hid (hT.alloc (.cells #[.string ⟨#[]⟩, .string ⟨#[]⟩, .int .i64 0, .slice none 0 0, .int .i64 0] 70))
            have hE5 := (E4.out.setCell (p := ⟨pb, 1, none⟩) hpe (by show pb < _; omega) (.int .i64 ((k : Int) + 1)))
            have HA5 := Lib.hid (show HS ((W5.setCell ⟨pb, 1, none⟩ (.int .i64 ((k : Int) + 1))).alloc (.cells #[.string ⟨#[]⟩, .string ⟨#[]⟩, .int .i64 0, .slice none 0 0, .int .i64 0] 70)) 70 (Rg (w.heap.size + 2) W5.heap.size) e (exC v.o v.nm v.n v.A v.ll v.cap v.p) from ((hE5.hs e rfl).alloc _).wide (fun j _ hj => by simpa using hj))
            have E5 := Lib.hid (hE5.alloc (.cells #[.string ⟨#[]⟩, .string ⟨#[]⟩, .int .i64 0, .slice none 0 0, .int .i64 0] 70)).bx
            have B5 := Lib.hid (show BoxR ((W5.setCell ⟨pb, 1, none⟩ (.int .i64 ((k : Int) + 1))).alloc (.cells #[.string ⟨#[]⟩, .string ⟨#[]⟩, .int .i64 0, .slice none 0 0, .int .i64 0] 70)) W5.heap.size (.string ⟨#[]⟩) (.string ⟨#[]⟩) (.int .i64 0) (.slice none 0 0) (.int .i64 0) from heapN (by simp) _)
            have HEP := Lib.hid (ex_pos E4.out)
            clear hT hE5 M4 E4
            go_wp2_with fail
            refine calls_gen (P := fun W => DV w W pb D (.good r.tail) ∧ BoxR W (w.heap.size + 1) (.string v.o) (.string v.nm) (.int .i64 v.n) (.slice v.A v.ll v.cap) (.int .i64 v.p) ∧ BoxR W W5.heap.size (.string ⟨#[]⟩) (.string ⟨#[]⟩) (.int .i64 0) (.slice none 0 0) (.int .i64 0) ∧ HS W 70 (Rg (w.heap.size + 2) W5.heap.size) e (exC v.o v.nm v.n v.A v.ll v.cap v.p)) ⟨M5.out, E5.out, B5.out, HA5.out⟩ ?_
            rintro W ⟨hM, hE, hB, hA⟩
            refine (HF.out W pb (.good r.tail) z HZ.out hM.d).mono ?_
            rintro e6 w6 ⟨o3, nm3, n3, A3, ll3, cap3, p3, rfl, hFr, hD, hx⟩
            have hs6 := hFr.size
            have hbw := hB.lt
            have hpb : W5.heap.size ≠ pb := by omega
            have M6 := Lib.hid (hM.step hFr hD)
            have E6 := Lib.hid (hE.fr hFr hpe)
            have B6 := Lib.hid (hB.fr hFr hpb)
            have HA6 := Lib.hid (hA.frS hFr (by unfold Rg; omega))
            have HX := Lib.hid hx
            have hne1 : W5.heap.size ≠ w.heap.size + 1 := by omega
            have hne2 : w.heap.size + 1 ≠ W5.heap.size := by omega
            clear hM hE hB hA hFr hD hx M5 E5 B5 HA5 hk1 fk hlk
            obtain ⟨e0, e1, e2, e3, e4⟩ := E6.out.cells
            have y0 := E6.out.frozen 0
            have y1 := E6.out.frozen 1
            have y2 := E6.out.frozen 2
            have y3 := E6.out.frozen 3
            have y4 := E6.out.frozen 4
            have hel6 := E6.out.lt
            obtain ⟨q0, q1, q2, q3, q4⟩ := B6.out.cells
            have t0 := B6.out.frozen 0
            have t1 := B6.out.frozen 1
            have t2 := B6.out.frozen 2
            have t3 := B6.out.frozen 3
            have t4 := B6.out.frozen 4
            have hql := B6.out.lt
            have HRL : Hid (ChD w pb D 7 F tot (plen (joinX (hd r).text e (F r.tail))) (.int .i64 ((n : Int) + 1)) (((((((((((w6.setCell ⟨W5.heap.size, 0, none⟩ (.string o3)).setCell ⟨W5.heap.size, 1, none⟩ (.string nm3)).setCell ⟨W5.heap.size, 2, none⟩ (.int .i64 n3)).setCell ⟨W5.heap.size, 3, none⟩ (.slice A3 ll3 cap3)).setCell ⟨W5.heap.size, 4, none⟩ (.int .i64 p3)).setCell ⟨w.heap.size + 1, 0, none⟩ (.string tb)).setCell ⟨w.heap.size + 1, 1, none⟩ (.string ⟨#[]⟩)).setCell ⟨w.heap.size + 1, 2, none⟩ (.int .i64 0)).setCell ⟨w.heap.size + 1, 3, none⟩ (.slice (some ⟨w6.heap.size, 0, none⟩) 2 2)).setCell ⟨w.heap.size + 1, 4, none⟩ (.int .i64 v.p)).alloc (.cells #[.string v.o, .string v.nm, .int .i64 v.n, .slice v.A v.ll v.cap, .int .i64 v.p, .string o3, .string nm3, .int .i64 n3, .slice A3 ll3 cap3, .int .i64 p3] 70))) := Lib.hid (by
              have hb6 := M6.out.box5 B6.out (by omega) (.string o3) (.string nm3) (.int .i64 n3) (.slice A3 ll3 cap3) (.int .i64 p3)
              have he6 : BoxR (((((w6.setCell ⟨W5.heap.size, 0, none⟩ (.string o3)).setCell ⟨W5.heap.size, 1, none⟩ (.string nm3)).setCell ⟨W5.heap.size, 2, none⟩ (.int .i64 n3)).setCell ⟨W5.heap.size, 3, none⟩ (.slice A3 ll3 cap3)).setCell ⟨W5.heap.size, 4, none⟩ (.int .i64 p3)) (w.heap.size + 1) (.string v.o) (.string v.nm) (.int .i64 v.n) (.slice v.A v.ll v.cap) (.int .i64 v.p) := ((((E6.out.far (p := ⟨W5.heap.size, 0, none⟩) hne2 _).far (p := ⟨W5.heap.size, 1, none⟩) hne2 _).far (p := ⟨W5.heap.size, 2, none⟩) hne2 _).far (p := ⟨W5.heap.size, 3, none⟩) hne2 _).far (p := ⟨W5.heap.size, 4, none⟩) hne2 _
              have hm6 := (hb6.box5 he6 (by omega) (.string tb) (.string ⟨#[]⟩) (.int .i64 0) (.slice (some ⟨w6.heap.size, 0, none⟩) 2 2) (.int .i64 v.p)).alloc (.cells #[.string v.o, .string v.nm, .int .i64 v.n, .slice v.A v.ll v.cap, .int .i64 v.p, .string o3, .string nm3, .int .i64 n3, .slice A3 ll3 cap3, .int .i64 p3] 70)
              have hg6 : BoxR (((((((((((w6.setCell ⟨W5.heap.size, 0, none⟩ (.string o3)).setCell ⟨W5.heap.size, 1, none⟩ (.string nm3)).setCell ⟨W5.heap.size, 2, none⟩ (.int .i64 n3)).setCell ⟨W5.heap.size, 3, none⟩ (.slice A3 ll3 cap3)).setCell ⟨W5.heap.size, 4, none⟩ (.int .i64 p3)).setCell ⟨w.heap.size + 1, 0, none⟩ (.string tb)).setCell ⟨w.heap.size + 1, 1, none⟩ (.string ⟨#[]⟩)).setCell ⟨w.heap.size + 1, 2, none⟩ (.int .i64 0)).setCell ⟨w.heap.size + 1, 3, none⟩ (.slice (some ⟨w6.heap.size, 0, none⟩) 2 2)).setCell ⟨w.heap.size + 1, 4, none⟩ (.int .i64 v.p)).alloc (.cells #[.string v.o, .string v.nm, .int .i64 v.n, .slice v.A v.ll v.cap, .int .i64 v.p, .string o3, .string nm3, .int .i64 n3, .slice A3 ll3 cap3, .int .i64 p3] 70)) (w.heap.size + 1) (.string tb) (.string ⟨#[]⟩) (.int .i64 0) (.slice (some ⟨w6.heap.size, 0, none⟩) 2 2) (.int .i64 v.p) := (he6.set5 _ _ _ _ _).alloc _
              have hsz : ((((((((((w6.setCell ⟨W5.heap.size, 0, none⟩ (.string o3)).setCell ⟨W5.heap.size, 1, none⟩ (.string nm3)).setCell ⟨W5.heap.size, 2, none⟩ (.int .i64 n3)).setCell ⟨W5.heap.size, 3, none⟩ (.slice A3 ll3 cap3)).setCell ⟨W5.heap.size, 4, none⟩ (.int .i64 p3)).setCell ⟨w.heap.size + 1, 0, none⟩ (.string tb)).setCell ⟨w.heap.size + 1, 1, none⟩ (.string ⟨#[]⟩)).setCell ⟨w.heap.size + 1, 2, none⟩ (.int .i64 0)).setCell ⟨w.heap.size + 1, 3, none⟩ (.slice (some ⟨w6.heap.size, 0, none⟩) 2 2)).setCell ⟨w.heap.size + 1, 4, none⟩ (.int .i64 v.p)).heap.size = w6.heap.size := by simp
              have ha6 : HS ((((((((((w6.setCell ⟨W5.heap.size, 0, none⟩ (.string o3)).setCell ⟨W5.heap.size, 1, none⟩ (.string nm3)).setCell ⟨W5.heap.size, 2, none⟩ (.int .i64 n3)).setCell ⟨W5.heap.size, 3, none⟩ (.slice A3 ll3 cap3)).setCell ⟨W5.heap.size, 4, none⟩ (.int .i64 p3)).setCell ⟨w.heap.size + 1, 0, none⟩ (.string tb)).setCell ⟨w.heap.size + 1, 1, none⟩ (.string ⟨#[]⟩)).setCell ⟨w.heap.size + 1, 2, none⟩ (.int .i64 0)).setCell ⟨w.heap.size + 1, 3, none⟩ (.slice (some ⟨w6.heap.size, 0, none⟩) 2 2)).setCell ⟨w.heap.size + 1, 4, none⟩ (.int .i64 v.p)) 70 (Rg (w.heap.size + 2) ((((((((((w6.setCell ⟨W5.heap.size, 0, none⟩ (.string o3)).setCell ⟨W5.heap.size, 1, none⟩ (.string nm3)).setCell ⟨W5.heap.size, 2, none⟩ (.int .i64 n3)).setCell ⟨W5.heap.size, 3, none⟩ (.slice A3 ll3 cap3)).setCell ⟨W5.heap.size, 4, none⟩ (.int .i64 p3)).setCell ⟨w.heap.size + 1, 0, none⟩ (.string tb)).setCell ⟨w.heap.size + 1, 1, none⟩ (.string ⟨#[]⟩)).setCell ⟨w.heap.size + 1, 2, none⟩ (.int .i64 0)).setCell ⟨w.heap.size + 1, 3, none⟩ (.slice (some ⟨w6.heap.size, 0, none⟩) 2 2)).setCell ⟨w.heap.size + 1, 4, none⟩ (.int .i64 v.p)).heap.size) e (exC v.o v.nm v.n v.A v.ll v.cap v.p) :=
                ((HA6.out.far5S (b := W5.heap.size) (by unfold Rg; omega) _ _ _ _ _).far5S (b := w.heap.size + 1) (by unfold Rg; omega) _ _ _ _ _).wide (fun j _ hj => by rw [hsz]; unfold Rg at *; omega)
              have hgn := HGK.out
              refine ⟨n + 1, ⟨tb, ⟨#[]⟩, 0, some ⟨w6.heap.size, 0, none⟩, 2, 2, v.p⟩, _, _, by go_num, ?_, hm6, ⟨hg6, fun x hx => ?_⟩, .inr ⟨joinX (hd r).text e (F r.tail), lift_join.symm, ?_, rfl, fun h => absurd h (by omega)⟩⟩
              · have := HLT1.out; omega
              · obtain ⟨b, hb, rfl⟩ := Option.map_eq_some_iff.1 hx
                have hb7 : HS ((((((((((w6.setCell ⟨W5.heap.size, 0, none⟩ (.string o3)).setCell ⟨W5.heap.size, 1, none⟩ (.string nm3)).setCell ⟨W5.heap.size, 2, none⟩ (.int .i64 n3)).setCell ⟨W5.heap.size, 3, none⟩ (.slice A3 ll3 cap3)).setCell ⟨W5.heap.size, 4, none⟩ (.int .i64 p3)).setCell ⟨w.heap.size + 1, 0, none⟩ (.string tb)).setCell ⟨w.heap.size + 1, 1, none⟩ (.string ⟨#[]⟩)).setCell ⟨w.heap.size + 1, 2, none⟩ (.int .i64 0)).setCell ⟨w.heap.size + 1, 3, none⟩ (.slice (some ⟨w6.heap.size, 0, none⟩) 2 2)).setCell ⟨w.heap.size + 1, 4, none⟩ (.int .i64 v.p)) 70 (Rg (w.heap.size + 2) ((((((((((w6.setCell ⟨W5.heap.size, 0, none⟩ (.string o3)).setCell ⟨W5.heap.size, 1, none⟩ (.string nm3)).setCell ⟨W5.heap.size, 2, none⟩ (.int .i64 n3)).setCell ⟨W5.heap.size, 3, none⟩ (.slice A3 ll3 cap3)).setCell ⟨W5.heap.size, 4, none⟩ (.int .i64 p3)).setCell ⟨w.heap.size + 1, 0, none⟩ (.string tb)).setCell ⟨w.heap.size + 1, 1, none⟩ (.string ⟨#[]⟩)).setCell ⟨w.heap.size + 1, 2, none⟩ (.int .i64 0)).setCell ⟨w.heap.size + 1, 3, none⟩ (.slice (some ⟨w6.heap.size, 0, none⟩) 2 2)).setCell ⟨w.heap.size + 1, 4, none⟩ (.int .i64 v.p)).heap.size) b (exC o3 nm3 n3 A3 ll3 cap3 p3) :=
                  (((HX.out b hb).far5S (b := W5.heap.size) (by unfold Rg; omega) _ _ _ _ _).far5S (b := w.heap.size + 1) (by unfold Rg; omega) _ _ _ _ _).wide (fun j _ hj => by rw [hsz]; unfold Rg at *; omega)
                have := ex_binH (W := ((((((((((w6.setCell ⟨W5.heap.size, 0, none⟩ (.string o3)).setCell ⟨W5.heap.size, 1, none⟩ (.string nm3)).setCell ⟨W5.heap.size, 2, none⟩ (.int .i64 n3)).setCell ⟨W5.heap.size, 3, none⟩ (.slice A3 ll3 cap3)).setCell ⟨W5.heap.size, 4, none⟩ (.int .i64 p3)).setCell ⟨w.heap.size + 1, 0, none⟩ (.string tb)).setCell ⟨w.heap.size + 1, 1, none⟩ (.string ⟨#[]⟩)).setCell ⟨w.heap.size + 1, 2, none⟩ (.int .i64 0)).setCell ⟨w.heap.size + 1, 3, none⟩ (.slice (some ⟨w6.heap.size, 0, none⟩) 2 2)).setCell ⟨w.heap.size + 1, 4, none⟩ (.int .i64 v.p))) (va := v) (vb := ⟨o3, nm3, n3, A3, ll3, cap3, p3⟩) (g := w6.heap.size) ha6 hb7 hsz.symm (by omega) (hd r).text HEP.out
                rw [← HTE.out] at this
                exact this
              · rw [← HT.out]
                show _ = exprP (chainF 7 F r.length e r)
                cases hft : F r.tail with
                | er c q => rw [chain_er HSG2.out hft]; rfl
                | ok y' r2 => rw [(chain_go (k := 7) (e := e) HSH.out HSG2.out hft).1]; rfl)
            go_wp2
            go_roundg (plen (joinX (hd r).text e (F r.tail)))
            case measure => rw [HGK.out]; exact HLT1.out
            case rel => exact HRL.out
        · have g4 : (((hd r).kind : Int) != 4) = true := by rw [bne_iff_ne]; omega
          have HTT := Lib.hid (show tot = (some e, .good r) by rw [← HT.out, chainG, chain_stop (sg_no h4)]; rfl)
          obtain ⟨e0, e1, e2, e3, e4⟩ := E3.out.bx.cells
          have hel := E3.out.bx.lt
          obtain ⟨b0, b1, b2, b3, b4⟩ := M3.out.z.cells
          have z0 := M3.out.z.frozen 0
          have z1 := M3.out.z.frozen 1
          have z2 := M3.out.z.frozen 2
          have z3 := M3.out.z.frozen 3
          have z4 := M3.out.z.frozen 4
          have hbl := M3.out.z.lt
          clear h4
          go_wp2
          obtain ⟨d0, d1, d2, d3, d4⟩ := (M3.out.zcells (.string v.o) (.string v.nm) (.int .i64 v.n) (.slice v.A v.ll v.cap) (.int .i64 v.p)).cells
          rw [HTT.out]
          refine bodyPost_ret (v := .agg #[.string v.o, .string v.nm, .int .i64 v.n, .slice v.A v.ll v.cap, .int .i64 v.p]) (by simp [results, Tryz.results172, go_sem, d0, d1, d2, d3, d4]) rfl ?_
          refine M3.out.done (res := (some e, .good r)) rfl (fun x hx => ?_)
          injection hx with hx
          subst hx
          exact (E3.out.hs e rfl).mono (by omega) (Nat.le_refl _)
end Go.Proofs.YtddeplbgihcdkaaGreatDoor
