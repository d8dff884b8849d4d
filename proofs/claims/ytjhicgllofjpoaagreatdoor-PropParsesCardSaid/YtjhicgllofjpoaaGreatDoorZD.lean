/-
  The document's questions in memory; what its reader of questions keeps. The document's questions of a text, walked.
-/
import Derived.Test.YtjhicgllofjpoaaGreatDoorUB
import Derived.Test.YtjhicgllofjpoaaGreatDoorZ4
import Derived.Deep.CutRange
import Derived.Deep.AppendLies
import Derived.Deep.RegionLaw
namespace Go.Proofs.YtjhicgllofjpoaaGreatDoor
section
open Go.RowKit Go.Sort

/-- A question of the document's in memory, from a block on. -/
def QHR (w : World) (b : Nat) (q : Qr) (c : List Value) : Prop := ∃ v : FV, c = qc ⟨q.kind.toArray⟩ v q.pos ∧ FOT 32 w (fun k => b ≤ k) q.f v
theorem QHR.keep {w w' : World} {b : Nat} {E : TypeId → Prop} {q : Qr} {c : List Value} (h : QHR w b q c) (hk : KtQ b E w w') (he : ¬ E 32) : QHR w' b q c := by
  obtain ⟨v, h1, h2⟩ := h
  exact ⟨v, h1, h2.keepY fun k cs hS hc => hk k cs 32 hS hc he⟩
def RowR (w : World) (b : Nat) (xs : List Qr) (v : Value) : Prop := ∃ cs, w.ownsRow b 55 6 v xs.length cs ∧ LHQ (QHR w b) xs cs
section
variable {w w' : World} {b b' : Nat} {xs : List Qr} {v : Value}
theorem RowR.keep {E : TypeId → Prop} (h : RowR w b xs v) (hk : KtQ b E w w') (e1 : ¬ E 55) (e2 : ¬ E 32) : RowR w' b xs v := by
  obtain ⟨cs, h1, h2⟩ := h
  exact ⟨cs, ownQ_kt h1 hk e1, h2.imp fun _ _ h => h.keep hk e2⟩
theorem RowR.below (h : RowR w b xs v) (hb : Below w.heap.size w w') : RowR w' b xs v := h.keep (E := EQ0) (KtQ.below hb) id id
theorem RowR.nil (w : World) (b : Nat) : RowR w b [] (.slice none 0 0) := ⟨[], World.ownsRow_nil _ _ _ _, rfl⟩
theorem RowR.form (h : RowR w b xs v) : ∃ A cap, v = .slice A xs.length cap := by
  obtain ⟨cs, h1, _⟩ := h
  rcases ownQ_forms h1 with ⟨rfl, h0⟩ | ⟨g, cap, rfl⟩
  · exact ⟨none, 0, by rw [h0]⟩
  · exact ⟨_, _, rfl⟩
theorem RowR.mono (h : RowR w b xs v) (hb : b' ≤ b) : RowR w b' xs v := by
  obtain ⟨cs, ⟨h1, h2⟩, h3⟩ := h
  refine ⟨cs, ⟨h1, h2.imp id fun ⟨g, cap, cur, h1, h2, h3⟩ => ⟨g, cap, cur, h1, Nat.le_trans hb h2, h3⟩⟩, h3.imp fun a c hh => ?_⟩
  obtain ⟨v, k1, k2⟩ := hh
  exact ⟨v, k1, k2.wide (fun k _ hk => Nat.le_trans hb hk)⟩
end
/-- What holds between a question's first token and its last. -/
structure CqR (w W : World) (pb D qb : Nat) (st : St) (cs : List Value) (acc : List Qr) (v : Value) : Prop where
  m : DS W pb D st
  q : Bx W qb 55 cs
  row : RowR W w.heap.size acc v
  f : Fx (X1 pb) w W
  lt : w.heap.size ≤ qb
  pl : pb < w.heap.size
section
variable {w W W' : World} {pb D qb : Nat} {st st' : St} {cs : List Value} {acc : List Qr} {v : Value} {us : List Tok}
theorem CqR.fx (h : CqR w W pb D qb st cs acc v) (hd : DS W' pb D st') (hf : Fx (X1 pb) W W') : CqR w W' pb D qb st' cs acc v :=
  ⟨hd, h.q.fx hf (x1_no (by have := h.lt; have := h.pl; omega)), h.row.keep (E := EQ0) (KtQ.fx hf (fun k hk => by rw [show k = pb from hk]; exact h.pl)) id id, h.f.trans hf, h.lt, h.pl⟩
theorem CqR.below (h : CqR w W pb D qb st cs acc v) (hb : Below W.heap.size W W') : CqR w W' pb D qb st cs acc v := h.fx (h.m.below hb) (Fx.of hb)
theorem CqR.drew (h : CqR w W pb D qb st cs acc v) : CqR w W.drew pb D qb st cs acc v := h.below (Below.refl _ _).drew
theorem CqR.tail (h : CqR w W pb D qb (.good us) cs acc v) (h0 : (hd us).kind ≠ 0) : ∃ k : Nat, W.cell? ⟨pb, 1, none⟩ = some (.int .i64 (k : Int)) ∧ k ≤ 65537 ∧ CqR w (W.setCell ⟨pb, 1, none⟩ (.int .i64 ((k : Int) + 1))) pb D qb (.good us.tail) cs acc v := by
  obtain ⟨k, h1, h2, h3⟩ := h.m.tailS h0
  exact ⟨k, h1, h2, h.fx h3 ((Fx.refl (X1 pb) W).setCell (p := ⟨pb, 1, none⟩) (.inr (show X1 pb pb from rfl)) _)⟩
theorem CqR.set (h : CqR w W pb D qb st cs acc v) (hr : ∀ g, v.ownBlock = some g → g ≠ qb) (i : Nat) (u : Value) : CqR w (W.setCell ⟨qb, i, none⟩ u) pb D qb st (cs.set i u) acc v := by
  refine ⟨h.m.setB h.q (by decide) (by decide) u, h.q.set i u, ?_, h.f.setCell (p := ⟨qb, i, none⟩) (.inl h.lt) u, h.lt, h.pl⟩
  obtain ⟨ccs, ho, hl⟩ := h.row
  refine ⟨ccs, ⟨ho.1, ?_⟩, hl.imp fun a c hh => ?_⟩
  · rcases ho.2 with h1 | ⟨g, cap, cur, hx, h2, h3, h4⟩
    · exact .inl h1
    · exact .inr ⟨g, cap, cur, hx, h2, (Below.heap_setCell W ⟨qb, i, none⟩ u g (hr g (by rw [hx]; rfl))).trans h3, h4⟩
  · obtain ⟨vv, k1, k2⟩ := hh
    refine ⟨vv, k1, k2.keepY fun k cs' _ hc => Below.heap_setCell W ⟨qb, i, none⟩ u k (fun e => ?_)⟩
    have e : k = qb := e
    subst e
    rw [show W.heap[k]? = _ from h.q] at hc
    injection hc with hc
    injection hc with _ hc
    exact absurd hc (by decide)
def CqP (w : World) (pb D qb : Nat) (st : St) (cs : List Value) (acc : List Qr) (v : Value) (r : Value) (e : Ending) (w' : World) : Prop := e = .returned r ∧ CqR w w' pb D qb st cs acc v
theorem CqR.is_ (h : CqR w W pb D qb (.good us) cs acc v) (x : ByteArray) {b : Bool} (hb : isT (hd us) x.data.toList = b) : Calls Tryz.prog 40 #[.pointer (some ⟨pb, 0, none⟩), .string x] W (CqP w pb D qb (.good us) cs acc v (.bool b)) :=
  (ris_any h.m x).mono fun _ _ ⟨h1, h2⟩ => ⟨by rw [h1, hb], h.below h2⟩
theorem CqR.now (h : CqR w W pb D qb (.good us) cs acc v) : Calls Tryz.prog 28 #[.pointer (some ⟨pb, 0, none⟩)] W (CqP w pb D qb (.good us) cs acc v (.agg #[.int .i64 (hd us).kind, .string ⟨(hd us).text.toArray⟩, .int .i64 (hd us).pos])) :=
  (rnow_any h.m).mono fun _ _ ⟨h1, h2⟩ => ⟨h1, h.below h2⟩
theorem CqR.fail_ (h : CqR w W pb D qb st cs acc v) : Calls Tryz.prog 29 #[.pointer (some ⟨pb, 0, none⟩), .int .i64 20] W (CqP w pb D qb (st.fail 20) cs acc v zeroE) :=
  (rfail_any h.m 20 (by decide) 20 rfl).mono fun _ _ ⟨h1, h2, h3⟩ => ⟨h1, h.fx h3 (Fx.ofFr1 h2)⟩
theorem CqR.want_ (h : CqR w W pb D qb st cs acc v) (x : ByteArray) : Calls Tryz.prog 41 #[.pointer (some ⟨pb, 0, none⟩), .string x] W (CqP w pb D qb (st.want x.data.toList) cs acc v (.tuple #[])) :=
  (rwant_any h.m x).mono fun _ _ ⟨h1, h2, h3⟩ => ⟨h1, h.fx h3 (Fx.ofFr1 h2)⟩
theorem CqR.err (h : CqR w W pb D qb st cs acc v) : W.cell? ⟨pb, 3, none⟩ = some (.int .i64 (errOf st : Int)) ∧ pb < W.heap.size ∧ qb < W.heap.size := ⟨h.m.cells.2.1, h.m.lt, h.q.lt⟩
end
end
section
open Go.RowKit Go.Sort

theorem extr_yes {st : St} (h : (isT st.hd wMin || isT st.hd wMax) = true) : st.extr = (st.hd.text, st.tl) ∧ st.hd.kind ≠ 0 := by
  unfold St.extr
  cases hi : isT st.hd wMin with
  | true => exact ⟨by rw [if_pos rfl, (isT_textR hi).1], isT_kind hi⟩
  | false =>
    rw [hi] at h
    have hj : isT st.hd wMax = true := by simpa using h
    exact ⟨by rw [if_neg (by simp), if_pos hj, (isT_textR hj).1], isT_kind hj⟩
theorem extr_no {st : St} (h : (isT st.hd wMin || isT st.hd wMax) = false) : st.extr = ([], st.fail 20) := by
  simp only [Bool.or_eq_false_iff] at h
  unfold St.extr
  rw [if_neg (by rw [h.1]; simp), if_neg (by rw [h.2]; simp)]
theorem isT_other {t : Tok} {x y : List UInt8} (h : isT t x = true) (hn : x ≠ y) : isT t y = false := by
  have h1 := (isT_textR h).1
  rw [Bool.eq_false_iff]
  intro h2
  exact hn (h1.symm.trans (isT_textR h2).1)
theorem CqR.nowT {w W : World} {pb D qb : Nat} {us : List Tok} {cs : List Value} {acc : List Qr} {v : Value} {x : ByteArray} (h : CqR w W pb D qb (.good us) cs acc v) (hx : x = ⟨(hd us).text.toArray⟩) : Calls Tryz.prog 28 #[.pointer (some ⟨pb, 0, none⟩)] W (CqP w pb D qb (.good us) cs acc v (.agg #[.int .i64 (hd us).kind, .string x, .int .i64 (hd us).pos])) := by
  rw [hx]
  exact h.now
theorem CqR.kindtail {w W : World} {pb D qb : Nat} {us : List Tok} {cs : List Value} {acc : List Qr} {v : Value} (h : CqR w W pb D qb (.good us) cs acc v) (hr : ∀ g, v.ownBlock = some g → g ≠ qb) (h0 : (hd us).kind ≠ 0) (u : Value) : ∃ k : Nat, W.cell? ⟨pb, 1, none⟩ = some (.int .i64 (k : Int)) ∧ k ≤ 65537 ∧ CqR w ((W.setCell ⟨qb, 0, none⟩ u).setCell ⟨pb, 1, none⟩ (.int .i64 ((k : Int) + 1))) pb D qb (.good us.tail) (cs.set 0 u) acc v := by
  obtain ⟨k, h1, h2, h3⟩ := (h.set hr 0 u).tail h0
  have hn : pb ≠ qb := by have := h.lt; have := h.pl; omega
  exact ⟨k, (World.cell?_of_block (Below.heap_setCell W ⟨qb, 0, none⟩ u pb hn)).symm.trans h1, h2, h3⟩
theorem infoQR : (Tryz.prog.info? 55).map (fun i => (i.zero, i.size, i.bytes)) = some (some (.agg #[.string ⟨#[]⟩, .string ⟨#[]⟩, .string ⟨#[]⟩, .slice none 0 0, .int .i64 0, .int .i64 0]), 6, 88) := by kernel_rfl
/-- What the loop keeps. -/
def RqRel (l pb D : Nat) (tot : List Qr × St) (w : World) (gk : Nat) (v : Value) (wr : World) : Prop :=
  ∃ acc st1, gk = st1.len ∧ RowR wr w.heap.size acc v ∧ DS wr pb D st1 ∧ (acc ++ (st1.qsts l).1, (st1.qsts l).2) = tot ∧ Fx (X1 pb) w wr ∧ acc.length + st1.len ≤ 200000 ∧ pb < w.heap.size
theorem dr_grown {w wB w' : World} {pb D : Nat} {us : List Tok} {c : Nat} {q : Int} {row : Option Nat} (h : DR w pb D us c q) (hb : Below w.heap.size w wB) (hg : wB.grownBy w' row) (hr : ∀ g, row = some g → ∃ cs : Array Value, wB.heap[g]? = some (.cells cs 55 (0, 0))) : DR w' pb D us c q := by
  have h := h.below hb
  have hne : ∀ (k : Nat) (cs : Array Value) (e : TypeId), wB.heap[k]? = some (Obj.cells cs e (0, 0)) → e ≠ 55 → w'.heap[k]? = wB.heap[k]? := fun k cs e hk he => by
    refine hg.block k (blk_lt hk) (fun e1 => ?_)
    obtain ⟨cs', h2⟩ := hr k e1.symm
    rw [hk] at h2
    injection h2 with h2
    injection h2 with _ h2
    exact he h2
  obtain ⟨ts, k, g, cap, q1, q2, q3, q4, q5⟩ := h.blk
  refine ⟨⟨ts, k, g, cap, q1, q2, q3, (hne _ _ _ q4 (by decide)).trans q4, ⟨q5.1, ?_⟩⟩, h.fine, h.dep⟩
  rcases q5.2 with h1 | ⟨g', cp, cur, hx, h1, h2, h3⟩
  · exact .inl h1
  · exact .inr ⟨g', cp, cur, hx, h1, (hne _ _ _ h2 (by decide)).trans h2, h3⟩
theorem ds_grown {w wB w' : World} {pb D : Nat} {st : St} {row : Option Nat} (h : DS w pb D st) (hb : Below w.heap.size w wB) (hg : wB.grownBy w' row) (hr : ∀ g, row = some g → ∃ cs : Array Value, wB.heap[g]? = some (.cells cs 55 (0, 0))) : DS w' pb D st := by
  cases st with
  | good us => exact dr_grown h hb hg hr
  | bad c q => obtain ⟨h0, us, h⟩ := h; exact ⟨h0, us, dr_grown h hb hg hr⟩
/-- A question is laid behind the others. -/
theorem rq_step {l pb D : Nat} {tot : List Qr × St} {w wA w' : World} {acc : List Qr} {st1 : St} {v v' : Value} {vf : FV} {csr : List Value} (hp : qMore st1.hd = true) (htot : (acc ++ (st1.qsts l).1, (st1.qsts l).2) = tot) (hlen : acc.length + st1.len ≤ 200000)
    (hO : wA.ownsRow w.heap.size 55 6 v acc.length csr) (hL : LHQ (QHR wA w.heap.size) acc csr) (hm : DS wA pb D (st1.qst l).2) (hF : Fx (X1 pb) w wA) (hpl : pb < w.heap.size)
    (hX : FOT 32 wA (fun j => w.heap.size ≤ j) (st1.qst l).1.f vf) (hO' : w'.ownsRow w.heap.size 55 6 v' (acc.length + 1) (csr ++ qc ⟨(st1.qst l).1.kind.toArray⟩ vf (st1.qst l).1.pos)) (hg : (wA.alloc (.cells (qc ⟨(st1.qst l).1.kind.toArray⟩ vf (st1.qst l).1.pos).toArray 55)).grownBy w' v.ownBlock) :
    RqRel l pb D tot w (st1.qst l).2.len v' w' := by
  have hba : Below wA.heap.size wA (wA.alloc (.cells (qc ⟨(st1.qst l).1.kind.toArray⟩ vf (st1.qst l).1.pos).toArray 55)) := (Below.refl _ _).alloc (Nat.le_refl _) _
  have hO1 := ownQ_kt hO (KtQ.below (E := EQ0) hba) id
  have hkt : KtQ w.heap.size (fun e => e = 55) wA w' := fun k cs e hk h1 h2 => by
    have h3 := (KtQ.below (b := w.heap.size) (E := EQ0) hba) k cs e hk h1 id
    exact (KtQ.grown (b := w.heap.size) hg (fun g hg' => (ownQ_typ hO1 g hg').2) k cs e hk (h3.trans h1) h2).trans h3
  have hne : ¬ (32 = 55) := by decide
  have hst : st1.qsts l = ((st1.qst l).1 :: ((st1.qst l).2.qsts l).1, ((st1.qst l).2.qsts l).2) := qsts_go hp
  have hz := hF.size
  refine ⟨acc ++ [(st1.qst l).1], (st1.qst l).2, rfl, ⟨_, by rw [show (acc ++ [(st1.qst l).1]).length = acc.length + 1 by simp]; exact hO', (hL.imp (fun a c h => h.keep hkt hne)).snoc (QHR.keep ⟨vf, rfl, hX⟩ hkt hne)⟩, ?_, ?_, (hF.alloc _).grownQ hg (fun g hg' => .inr (ownQ_typ hO1 g hg').1), ?_, hpl⟩
  · -- the reader lies in blocks that are not the row's
    exact ds_grown hm hba hg (fun g hg' => (ownQ_typ hO1 g hg').2)
  · rw [hst] at htot
    simpa using htot
  · have h3 : (st1.qst l).2.len < st1.len := (qst_dec l st1 hp).1
    simp only [List.length_append, List.length_singleton]
    omega

/-- What the document's Queries tells. -/
def RQPQ (res : QP) (w : World) (e : Ending) (w' : World) : Prop :=
  match res with
  | .ok L => ∃ A cap, e = .returned (.tuple #[.slice A L.length cap, .int .i64 0, .int .i64 (-1)]) ∧ RowR w' w.heap.size L (.slice A L.length cap) ∧ Below w.heap.size w w'
  | .er c q => e = .returned (.tuple #[.slice none 0 0, .int .i64 (c : Int), .int .i64 (q : Int)]) ∧ Below w.heap.size w w' ∧ c ≠ 0
def RQA (w : World) (e : Ending) (w' : World) : Prop := e = .returned (.tuple #[.slice none 0 0, .int .i64 1, .int .i64 (-1)]) ∧ Below w.heap.size w w'
theorem rfqueries_bad (s : ByteArray) (n : Int) (w : World) (hn : n < 1 ∨ 64 < n) : Calls Tryz.prog 21 #[.string s, .int .i64 n] w (RQA w) := by
  have H := Lib.hid (rstart_bad s n w hn)
  clear hn
  go_enter Tryz.func21, Tryz.ntmps21
  go_wp2_with fail
  refine (H.out).mono ?_
  rintro e w1 ⟨rfl, rfl⟩
  go_wp2
  go_ret3
  exact ⟨rfl, Below.refl _ _⟩
theorem qst_in {l : Nat} {st : St} {x1 x2 : List UInt8} {s1 s2 : St} (h1 : st.extr = (x1, s1)) (h2 : s1.bnd = (x2, s2)) : (st.qst l).1.kind = x1 ++ x2 ∧ (st.qst l).1.f = (formS (dq l) (s2.want [91])).1 ∧ (st.qst l).2 = ((formS (dq l) (s2.want [91])).2.want [93]).want [59] ∧ (st.qst l).1.pos = st.hd.pos := by
  rw [qst_kind, qst_f, qst_two, body_two, h1]
  simp only
  rw [h2]
  exact ⟨rfl, rfl, rfl, by rw [St.qst]⟩

set_option maxHeartbeats 40000000 in
set_option maxRecDepth 100000 in
theorem rfqueries_any {s : ByteArray} {l : Nat} (w : World) (hs : s.size ≤ 65536) (h64 : l + 1 ≤ 64) : Calls Tryz.prog 21 #[.string s, .int .i64 ((l + 1 : Nat) : Int)] w (RQPQ (parseQs (l + 1) s.data.toList) w) := by
  obtain ⟨D, hD⟩ : ∃ D, D = l + 1 := ⟨_, rfl⟩
  rw [← hD]
  have H := Lib.hid (rstart_any (s := s) (D := D) w hs (by omega) (by omega))
  cases htk : toks s.data.toList with
  | error xp =>
    obtain ⟨x, q⟩ := xp
    rw [htk] at H
    have HR := Lib.hid (show parseQs D s.data.toList = .er x q by rw [parseQs, htk])
    clear htk hD
    go_enter Tryz.func21, Tryz.ntmps21
    go_wp2_with fail
    refine (H.out).mono ?_
    rintro e w1 ⟨P, rfl, hx, hb1⟩
    have hx' : x ≠ 0 := hx
    have g3 : ((x : Int) != 0) = true := by rw [bne_iff_ne]; omega
    have HX := Lib.hid hx'
    have HB := Lib.hid hb1
    clear hb1 hx hx'
    go_wp2
    go_ret3
    rw [HR.out]
    exact ⟨rfl, HB.out, HX.out⟩
  | ok ts =>
    rw [htk] at H
    obtain ⟨i0, hi0, hz⟩ := Option.map_eq_some_iff.1 infoQR
    simp only [Prod.mk.injEq] at hz
    obtain ⟨hz0, hz1, hz2⟩ := hz
    have HZ0 := Lib.hid hz0
    have HZ1 := Lib.hid hz1
    have HZ2 := Lib.hid hz2
    have HI := Lib.hid hi0
    have HC := Lib.hid (show RDC 0 1 D (formS (dq l)) by
      have h := (rdd_all (D := D) (by omega) D 1 (by omega)).f
      rw [hD, dq_two] at h
      rw [hD]
      exact h)
    have HP0 := Lib.hid (show parseQs D s.data.toList = endQ ((St.good ts).qsts l) by rw [parseQs, htk, hD]; rfl)
    have HLAST := Lib.hid (qsts_last l _ (.good ts) (Nat.le_refl _))
    have htl : ts.length ≤ 65537 := by
      have := good_lenF _ ts 0 (good_toks htk)
      simp at this
      omega
    clear htk hi0 hz0 hz1 hz2 hD
    go_enter Tryz.func21, Tryz.ntmps21
    go_wp2_with fail
    refine (H.out).mono ?_
    rintro e w1 ⟨pb, rfl, hpb, hDS, hb1⟩
    obtain ⟨tot, htot⟩ : ∃ tot, tot = (St.good ts).qsts l := ⟨_, rfl⟩
    rw [← htot] at HP0 HLAST
    have HR0 := Lib.hid (show RqRel l pb D tot w1 (St.good ts).len (.slice none 0 0) w1 from ⟨[], _, rfl, RowR.nil _ _, hDS, by rw [htot]; simp, Fx.refl _ _, by show 0 + ts.length ≤ _; omega, hDS.lt⟩)
    have HB1 := Lib.hid hb1
    have HPB := Lib.hid hpb
    have hwz := hb1.size
    have hf0 := fieldr0
    have hf1 := fieldr1
    have hf2 := fieldr2
    clear hb1 hDS htot hpb
    go_wp2
    go_loopg [10] (St.good ts).len (fun gk v wr => RqRel l pb D tot w1 gk v wr)
    case atStart => exact HR0.out
    case round =>
      clear HR0
      obtain ⟨acc, st1, rfl, hRow, hM, hT, hF, hLen, hpl⟩ := hrel
      obtain ⟨A1, cap1, hv1⟩ := hRow.form
      subst hv1
      have hlM := hM.lt
      have hzr := hF.size
      cases hst : st1 with
      | bad c q =>
        subst hst
        have hc : c ≠ 0 := hM.1
        obtain ⟨_, us2, hDR⟩ := id hM
        obtain ⟨x2, x3, x4, _⟩ := hDR.cells
        have g0 : ((c : Int) == 0) = false := by rw [beq_eq_false_iff_ne]; omega
        have g1 : ((c : Int) != 0) = true := by rw [bne_iff_ne]; omega
        have HE := Lib.hid (show tot.2 = .bad c q by rw [← hT, qsts_end (st := .bad c q) rfl])
        have HW := Lib.hid (HB1.out.trans (fx_lowR hF hwz (fun k hk => by rw [show k = pb from hk]; exact HPB.out)))
        have HC0 := Lib.hid hc
        clear hDR hRow hM hT hF hc
        go_wp2
        go_region
        all_goals
          go_wp2
          go_ret3
          rw [HP0.out, show endQ tot = .er c q by
            have := HE.out
            revert this
            obtain ⟨t1, t2⟩ := tot
            rintro rfl
            rfl]
          exact ⟨rfl, HW.out.drew, HC0.out⟩
      | good us1 =>
        subst hst
        obtain ⟨x2, x3, _⟩ := hM.cells
        replace x3 : wr.cell? ⟨pb, 3, none⟩ = some (.int .i64 ((0 : Nat) : Int)) := x3
        have HM := Lib.hid hM
        have HRow := Lib.hid hRow
        have HF := Lib.hid hF
        have HTT := Lib.hid hT
        have HLEN := Lib.hid hLen
        clear hRow hM hT hF
        go_wp2_with fail
        refine (rnow_any HM.out).mono ?_
        rintro e w2 ⟨rfl, hb2⟩
        have hM2 := HM.out.below hb2
        have HM2 := Lib.hid (show DS w2 pb D (.good us1) from hM2)
        have HRow2 := Lib.hid (HRow.out.below hb2)
        have HF2 := Lib.hid (HF.out.on hb2)
        have hlM2 := hM2.lt
        have hz2' := hb2.size
        clear hb2 HM HRow HF x2 x3
        by_cases h0 : (hd us1).kind = 0
        · have g6 : (((hd us1).kind : Int) != 0) = false := by simp [h0]
          have HE := Lib.hid (show tot = (acc, .good us1) by
            have := HTT.out
            rw [qsts_end (st := .good us1) (by show qMore (hd us1) = false; simp [qMore, h0])] at this
            rw [← this]; simp)
          obtain ⟨x2, x3, _⟩ := hM2.cells
          have x3 : w2.cell? ⟨pb, 3, none⟩ = some (.int .i64 ((0 : Nat) : Int)) := x3
          have HW := Lib.hid (HB1.out.trans (fx_lowR HF2.out hwz (fun k hk => by rw [show k = pb from hk]; exact HPB.out)))
          clear h0 hM2
          go_wp2
          go_ret3
          rw [HP0.out, HE.out]
          exact ⟨A1, cap1, rfl, HRow2.out.mono hwz, HW.out⟩
        · have g6 : (((hd us1).kind : Int) != 0) = true := by rw [bne_iff_ne]; omega
          have HP := Lib.hid (show qMore (St.good us1).hd = true by show qMore (hd us1) = true; simp [qMore, h0])
          have HLT := Lib.hid ((qst_dec l (.good us1) HP.out).1)
          clear h0 hM2
          go_wp2_with fail
          refine (rnow_any HM2.out).mono ?_
          rintro e w3 ⟨rfl, hb3⟩
          have hz3 := hb3.size
          obtain ⟨qb, hqb0⟩ : ∃ qb, qb = w3.heap.size := ⟨_, rfl⟩
          have LK := Lib.hid (show CqR w1 (w3.alloc (.cells #[.string ⟨#[]⟩, .string ⟨#[]⟩, .string ⟨#[]⟩, .slice none 0 0, .int .i64 0, .int .i64 ((hd us1).pos : Int)] 55)) pb D w3.heap.size (.good us1) [.string ⟨#[]⟩, .string ⟨#[]⟩, .string ⟨#[]⟩, .slice none 0 0, .int .i64 0, .int .i64 ((hd us1).pos : Int)] acc (.slice A1 acc.length cap1) from
            ⟨(HM2.out.below hb3).alloc _, Bx.new w3 55 [_, _, _, _, _, _], (HRow2.out.below hb3).below ((Below.refl _ _).alloc (Nat.le_refl _) _), (HF2.out.on hb3).alloc _, by omega, hpl⟩)
          have HQB := Lib.hid (show ∀ g, (Value.slice A1 acc.length cap1).ownBlock = some g → g ≠ w3.heap.size from fun g hg => by
            obtain ⟨ccs, ho, _⟩ := HRow2.out.below hb3
            have := (ho.lt g hg).2
            omega)
          have hlp3 := (HM2.out.below hb3).lt
          clear hb3 HM2 HRow2 HF2
          go_upto_region 7 with fail
          rw [← hqb0] at LK HQB
          generalize w3.alloc (.cells #[.string ⟨#[]⟩, .string ⟨#[]⟩, .string ⟨#[]⟩, .slice none 0 0, .int .i64 0, .int .i64 ((hd us1).pos : Int)] 55) = W0 at LK ⊢
          rw [← hqb0]
          clear hqb0
          go_cut [44] from 24 to 133 (fun s44 wx => s44 = .bool (isT (hd us1) wMin || isT (hd us1) wMax) ∧ CqR w1 wx pb D qb (.good us1) [.string ⟨#[]⟩, .string ⟨#[]⟩, .string ⟨#[]⟩, .slice none 0 0, .int .i64 0, .int .i64 ((hd us1).pos : Int)] acc (.slice A1 acc.length cap1))
          case first =>
            cases hi : isT (hd us1) wMin with
            | true =>
              have HI0 := Lib.hid (show isT (hd us1) (⟨#[80, 109, 105, 110]⟩ : ByteArray).data.toList = true from hi)
              clear hi
              go_wp2_with fail
              refine (LK.out.is_ ⟨#[80, 109, 105, 110]⟩ HI0.out).mono ?_
              rintro e wi ⟨rfl, lk⟩
              have LK := Lib.hid lk
              clear lk
              go_wp2_with fail
              go_meet
              exact ⟨congrArg Value.bool (by rw [show isT (hd us1) wMin = true from HI0.out] <;> rfl), LK.out⟩
            | false =>
              have HI0 := Lib.hid (show isT (hd us1) (⟨#[80, 109, 105, 110]⟩ : ByteArray).data.toList = false from hi)
              clear hi
              go_wp2_with fail
              refine (LK.out.is_ ⟨#[80, 109, 105, 110]⟩ HI0.out).mono ?_
              rintro e wi ⟨rfl, lk⟩
              have LK := Lib.hid lk
              clear lk
              go_wp2_with fail
              refine (LK.out.is_ ⟨#[80, 109, 97, 120]⟩ rfl).mono ?_
              rintro e wj ⟨rfl, lk⟩
              have LK := Lib.hid lk
              clear lk
              go_wp2_with fail
              go_meet
              exact ⟨congrArg Value.bool (by rw [show isT (hd us1) wMin = false from HI0.out] <;> rfl), LK.out⟩
          case rest =>
            obtain ⟨rfl, lk⟩ := hcut
            have LK := Lib.hid lk
            clear lk
            obtain ⟨bx, hbx⟩ : ∃ b, b = (isT (hd us1) wMin || isT (hd us1) wMax) := ⟨_, rfl⟩
            rw [← hbx]
            have HBX := Lib.hid hbx
            clear hbx
            obtain ⟨X1, S1, hE1⟩ : ∃ X1 S1, (St.good us1).extr = (X1, S1) := ⟨_, _, rfl⟩
            have HE1 := Lib.hid hE1
            obtain ⟨kb, hkb⟩ : ∃ kb, kb = (⟨X1.toArray⟩ : ByteArray) := ⟨_, rfl⟩
            have hks : kb.size ≤ 4 := by
              have h4 := extr_len (.good us1)
              rw [hE1] at h4
              rw [hkb]
              show X1.toArray.size ≤ 4
              simpa using h4
            have HKB := Lib.hid hkb
            clear hE1 hkb
            go_upto_if 44 with fail
            go_cut [] from 24 to 133 (fun wx => CqR w1 wx pb D qb S1 [.string kb, .string ⟨#[]⟩, .string ⟨#[]⟩, .slice none 0 0, .int .i64 0, .int .i64 ((hd us1).pos : Int)] acc (.slice A1 acc.length cap1))
            case first =>
              cases bx with
              | true =>
                have hee := extr_yes (st := .good us1) HBX.out.symm
                rw [HE1.out] at hee
                have hX : X1 = (hd us1).text := congrArg Prod.fst hee.1
                have hS : S1 = .good us1.tail := congrArg Prod.snd hee.1
                have hk0 : (hd us1).kind ≠ 0 := hee.2
                subst hS
                obtain ⟨_, hlp0, hlq0⟩ := LK.out.err
                have HK0 := Lib.hid hk0
                have HXT := Lib.hid (show kb = ⟨(hd us1).text.toArray⟩ by rw [HKB.out, hX])
                clear hee hX hk0
                go_wp2_with fail
                refine (LK.out.nowT HXT.out).mono ?_
                rintro e wf ⟨rfl, lk⟩
                obtain ⟨q0, _⟩ := Bx.frozen6 lk.q
                obtain ⟨d0, _⟩ := Bx.cells6 lk.q
                obtain ⟨_, hlp0, hlq0⟩ := lk.err
                obtain ⟨kk, hk1, hk2, hA⟩ := lk.kindtail HQB.out HK0.out (.string kb)
                have fk := lk.m.cells.2.2 1
                have hnq : qb ≠ pb := by have := lk.lt; have := lk.pl; omega
                have HA := Lib.hid hA
                clear hA lk
                go_wp2_with fail
                go_meet
                exact HA.out
              | false =>
                have hee := extr_no (st := .good us1) HBX.out.symm
                rw [HE1.out] at hee
                have hX : X1 = [] := congrArg Prod.fst hee
                have hS : S1 = .bad 20 (hd us1).pos := congrArg Prod.snd hee
                subst hS
                have hkb : kb = (⟨#[]⟩ : ByteArray) := by rw [HKB.out, hX]
                subst hkb
                clear hee hX
                go_wp2_with fail
                refine (LK.out.fail_).mono ?_
                rintro e wf ⟨rfl, lk⟩
                unfold zeroE
                have LK := Lib.hid lk
                clear lk
                go_wp2_with fail
                go_meet
                exact LK.out
            case rest =>
              have LK := Lib.hid hcut
              clear hcut
              cases S1 with
              | bad c q =>
                have hc : c ≠ 0 := LK.out.m.1
                have g0 : ((c : Int) == 0) = false := by rw [beq_eq_false_iff_ne]; omega
                have HE2 := Lib.hid (show (St.bad c q).bnd = ([], .bad c q) from rfl)
                have HKN := Lib.hid (show (⟨(X1 ++ ([] : List UInt8)).toArray⟩ : ByteArray) = kb by rw [HKB.out, List.append_nil])
                obtain ⟨x3, hlp, hlq⟩ := LK.out.err
                replace x3 : World.cell? _ ⟨pb, 3, none⟩ = some (.int .i64 (c : Int)) := x3
                clear hc
                go_wp2_with fail
                refine (LK.out.fail_).mono ?_
                rintro e wg ⟨rfl, lk⟩
                unfold zeroE
                have LK := Lib.hid (show CqR w1 wg pb D qb (.bad c q) _ _ _ from lk)
                clear lk x3 hlp hlq g0
                go_wp2_with fail
                refine (LK.out.want_ ⟨#[91]⟩).mono ?_
                rintro e wa ⟨rfl, lk⟩
                obtain ⟨S3, hS3⟩ : ∃ s, s = ((St.bad c q)).want [91] := ⟨_, rfl⟩
                rw [show ((St.bad c q)).want (⟨#[91]⟩ : ByteArray).data.toList = S3 from hS3.symm] at lk
                obtain ⟨r0, hr0⟩ : ∃ r, r = formS (dq l) S3 := ⟨_, rfl⟩
                have HD := Lib.hid (show Calls Tryz.prog 27 _ wa (DFP pb D (formS (dq l) S3) wa) from HC.out wa pb _ _ _ rfl rfl lk.m)
                rw [← hr0] at HD
                have HS3 := Lib.hid hS3
                have HR0 := Lib.hid hr0
                have LK := Lib.hid lk
                clear lk hS3 hr0
                go_wp2_with fail
                refine (HD.out).mono ?_
                rintro e wb ⟨vf, rfl, hOf, hMf, hFf⟩
                have hzf := hFf.size
                have hza := LK.out.f.size
                have lk := LK.out.fx hMf hFf
                obtain ⟨_, hlp, hlq⟩ := lk.err
                have hlqa := LK.out.q.lt
                obtain ⟨d0, d1, d2, d3, d4, d5⟩ := Bx.cells6 lk.q
                obtain ⟨z0, z1, z2, z3, z4, z5⟩ := Bx.frozen6 lk.q
                have hqb := lk.lt
                have lk5 := (((lk.set HQB.out 1 (.string vf.o)).set HQB.out 2 (.string vf.nm)).set HQB.out 3 (.slice vf.A vf.ll vf.cap)).set HQB.out 4 (.int .i64 vf.p)
                have HOf := Lib.hid (((((hOf.wide (T := fun j => wa.heap.size + 1 ≤ j ∧ j < wb.heap.size) (fun j _ hj => ⟨hj.1, hj.2⟩)).setS (q := qb) (i := 1) (by omega) (.string vf.o)).setS (q := qb) (i := 2) (by omega) (.string vf.nm)).setS (q := qb) (i := 3) (by omega) (.slice vf.A vf.ll vf.cap)).setS (q := qb) (i := 4) (by omega) (.int .i64 vf.p))
                have LK := Lib.hid lk5
                clear lk lk5 hOf hMf hFf
                go_wp2_with fail
                refine calls_gen (P := fun W => CqR w1 W pb D qb r0.2 (qc kb vf (hd us1).pos) acc (.slice A1 acc.length cap1) ∧ FOT 32 W (fun j => wa.heap.size + 1 ≤ j ∧ j < wb.heap.size) r0.1 vf ∧ wb.heap.size ≤ W.heap.size) ⟨LK.out, HOf.out, by simp⟩ ?_
                clear LK HOf d0 d1 d2 d3 d4 d5 z0 z1 z2 z3 z4 z5 hlp hlq
                rintro WT ⟨lk, hO, hzW⟩
                have hpl := lk.pl
                have hqb := lk.lt
                refine (rwant_any lk.m ⟨#[93]⟩).mono ?_
                rintro e wc ⟨rfl, hFc, hDc⟩
                have hzc := hFc.size
                have HOc := Lib.hid (hO.fx (Fx.ofFr1 hFc) (fun j hj => x1_no (by omega)))
                have LK := Lib.hid (lk.fx hDc (Fx.ofFr1 hFc))
                clear lk hO hFc hDc
                go_wp2_with fail
                refine (rwant_any LK.out.m ⟨#[59]⟩).mono ?_
                rintro e wA ⟨rfl, hFd, hDd⟩
                have hzd := hFd.size
                have HOA := Lib.hid ((HOc.out.fx (Fx.ofFr1 hFd) (fun j hj => x1_no (by omega))).wide (T := fun j => w1.heap.size ≤ j) (fun j _ hj => by omega))
                have lk := LK.out.fx hDd (Fx.ofFr1 hFd)
                obtain ⟨d0, d1, d2, d3, d4, d5⟩ := Bx.cells6 lk.q
                have hlq := lk.q.lt
                have hAz := lk.f.size
                obtain ⟨ccs, hO, hLH⟩ := lk.row
                have HO := Lib.hid hO
                have HLH := Lib.hid hLH
                have LK := Lib.hid lk
                have HOB := Lib.hid (ownQ_kt hO (KtQ.below (E := EQ0) ((Below.refl wA.heap.size wA).alloc (Nat.le_refl _) (.cells #[.string kb, .string vf.o, .string vf.nm, .slice vf.A vf.ll vf.cap, .int .i64 vf.p, .int .i64 ((hd us1).pos : Int)] 55))) id)
                clear lk hO hLH hFd hDd HOc
                go_wp2_with (at_builtin; refine wpList_append_lies _ rfl _ _ 49 rfl w1.heap.size 55 i0 (.agg #[.string ⟨#[]⟩, .string ⟨#[]⟩, .string ⟨#[]⟩, .slice none 0 0, .int .i64 0, .int .i64 0]) 6 88 Tryz.underlying49 HI.out HZ0.out HZ1.out HZ2.out rfl (by decide) _ _ _ rfl HOB.out ⟨wA.heap.size, 0, none⟩ 1 1 [.string kb, .string vf.o, .string vf.nm, .slice vf.A vf.ll vf.cap, .int .i64 vf.p, .int .i64 ((hd us1).pos : Int)] rfl rfl ?c1 ?c2 (by omega) ?c3 ?c4 ?c5 (wA.heap.size + 1) (by simp) ?_)
                case c1 => intro j u hj; exact (Bx.new wA 55 [.string kb, .string vf.o, .string vf.nm, .slice vf.A vf.ll vf.cap, .int .i64 vf.p, .int .i64 ((hd us1).pos : Int)]).cell_addQ hj
                case c2 => intro u hu; simp only [List.mem_cons, List.not_mem_nil, or_false] at hu; rcases hu with rfl | rfl | rfl | rfl | rfl | rfl <;> rfl
                case c3 => unfold maxLen; omega
                case c4 => omega
                case c5 => simp; omega
                intro g2 cap2 w3 hown3 hgrow3 hat3 hlt3
                have hqi := qst_in (l := l) (st := .good us1) HE1.out HE2.out
                rw [← HS3.out, ← HR0.out] at hqi
                have hkd : (⟨((St.good us1).qst l).1.kind.toArray⟩ : ByteArray) = kb := by rw [hqi.1]; exact HKN.out
                have HR3 := Lib.hid (rq_step (vf := vf) (l := l) (st1 := .good us1) HP.out HTT.out HLEN.out HO.out HLH.out (by rw [hqi.2.2.1]; exact LK.out.m) LK.out.f hpl (by rw [hqi.2.1]; exact HOA.out) (by rw [hkd, hqi.2.2.2]; exact hown3) (by rw [hkd, hqi.2.2.2]; exact hgrow3))
                clear hown3 hgrow3 hat3 hqi hkd
                go_wp2
                go_roundg ((St.good us1).qst l).2.len
                case measure => exact HLT.out
                case rel => exact HR3.out
              | good us2 =>
                cases hi : isT (hd us2) [61] with
                | true =>
                  have HIT := Lib.hid (show isT (hd us2) (⟨#[61]⟩ : ByteArray).data.toList = true from hi)
                  have HIO := Lib.hid (show isT (hd us2) (⟨#[62]⟩ : ByteArray).data.toList = false from (isT_other hi (by decide)))
                  have HK2 := Lib.hid (isT_kind HIT.out)
                  have HTX := Lib.hid (show (⟨#[61]⟩ : ByteArray) = ⟨(hd us2).text.toArray⟩ by rw [(isT_textR hi).1])
                  have HE2 := Lib.hid (show (St.good us2).bnd = ([61, 49], (St.good us2.tail).digs [49]) by unfold St.bnd; rw [if_pos (show isT (St.good us2).hd [61] = true from hi)]; rfl)
                  have HKN := Lib.hid (show (⟨(X1 ++ ([61, 49] : List UInt8)).toArray⟩ : ByteArray) = kb ++ ⟨#[61]⟩ ++ ⟨#[49]⟩ by rw [HKB.out]; apply ByteArray.ext; simp)
                  clear hi
                  obtain ⟨x3, hlp, hlq⟩ := LK.out.err
                  replace x3 : World.cell? _ ⟨pb, 3, none⟩ = some (.int .i64 0) := x3
                  go_wp2_with fail
                  refine (LK.out.is_ ⟨#[61]⟩ HIT.out).mono ?_
                  rintro e wi ⟨rfl, lk⟩
                  have LK := Lib.hid lk
                  clear lk x3 hlp hlq
                  obtain ⟨x3, hlp, hlq⟩ := LK.out.err
                  replace x3 : World.cell? _ ⟨pb, 3, none⟩ = some (.int .i64 0) := x3
                  go_wp2_with fail
                  refine (LK.out.is_ ⟨#[62]⟩ HIO.out).mono ?_
                  rintro e wi ⟨rfl, lk⟩
                  have LK := Lib.hid lk
                  clear lk x3 hlp hlq
                  obtain ⟨S2, hS2⟩ : ∃ S2, S2 = (St.good us2.tail).digs [49] := ⟨_, rfl⟩
                  rw [← hS2] at HE2
                  have HS2 := Lib.hid hS2
                  clear hS2
                  go_upto_if 77 with fail
                  go_cut [] from 24 to 133 (fun wx => CqR w1 wx pb D qb S2 [.string (kb ++ ⟨#[61]⟩ ++ ⟨#[49]⟩), .string ⟨#[]⟩, .string ⟨#[]⟩, .slice none 0 0, .int .i64 0, .int .i64 ((hd us1).pos : Int)] acc (.slice A1 acc.length cap1))
                  case first =>
                    go_upto_region 18 with fail
                    go_cut [] from 24 to 133 (fun wx => CqR w1 wx pb D qb (.good us2) [.string (kb ++ ⟨#[61]⟩ ++ ⟨#[49]⟩), .string ⟨#[]⟩, .string ⟨#[]⟩, .slice none 0 0, .int .i64 0, .int .i64 ((hd us1).pos : Int)] acc (.slice A1 acc.length cap1))
                    case first =>
                      obtain ⟨d0, _⟩ := Bx.cells6 LK.out.q
                      obtain ⟨q0, _⟩ := Bx.frozen6 LK.out.q
                      obtain ⟨_, hlp, hlq⟩ := LK.out.err
                      have k0 : ¬ 9223372036854775807 < kb.size + 1 := by omega
                      have k1 : ¬ 9223372036854775807 < kb.size + 1 + 1 := by omega
                      go_region_law (first
                        | (go_simp
                           go_at_call 28
                           refine (LK.out.drew.nowT HTX.out).mono ?_
                           rintro e wc ⟨rfl, lk⟩
                           obtain ⟨d0, _⟩ := Bx.cells6 lk.q
                           obtain ⟨q0, _⟩ := Bx.frozen6 lk.q
                           obtain ⟨_, hlp, hlq⟩ := lk.err
                           have LKC := Lib.hid lk
                           clear lk))
                      all_goals
                        go_wp2_with fail
                        go_meet
                        exact LKC.out.set HQB.out 0 _
                    case rest =>
                      have LK := Lib.hid hcut
                      clear hcut
                      obtain ⟨_, hlp, hlq⟩ := LK.out.err
                      obtain ⟨kk, hk1, hk2, hA⟩ := LK.out.tail HK2.out
                      have fk := LK.out.m.cells.2.2 1
                      have HA := Lib.hid hA
                      clear hA
                      go_wp2_with fail
                      refine calls_gen (P := fun W => CqR w1 W pb D qb (.good us2.tail) [.string (kb ++ ⟨#[61]⟩ ++ ⟨#[49]⟩), .string ⟨#[]⟩, .string ⟨#[]⟩, .slice none 0 0, .int .i64 0, .int .i64 ((hd us1).pos : Int)] acc (.slice A1 acc.length cap1)) HA.out ?_
                      clear LK HA hk1 hk2 fk hlp hlq
                      rintro WC lk
                      refine (lk.now).mono ?_
                      rintro e wd ⟨rfl, lk⟩
                      have LK := Lib.hid lk
                      clear lk
                      by_cases hk3 : (hd us2.tail).kind = 2
                      · have g3 : (((hd us2.tail).kind : Int) != 2) = false := by rw [hk3]; rfl
                        have HK3 := Lib.hid hk3
                        clear hk3
                        by_cases ht3 : (hd us2.tail).text = [49]
                        · have HT3 := Lib.hid (show (⟨#[49]⟩ : ByteArray) = ⟨(hd us2.tail).text.toArray⟩ by rw [ht3])
                          have hs : S2 = .good us2.tail.tail := by rw [HS2.out]; unfold St.digs; rw [if_pos ⟨HK3.out, ht3⟩]; rfl
                          subst hs
                          clear ht3
                          go_wp2_with fail
                          refine (LK.out.nowT HT3.out).mono ?_
                          rintro e wf ⟨rfl, lk⟩
                          obtain ⟨x3, hlp, hlq⟩ := lk.err
                          replace x3 : World.cell? _ ⟨pb, 3, none⟩ = some (.int .i64 0) := x3
                          obtain ⟨kk, hk1, hk2, hA⟩ := lk.tail (by have := HK3.out; omega)
                          have fk := lk.m.cells.2.2 1
                          have HA := Lib.hid hA
                          clear hA lk
                          go_wp2_with fail
                          go_meet
                          exact HA.out
                        · have g4 : ((hd us2.tail).text == [49]) = false := by
                            rw [beq_eq_false_iff_ne]
                            exact ht3
                          have g5 : ((hd us2.tail).text == (⟨#[49]⟩ : ByteArray).toList) = false := by
                            rw [ByteArray.toList_eq]
                            exact g4
                          have hs : S2 = .bad 20 (hd us2.tail).pos := by rw [HS2.out]; unfold St.digs; rw [if_neg (fun h => ht3 h.2)]; rfl
                          subst hs
                          clear ht3
                          go_wp2_with fail
                          refine (LK.out.now).mono ?_
                          rintro e wf ⟨rfl, lk⟩
                          have LK := Lib.hid lk
                          clear lk
                          go_wp2_with fail
                          refine (LK.out.fail_).mono ?_
                          rintro e wg ⟨rfl, lk⟩
                          unfold zeroE
                          obtain ⟨x3, hlp, hlq⟩ := lk.err
                          replace x3 : World.cell? _ ⟨pb, 3, none⟩ = some (.int .i64 20) := x3
                          have LK := Lib.hid lk
                          clear lk
                          go_wp2_with fail
                          go_meet
                          exact LK.out
                      · have g3 : (((hd us2.tail).kind : Int) != 2) = true := by rw [bne_iff_ne]; omega
                        have hs : S2 = .bad 20 (hd us2.tail).pos := by rw [HS2.out]; unfold St.digs; rw [if_neg (fun h => hk3 h.1)]; rfl
                        subst hs
                        clear hk3
                        go_wp2_with fail
                        refine (LK.out.fail_).mono ?_
                        rintro e wg ⟨rfl, lk⟩
                        unfold zeroE
                        obtain ⟨x3, hlp, hlq⟩ := lk.err
                        replace x3 : World.cell? _ ⟨pb, 3, none⟩ = some (.int .i64 20) := x3
                        have LK := Lib.hid lk
                        clear lk
                        go_wp2_with fail
                        go_meet
                        exact LK.out
                  case rest =>
                    obtain ⟨kd, hkd⟩ : ∃ kd, kd = kb ++ (⟨#[61]⟩ : ByteArray) ++ ⟨#[49]⟩ := ⟨_, rfl⟩
                    rw [← hkd] at hcut HKN
                    have LK := Lib.hid hcut
                    clear hcut hkd
                    go_wp2_with fail
                    refine (LK.out.want_ ⟨#[91]⟩).mono ?_
                    rintro e wa ⟨rfl, lk⟩
                    obtain ⟨S3, hS3⟩ : ∃ s, s = (S2).want [91] := ⟨_, rfl⟩
                    rw [show (S2).want (⟨#[91]⟩ : ByteArray).data.toList = S3 from hS3.symm] at lk
                    obtain ⟨r0, hr0⟩ : ∃ r, r = formS (dq l) S3 := ⟨_, rfl⟩
                    have HD := Lib.hid (show Calls Tryz.prog 27 _ wa (DFP pb D (formS (dq l) S3) wa) from HC.out wa pb _ _ _ rfl rfl lk.m)
                    rw [← hr0] at HD
                    have HS3 := Lib.hid hS3
                    have HR0 := Lib.hid hr0
                    have LK := Lib.hid lk
                    clear lk hS3 hr0
                    go_wp2_with fail
                    refine (HD.out).mono ?_
                    rintro e wb ⟨vf, rfl, hOf, hMf, hFf⟩
                    have hzf := hFf.size
                    have hza := LK.out.f.size
                    have lk := LK.out.fx hMf hFf
                    obtain ⟨_, hlp, hlq⟩ := lk.err
                    have hlqa := LK.out.q.lt
                    obtain ⟨d0, d1, d2, d3, d4, d5⟩ := Bx.cells6 lk.q
                    obtain ⟨z0, z1, z2, z3, z4, z5⟩ := Bx.frozen6 lk.q
                    have hqb := lk.lt
                    have lk5 := (((lk.set HQB.out 1 (.string vf.o)).set HQB.out 2 (.string vf.nm)).set HQB.out 3 (.slice vf.A vf.ll vf.cap)).set HQB.out 4 (.int .i64 vf.p)
                    have HOf := Lib.hid (((((hOf.wide (T := fun j => wa.heap.size + 1 ≤ j ∧ j < wb.heap.size) (fun j _ hj => ⟨hj.1, hj.2⟩)).setS (q := qb) (i := 1) (by omega) (.string vf.o)).setS (q := qb) (i := 2) (by omega) (.string vf.nm)).setS (q := qb) (i := 3) (by omega) (.slice vf.A vf.ll vf.cap)).setS (q := qb) (i := 4) (by omega) (.int .i64 vf.p))
                    have LK := Lib.hid lk5
                    clear lk lk5 hOf hMf hFf
                    go_wp2_with fail
                    refine calls_gen (P := fun W => CqR w1 W pb D qb r0.2 (qc kd vf (hd us1).pos) acc (.slice A1 acc.length cap1) ∧ FOT 32 W (fun j => wa.heap.size + 1 ≤ j ∧ j < wb.heap.size) r0.1 vf ∧ wb.heap.size ≤ W.heap.size) ⟨LK.out, HOf.out, by simp⟩ ?_
                    clear LK HOf d0 d1 d2 d3 d4 d5 z0 z1 z2 z3 z4 z5 hlp hlq
                    rintro WT ⟨lk, hO, hzW⟩
                    have hpl := lk.pl
                    have hqb := lk.lt
                    refine (rwant_any lk.m ⟨#[93]⟩).mono ?_
                    rintro e wc ⟨rfl, hFc, hDc⟩
                    have hzc := hFc.size
                    have HOc := Lib.hid (hO.fx (Fx.ofFr1 hFc) (fun j hj => x1_no (by omega)))
                    have LK := Lib.hid (lk.fx hDc (Fx.ofFr1 hFc))
                    clear lk hO hFc hDc
                    go_wp2_with fail
                    refine (rwant_any LK.out.m ⟨#[59]⟩).mono ?_
                    rintro e wA ⟨rfl, hFd, hDd⟩
                    have hzd := hFd.size
                    have HOA := Lib.hid ((HOc.out.fx (Fx.ofFr1 hFd) (fun j hj => x1_no (by omega))).wide (T := fun j => w1.heap.size ≤ j) (fun j _ hj => by omega))
                    have lk := LK.out.fx hDd (Fx.ofFr1 hFd)
                    obtain ⟨d0, d1, d2, d3, d4, d5⟩ := Bx.cells6 lk.q
                    have hlq := lk.q.lt
                    have hAz := lk.f.size
                    obtain ⟨ccs, hO, hLH⟩ := lk.row
                    have HO := Lib.hid hO
                    have HLH := Lib.hid hLH
                    have LK := Lib.hid lk
                    have HOB := Lib.hid (ownQ_kt hO (KtQ.below (E := EQ0) ((Below.refl wA.heap.size wA).alloc (Nat.le_refl _) (.cells #[.string kd, .string vf.o, .string vf.nm, .slice vf.A vf.ll vf.cap, .int .i64 vf.p, .int .i64 ((hd us1).pos : Int)] 55))) id)
                    clear lk hO hLH hFd hDd HOc
                    go_wp2_with (at_builtin; refine wpList_append_lies _ rfl _ _ 49 rfl w1.heap.size 55 i0 (.agg #[.string ⟨#[]⟩, .string ⟨#[]⟩, .string ⟨#[]⟩, .slice none 0 0, .int .i64 0, .int .i64 0]) 6 88 Tryz.underlying49 HI.out HZ0.out HZ1.out HZ2.out rfl (by decide) _ _ _ rfl HOB.out ⟨wA.heap.size, 0, none⟩ 1 1 [.string kd, .string vf.o, .string vf.nm, .slice vf.A vf.ll vf.cap, .int .i64 vf.p, .int .i64 ((hd us1).pos : Int)] rfl rfl ?c1 ?c2 (by omega) ?c3 ?c4 ?c5 (wA.heap.size + 1) (by simp) ?_)
                    case c1 => intro j u hj; exact (Bx.new wA 55 [.string kd, .string vf.o, .string vf.nm, .slice vf.A vf.ll vf.cap, .int .i64 vf.p, .int .i64 ((hd us1).pos : Int)]).cell_addQ hj
                    case c2 => intro u hu; simp only [List.mem_cons, List.not_mem_nil, or_false] at hu; rcases hu with rfl | rfl | rfl | rfl | rfl | rfl <;> rfl
                    case c3 => unfold maxLen; omega
                    case c4 => omega
                    case c5 => simp; omega
                    intro g2 cap2 w3 hown3 hgrow3 hat3 hlt3
                    have hqi := qst_in (l := l) (st := .good us1) HE1.out HE2.out
                    rw [← HS3.out, ← HR0.out] at hqi
                    have hkd : (⟨((St.good us1).qst l).1.kind.toArray⟩ : ByteArray) = kd := by rw [hqi.1]; exact HKN.out
                    have HR3 := Lib.hid (rq_step (vf := vf) (l := l) (st1 := .good us1) HP.out HTT.out HLEN.out HO.out HLH.out (by rw [hqi.2.2.1]; exact LK.out.m) LK.out.f hpl (by rw [hqi.2.1]; exact HOA.out) (by rw [hkd, hqi.2.2.2]; exact hown3) (by rw [hkd, hqi.2.2.2]; exact hgrow3))
                    clear hown3 hgrow3 hat3 hqi hkd
                    go_wp2
                    go_roundg ((St.good us1).qst l).2.len
                    case measure => exact HLT.out
                    case rel => exact HR3.out
                | false =>
                  cases hj : isT (hd us2) [62] with
                  | true =>
                    have HIT := Lib.hid (show isT (hd us2) (⟨#[62]⟩ : ByteArray).data.toList = true from hj)
                    have HIO := Lib.hid (show isT (hd us2) (⟨#[61]⟩ : ByteArray).data.toList = false from hi)
                    have HK2 := Lib.hid (isT_kind HIT.out)
                    have HTX := Lib.hid (show (⟨#[62]⟩ : ByteArray) = ⟨(hd us2).text.toArray⟩ by rw [(isT_textR hj).1])
                    have HE2 := Lib.hid (show (St.good us2).bnd = ([62, 48], (St.good us2.tail).digs [48]) by unfold St.bnd; rw [if_neg (show ¬ isT (St.good us2).hd [61] = true by rw [show isT (St.good us2).hd [61] = false from hi]; simp), if_pos (show isT (St.good us2).hd [62] = true from hj)]; rfl)
                    have HKN := Lib.hid (show (⟨(X1 ++ ([62, 48] : List UInt8)).toArray⟩ : ByteArray) = kb ++ ⟨#[62]⟩ ++ ⟨#[48]⟩ by rw [HKB.out]; apply ByteArray.ext; simp)
                    clear hi hj
                    obtain ⟨x3, hlp, hlq⟩ := LK.out.err
                    replace x3 : World.cell? _ ⟨pb, 3, none⟩ = some (.int .i64 0) := x3
                    go_wp2_with fail
                    refine (LK.out.is_ ⟨#[61]⟩ HIO.out).mono ?_
                    rintro e wi ⟨rfl, lk⟩
                    have LK := Lib.hid lk
                    clear lk x3 hlp hlq
                    obtain ⟨x3, hlp, hlq⟩ := LK.out.err
                    replace x3 : World.cell? _ ⟨pb, 3, none⟩ = some (.int .i64 0) := x3
                    go_wp2_with fail
                    refine (LK.out.is_ ⟨#[62]⟩ HIT.out).mono ?_
                    rintro e wi ⟨rfl, lk⟩
                    have LK := Lib.hid lk
                    clear lk x3 hlp hlq
                    obtain ⟨S2, hS2⟩ : ∃ S2, S2 = (St.good us2.tail).digs [48] := ⟨_, rfl⟩
                    rw [← hS2] at HE2
                    have HS2 := Lib.hid hS2
                    clear hS2
                    go_upto_if 77 with fail
                    go_cut [] from 24 to 133 (fun wx => CqR w1 wx pb D qb S2 [.string (kb ++ ⟨#[62]⟩ ++ ⟨#[48]⟩), .string ⟨#[]⟩, .string ⟨#[]⟩, .slice none 0 0, .int .i64 0, .int .i64 ((hd us1).pos : Int)] acc (.slice A1 acc.length cap1))
                    case first =>
                      go_upto_region 18 with fail
                      go_cut [] from 24 to 133 (fun wx => CqR w1 wx pb D qb (.good us2) [.string (kb ++ ⟨#[62]⟩ ++ ⟨#[48]⟩), .string ⟨#[]⟩, .string ⟨#[]⟩, .slice none 0 0, .int .i64 0, .int .i64 ((hd us1).pos : Int)] acc (.slice A1 acc.length cap1))
                      case first =>
                        obtain ⟨d0, _⟩ := Bx.cells6 LK.out.q
                        obtain ⟨q0, _⟩ := Bx.frozen6 LK.out.q
                        obtain ⟨_, hlp, hlq⟩ := LK.out.err
                        have k0 : ¬ 9223372036854775807 < kb.size + 1 := by omega
                        have k1 : ¬ 9223372036854775807 < kb.size + 1 + 1 := by omega
                        go_region_law (first
                          | (go_simp
                             go_at_call 28
                             refine (LK.out.drew.nowT HTX.out).mono ?_
                             rintro e wc ⟨rfl, lk⟩
                             obtain ⟨d0, _⟩ := Bx.cells6 lk.q
                             obtain ⟨q0, _⟩ := Bx.frozen6 lk.q
                             obtain ⟨_, hlp, hlq⟩ := lk.err
                             have LKC := Lib.hid lk
                             clear lk))
                        all_goals
                          go_wp2_with fail
                          go_meet
                          exact LKC.out.set HQB.out 0 _
                      case rest =>
                        have LK := Lib.hid hcut
                        clear hcut
                        obtain ⟨_, hlp, hlq⟩ := LK.out.err
                        obtain ⟨kk, hk1, hk2, hA⟩ := LK.out.tail HK2.out
                        have fk := LK.out.m.cells.2.2 1
                        have HA := Lib.hid hA
                        clear hA
                        go_wp2_with fail
                        refine calls_gen (P := fun W => CqR w1 W pb D qb (.good us2.tail) [.string (kb ++ ⟨#[62]⟩ ++ ⟨#[48]⟩), .string ⟨#[]⟩, .string ⟨#[]⟩, .slice none 0 0, .int .i64 0, .int .i64 ((hd us1).pos : Int)] acc (.slice A1 acc.length cap1)) HA.out ?_
                        clear LK HA hk1 hk2 fk hlp hlq
                        rintro WC lk
                        refine (lk.now).mono ?_
                        rintro e wd ⟨rfl, lk⟩
                        have LK := Lib.hid lk
                        clear lk
                        by_cases hk3 : (hd us2.tail).kind = 2
                        · have g3 : (((hd us2.tail).kind : Int) != 2) = false := by rw [hk3]; rfl
                          have HK3 := Lib.hid hk3
                          clear hk3
                          by_cases ht3 : (hd us2.tail).text = [48]
                          · have HT3 := Lib.hid (show (⟨#[48]⟩ : ByteArray) = ⟨(hd us2.tail).text.toArray⟩ by rw [ht3])
                            have hs : S2 = .good us2.tail.tail := by rw [HS2.out]; unfold St.digs; rw [if_pos ⟨HK3.out, ht3⟩]; rfl
                            subst hs
                            clear ht3
                            go_wp2_with fail
                            refine (LK.out.nowT HT3.out).mono ?_
                            rintro e wf ⟨rfl, lk⟩
                            obtain ⟨x3, hlp, hlq⟩ := lk.err
                            replace x3 : World.cell? _ ⟨pb, 3, none⟩ = some (.int .i64 0) := x3
                            obtain ⟨kk, hk1, hk2, hA⟩ := lk.tail (by have := HK3.out; omega)
                            have fk := lk.m.cells.2.2 1
                            have HA := Lib.hid hA
                            clear hA lk
                            go_wp2_with fail
                            go_meet
                            exact HA.out
                          · have g4 : ((hd us2.tail).text == [48]) = false := by
                              rw [beq_eq_false_iff_ne]
                              exact ht3
                            have g5 : ((hd us2.tail).text == (⟨#[48]⟩ : ByteArray).toList) = false := by
                              rw [ByteArray.toList_eq]
                              exact g4
                            have hs : S2 = .bad 20 (hd us2.tail).pos := by rw [HS2.out]; unfold St.digs; rw [if_neg (fun h => ht3 h.2)]; rfl
                            subst hs
                            clear ht3
                            go_wp2_with fail
                            refine (LK.out.now).mono ?_
                            rintro e wf ⟨rfl, lk⟩
                            have LK := Lib.hid lk
                            clear lk
                            go_wp2_with fail
                            refine (LK.out.fail_).mono ?_
                            rintro e wg ⟨rfl, lk⟩
                            unfold zeroE
                            obtain ⟨x3, hlp, hlq⟩ := lk.err
                            replace x3 : World.cell? _ ⟨pb, 3, none⟩ = some (.int .i64 20) := x3
                            have LK := Lib.hid lk
                            clear lk
                            go_wp2_with fail
                            go_meet
                            exact LK.out
                        · have g3 : (((hd us2.tail).kind : Int) != 2) = true := by rw [bne_iff_ne]; omega
                          have hs : S2 = .bad 20 (hd us2.tail).pos := by rw [HS2.out]; unfold St.digs; rw [if_neg (fun h => hk3 h.1)]; rfl
                          subst hs
                          clear hk3
                          go_wp2_with fail
                          refine (LK.out.fail_).mono ?_
                          rintro e wg ⟨rfl, lk⟩
                          unfold zeroE
                          obtain ⟨x3, hlp, hlq⟩ := lk.err
                          replace x3 : World.cell? _ ⟨pb, 3, none⟩ = some (.int .i64 20) := x3
                          have LK := Lib.hid lk
                          clear lk
                          go_wp2_with fail
                          go_meet
                          exact LK.out
                    case rest =>
                      obtain ⟨kd, hkd⟩ : ∃ kd, kd = kb ++ (⟨#[62]⟩ : ByteArray) ++ ⟨#[48]⟩ := ⟨_, rfl⟩
                      rw [← hkd] at hcut HKN
                      have LK := Lib.hid hcut
                      clear hcut hkd
                      go_wp2_with fail
                      refine (LK.out.want_ ⟨#[91]⟩).mono ?_
                      rintro e wa ⟨rfl, lk⟩
                      obtain ⟨S3, hS3⟩ : ∃ s, s = (S2).want [91] := ⟨_, rfl⟩
                      rw [show (S2).want (⟨#[91]⟩ : ByteArray).data.toList = S3 from hS3.symm] at lk
                      obtain ⟨r0, hr0⟩ : ∃ r, r = formS (dq l) S3 := ⟨_, rfl⟩
                      have HD := Lib.hid (show Calls Tryz.prog 27 _ wa (DFP pb D (formS (dq l) S3) wa) from HC.out wa pb _ _ _ rfl rfl lk.m)
                      rw [← hr0] at HD
                      have HS3 := Lib.hid hS3
                      have HR0 := Lib.hid hr0
                      have LK := Lib.hid lk
                      clear lk hS3 hr0
                      go_wp2_with fail
                      refine (HD.out).mono ?_
                      rintro e wb ⟨vf, rfl, hOf, hMf, hFf⟩
                      have hzf := hFf.size
                      have hza := LK.out.f.size
                      have lk := LK.out.fx hMf hFf
                      obtain ⟨_, hlp, hlq⟩ := lk.err
                      have hlqa := LK.out.q.lt
                      obtain ⟨d0, d1, d2, d3, d4, d5⟩ := Bx.cells6 lk.q
                      obtain ⟨z0, z1, z2, z3, z4, z5⟩ := Bx.frozen6 lk.q
                      have hqb := lk.lt
                      have lk5 := (((lk.set HQB.out 1 (.string vf.o)).set HQB.out 2 (.string vf.nm)).set HQB.out 3 (.slice vf.A vf.ll vf.cap)).set HQB.out 4 (.int .i64 vf.p)
                      have HOf := Lib.hid (((((hOf.wide (T := fun j => wa.heap.size + 1 ≤ j ∧ j < wb.heap.size) (fun j _ hj => ⟨hj.1, hj.2⟩)).setS (q := qb) (i := 1) (by omega) (.string vf.o)).setS (q := qb) (i := 2) (by omega) (.string vf.nm)).setS (q := qb) (i := 3) (by omega) (.slice vf.A vf.ll vf.cap)).setS (q := qb) (i := 4) (by omega) (.int .i64 vf.p))
                      have LK := Lib.hid lk5
                      clear lk lk5 hOf hMf hFf
                      go_wp2_with fail
                      refine calls_gen (P := fun W => CqR w1 W pb D qb r0.2 (qc kd vf (hd us1).pos) acc (.slice A1 acc.length cap1) ∧ FOT 32 W (fun j => wa.heap.size + 1 ≤ j ∧ j < wb.heap.size) r0.1 vf ∧ wb.heap.size ≤ W.heap.size) ⟨LK.out, HOf.out, by simp⟩ ?_
                      clear LK HOf d0 d1 d2 d3 d4 d5 z0 z1 z2 z3 z4 z5 hlp hlq
                      rintro WT ⟨lk, hO, hzW⟩
                      have hpl := lk.pl
                      have hqb := lk.lt
                      refine (rwant_any lk.m ⟨#[93]⟩).mono ?_
                      rintro e wc ⟨rfl, hFc, hDc⟩
                      have hzc := hFc.size
                      have HOc := Lib.hid (hO.fx (Fx.ofFr1 hFc) (fun j hj => x1_no (by omega)))
                      have LK := Lib.hid (lk.fx hDc (Fx.ofFr1 hFc))
                      clear lk hO hFc hDc
                      go_wp2_with fail
                      refine (rwant_any LK.out.m ⟨#[59]⟩).mono ?_
                      rintro e wA ⟨rfl, hFd, hDd⟩
                      have hzd := hFd.size
                      have HOA := Lib.hid ((HOc.out.fx (Fx.ofFr1 hFd) (fun j hj => x1_no (by omega))).wide (T := fun j => w1.heap.size ≤ j) (fun j _ hj => by omega))
                      have lk := LK.out.fx hDd (Fx.ofFr1 hFd)
                      obtain ⟨d0, d1, d2, d3, d4, d5⟩ := Bx.cells6 lk.q
                      have hlq := lk.q.lt
                      have hAz := lk.f.size
                      obtain ⟨ccs, hO, hLH⟩ := lk.row
                      have HO := Lib.hid hO
                      have HLH := Lib.hid hLH
                      have LK := Lib.hid lk
                      have HOB := Lib.hid (ownQ_kt hO (KtQ.below (E := EQ0) ((Below.refl wA.heap.size wA).alloc (Nat.le_refl _) (.cells #[.string kd, .string vf.o, .string vf.nm, .slice vf.A vf.ll vf.cap, .int .i64 vf.p, .int .i64 ((hd us1).pos : Int)] 55))) id)
                      clear lk hO hLH hFd hDd HOc
                      go_wp2_with (at_builtin; refine wpList_append_lies _ rfl _ _ 49 rfl w1.heap.size 55 i0 (.agg #[.string ⟨#[]⟩, .string ⟨#[]⟩, .string ⟨#[]⟩, .slice none 0 0, .int .i64 0, .int .i64 0]) 6 88 Tryz.underlying49 HI.out HZ0.out HZ1.out HZ2.out rfl (by decide) _ _ _ rfl HOB.out ⟨wA.heap.size, 0, none⟩ 1 1 [.string kd, .string vf.o, .string vf.nm, .slice vf.A vf.ll vf.cap, .int .i64 vf.p, .int .i64 ((hd us1).pos : Int)] rfl rfl ?c1 ?c2 (by omega) ?c3 ?c4 ?c5 (wA.heap.size + 1) (by simp) ?_)
                      case c1 => intro j u hj; exact (Bx.new wA 55 [.string kd, .string vf.o, .string vf.nm, .slice vf.A vf.ll vf.cap, .int .i64 vf.p, .int .i64 ((hd us1).pos : Int)]).cell_addQ hj
                      case c2 => intro u hu; simp only [List.mem_cons, List.not_mem_nil, or_false] at hu; rcases hu with rfl | rfl | rfl | rfl | rfl | rfl <;> rfl
                      case c3 => unfold maxLen; omega
                      case c4 => omega
                      case c5 => simp; omega
                      intro g2 cap2 w3 hown3 hgrow3 hat3 hlt3
                      have hqi := qst_in (l := l) (st := .good us1) HE1.out HE2.out
                      rw [← HS3.out, ← HR0.out] at hqi
                      have hkd : (⟨((St.good us1).qst l).1.kind.toArray⟩ : ByteArray) = kd := by rw [hqi.1]; exact HKN.out
                      have HR3 := Lib.hid (rq_step (vf := vf) (l := l) (st1 := .good us1) HP.out HTT.out HLEN.out HO.out HLH.out (by rw [hqi.2.2.1]; exact LK.out.m) LK.out.f hpl (by rw [hqi.2.1]; exact HOA.out) (by rw [hkd, hqi.2.2.2]; exact hown3) (by rw [hkd, hqi.2.2.2]; exact hgrow3))
                      clear hown3 hgrow3 hat3 hqi hkd
                      go_wp2
                      go_roundg ((St.good us1).qst l).2.len
                      case measure => exact HLT.out
                      case rel => exact HR3.out
                  | false =>
                    have HIT := Lib.hid (show isT (hd us2) (⟨#[61]⟩ : ByteArray).data.toList = false from hi)
                    have HIO := Lib.hid (show isT (hd us2) (⟨#[62]⟩ : ByteArray).data.toList = false from hj)
                    have HE2 := Lib.hid (show (St.good us2).bnd = ([], .bad 20 (hd us2).pos) by
                      unfold St.bnd
                      rw [if_neg (show ¬ isT (St.good us2).hd [61] = true by rw [show isT (St.good us2).hd [61] = false from hi]; simp), if_neg (show ¬ isT (St.good us2).hd [62] = true by rw [show isT (St.good us2).hd [62] = false from hj]; simp)]
                      rfl)
                    have HKN := Lib.hid (show (⟨(X1 ++ ([] : List UInt8)).toArray⟩ : ByteArray) = kb by rw [HKB.out, List.append_nil])
                    clear hi hj
                    obtain ⟨x3, hlp, hlq⟩ := LK.out.err
                    replace x3 : World.cell? _ ⟨pb, 3, none⟩ = some (.int .i64 0) := x3
                    go_wp2_with fail
                    refine (LK.out.is_ ⟨#[61]⟩ HIT.out).mono ?_
                    rintro e wi ⟨rfl, lk⟩
                    have LK := Lib.hid lk
                    clear lk x3 hlp hlq
                    obtain ⟨x3, hlp, hlq⟩ := LK.out.err
                    replace x3 : World.cell? _ ⟨pb, 3, none⟩ = some (.int .i64 0) := x3
                    go_wp2_with fail
                    refine (LK.out.is_ ⟨#[62]⟩ HIO.out).mono ?_
                    rintro e wi ⟨rfl, lk⟩
                    have LK := Lib.hid lk
                    clear lk x3 hlp hlq
                    go_wp2_with fail
                    refine (LK.out.fail_).mono ?_
                    rintro e wg ⟨rfl, lk⟩
                    unfold zeroE
                    have LK := Lib.hid (show CqR w1 wg pb D qb (.bad 20 (hd us2).pos) _ _ _ from lk)
                    clear lk
                    go_wp2_with fail
                    refine (LK.out.want_ ⟨#[91]⟩).mono ?_
                    rintro e wa ⟨rfl, lk⟩
                    obtain ⟨S3, hS3⟩ : ∃ s, s = ((St.bad 20 (hd us2).pos)).want [91] := ⟨_, rfl⟩
                    rw [show ((St.bad 20 (hd us2).pos)).want (⟨#[91]⟩ : ByteArray).data.toList = S3 from hS3.symm] at lk
                    obtain ⟨r0, hr0⟩ : ∃ r, r = formS (dq l) S3 := ⟨_, rfl⟩
                    have HD := Lib.hid (show Calls Tryz.prog 27 _ wa (DFP pb D (formS (dq l) S3) wa) from HC.out wa pb _ _ _ rfl rfl lk.m)
                    rw [← hr0] at HD
                    have HS3 := Lib.hid hS3
                    have HR0 := Lib.hid hr0
                    have LK := Lib.hid lk
                    clear lk hS3 hr0
                    go_wp2_with fail
                    refine (HD.out).mono ?_
                    rintro e wb ⟨vf, rfl, hOf, hMf, hFf⟩
                    have hzf := hFf.size
                    have hza := LK.out.f.size
                    have lk := LK.out.fx hMf hFf
                    obtain ⟨_, hlp, hlq⟩ := lk.err
                    have hlqa := LK.out.q.lt
                    obtain ⟨d0, d1, d2, d3, d4, d5⟩ := Bx.cells6 lk.q
                    obtain ⟨z0, z1, z2, z3, z4, z5⟩ := Bx.frozen6 lk.q
                    have hqb := lk.lt
                    have lk5 := (((lk.set HQB.out 1 (.string vf.o)).set HQB.out 2 (.string vf.nm)).set HQB.out 3 (.slice vf.A vf.ll vf.cap)).set HQB.out 4 (.int .i64 vf.p)
                    have HOf := Lib.hid (((((hOf.wide (T := fun j => wa.heap.size + 1 ≤ j ∧ j < wb.heap.size) (fun j _ hj => ⟨hj.1, hj.2⟩)).setS (q := qb) (i := 1) (by omega) (.string vf.o)).setS (q := qb) (i := 2) (by omega) (.string vf.nm)).setS (q := qb) (i := 3) (by omega) (.slice vf.A vf.ll vf.cap)).setS (q := qb) (i := 4) (by omega) (.int .i64 vf.p))
                    have LK := Lib.hid lk5
                    clear lk lk5 hOf hMf hFf
                    go_wp2_with fail
                    refine calls_gen (P := fun W => CqR w1 W pb D qb r0.2 (qc kb vf (hd us1).pos) acc (.slice A1 acc.length cap1) ∧ FOT 32 W (fun j => wa.heap.size + 1 ≤ j ∧ j < wb.heap.size) r0.1 vf ∧ wb.heap.size ≤ W.heap.size) ⟨LK.out, HOf.out, by simp⟩ ?_
                    clear LK HOf d0 d1 d2 d3 d4 d5 z0 z1 z2 z3 z4 z5 hlp hlq
                    rintro WT ⟨lk, hO, hzW⟩
                    have hpl := lk.pl
                    have hqb := lk.lt
                    refine (rwant_any lk.m ⟨#[93]⟩).mono ?_
                    rintro e wc ⟨rfl, hFc, hDc⟩
                    have hzc := hFc.size
                    have HOc := Lib.hid (hO.fx (Fx.ofFr1 hFc) (fun j hj => x1_no (by omega)))
                    have LK := Lib.hid (lk.fx hDc (Fx.ofFr1 hFc))
                    clear lk hO hFc hDc
                    go_wp2_with fail
                    refine (rwant_any LK.out.m ⟨#[59]⟩).mono ?_
                    rintro e wA ⟨rfl, hFd, hDd⟩
                    have hzd := hFd.size
                    have HOA := Lib.hid ((HOc.out.fx (Fx.ofFr1 hFd) (fun j hj => x1_no (by omega))).wide (T := fun j => w1.heap.size ≤ j) (fun j _ hj => by omega))
                    have lk := LK.out.fx hDd (Fx.ofFr1 hFd)
                    obtain ⟨d0, d1, d2, d3, d4, d5⟩ := Bx.cells6 lk.q
                    have hlq := lk.q.lt
                    have hAz := lk.f.size
                    obtain ⟨ccs, hO, hLH⟩ := lk.row
                    have HO := Lib.hid hO
                    have HLH := Lib.hid hLH
                    have LK := Lib.hid lk
                    have HOB := Lib.hid (ownQ_kt hO (KtQ.below (E := EQ0) ((Below.refl wA.heap.size wA).alloc (Nat.le_refl _) (.cells #[.string kb, .string vf.o, .string vf.nm, .slice vf.A vf.ll vf.cap, .int .i64 vf.p, .int .i64 ((hd us1).pos : Int)] 55))) id)
                    clear lk hO hLH hFd hDd HOc
                    go_wp2_with (at_builtin; refine wpList_append_lies _ rfl _ _ 49 rfl w1.heap.size 55 i0 (.agg #[.string ⟨#[]⟩, .string ⟨#[]⟩, .string ⟨#[]⟩, .slice none 0 0, .int .i64 0, .int .i64 0]) 6 88 Tryz.underlying49 HI.out HZ0.out HZ1.out HZ2.out rfl (by decide) _ _ _ rfl HOB.out ⟨wA.heap.size, 0, none⟩ 1 1 [.string kb, .string vf.o, .string vf.nm, .slice vf.A vf.ll vf.cap, .int .i64 vf.p, .int .i64 ((hd us1).pos : Int)] rfl rfl ?c1 ?c2 (by omega) ?c3 ?c4 ?c5 (wA.heap.size + 1) (by simp) ?_)
                    case c1 => intro j u hj; exact (Bx.new wA 55 [.string kb, .string vf.o, .string vf.nm, .slice vf.A vf.ll vf.cap, .int .i64 vf.p, .int .i64 ((hd us1).pos : Int)]).cell_addQ hj
                    case c2 => intro u hu; simp only [List.mem_cons, List.not_mem_nil, or_false] at hu; rcases hu with rfl | rfl | rfl | rfl | rfl | rfl <;> rfl
                    case c3 => unfold maxLen; omega
                    case c4 => omega
                    case c5 => simp; omega
                    intro g2 cap2 w3 hown3 hgrow3 hat3 hlt3
                    have hqi := qst_in (l := l) (st := .good us1) HE1.out HE2.out
                    rw [← HS3.out, ← HR0.out] at hqi
                    have hkd : (⟨((St.good us1).qst l).1.kind.toArray⟩ : ByteArray) = kb := by rw [hqi.1]; exact HKN.out
                    have HR3 := Lib.hid (rq_step (vf := vf) (l := l) (st1 := .good us1) HP.out HTT.out HLEN.out HO.out HLH.out (by rw [hqi.2.2.1]; exact LK.out.m) LK.out.f hpl (by rw [hqi.2.1]; exact HOA.out) (by rw [hkd, hqi.2.2.2]; exact hown3) (by rw [hkd, hqi.2.2.2]; exact hgrow3))
                    clear hown3 hgrow3 hat3 hqi hkd
                    go_wp2
                    go_roundg ((St.good us1).qst l).2.len
                    case measure => exact HLT.out
                    case rel => exact HR3.out
end
end Go.Proofs.YtjhicgllofjpoaaGreatDoor
