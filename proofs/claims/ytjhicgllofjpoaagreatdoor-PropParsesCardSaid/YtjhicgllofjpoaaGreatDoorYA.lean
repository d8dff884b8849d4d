/-
  The places of what questions ask; how long the document's shape of a formula is. Plain lists, nothing of the program. The document's questions that a slice holds, one by one; what PropAsks reads in a round.
-/
import Derived.Test.YtjhicgllofjpoaaGreatDoorZ5
import Derived.Test.YtjhicgllofjpoaaGreatDoorUA
import Derived.Test.YtjhicgllofjpoaaGreatDoorZ6
import Derived.Test.YtjhicgllofjpoaaGreatDoorZ7
import Derived.Test.YtjhicgllofjpoaaGreatDoorZD
import Derived.Test.YtjhicgllofjpoaaGreatDoorUC
namespace Go.Proofs.YtjhicgllofjpoaaGreatDoor
section
theorem parx_ge (b : Bool) (l : List UInt8) : l.length ≤ (parX b l).length := by
  unfold parX
  split
  · simp; omega
  · simp
theorem size_tlF : ∀ x : Fo, OkF x → x.size ≤ (tlF x).length
  | .leaf op nm p, h => by
    rcases h with ⟨rfl, _⟩ | ⟨rfl | rfl, rfl⟩
    · simp [tlF, Fo.size]
    · simp [tlF, Fo.size, opTrue, opLab]
    · simp [tlF, Fo.size, opFalse, opLab]
  | .un op a p, h => by
    have h1 := size_tlF a h.2
    have h2 := parx_ge (decide (pk a.op < pk op)) (tlF a)
    by_cases ho : op = [33]
    · subst ho
      simp only [tlF, Fo.size, List.length_append, List.length_cons, List.length_nil, if_pos]
      omega
    · simp only [tlF, Fo.size, if_neg ho, List.length_append, List.length_cons, List.length_nil]
      omega
  | .bin op a b p, h => by
    have h1 := size_tlF a h.2.1
    have h2 := size_tlF b h.2.2
    have h3 := parx_ge (decide (pk a.op < loP (pk op) 0)) (tlF a)
    have h4 := parx_ge (decide (pk b.op < loP (pk op) 1)) (tlF b)
    simp only [tlF, Fo.size, List.length_append, List.length_cons]
    omega
theorem shpF_tl {B : Nat} (hB : B < 9223372036854775808) : ∀ x : Fo, OkF x → PosF B x → (shpF x).length ≤ (tlF x).length + 40 * x.size
  | .leaf op nm p, h, hp => by
    have h1 := dgs_lenD (Nat.lt_of_le_of_lt (show p ≤ B from hp) hB)
    rcases h with ⟨rfl, _⟩ | ⟨rfl | rfl, rfl⟩
    all_goals
      simp only [shpF, shHF, tlF, Fo.op, Fo.nm, Fo.pos, Fo.size, List.length_append, List.length_cons, List.length_nil, opLab, opTrue, opFalse]
      simp
      omega
  | .un op a p, h, hp => by
    have h1 := dgs_lenD (Nat.lt_of_le_of_lt (show p ≤ B from hp.1) hB)
    have h2 := pk_short (x := op) (by have := h.1; omega)
    have h3 := shpF_tl hB a h.2 hp.2
    have h4 := parx_ge (decide (pk a.op < pk op)) (tlF a)
    have h5 : op.length + (tlF a).length ≤ (tlF (.un op a p)).length := by simp only [tlF, List.length_append]; omega
    simp only [shpF, shHF, Fo.op, Fo.nm, Fo.pos, Fo.size, List.length_append, List.length_cons, List.length_nil]
    omega
  | .bin op a b p, h, hp => by
    have h1 := dgs_lenD (Nat.lt_of_le_of_lt (show p ≤ B from hp.1) hB)
    have h2 := pk_short (x := op) (by have := h.1; omega)
    have h3 := shpF_tl hB a h.2.1 hp.2.1
    have h4 := shpF_tl hB b h.2.2 hp.2.2
    have h5 := parx_ge (decide (pk a.op < loP (pk op) 0)) (tlF a)
    have h6 := parx_ge (decide (pk b.op < loP (pk op) 1)) (tlF b)
    have h7 : op.length + (tlF a).length + (tlF b).length + 2 ≤ (tlF (.bin op a b p)).length := by simp only [tlF, List.length_append, List.length_cons]; omega
    simp only [shpF, shHF, Fo.op, Fo.nm, Fo.pos, Fo.size, List.length_append, List.length_cons, List.length_nil]
    omega
theorem tbs_digs {B : Nat} {x : List UInt8} {st : St} (h : TbS B st) : TbS B (st.digs x) := by
  unfold St.digs
  split
  · exact tbs_tl h
  · exact tbs_fail h
theorem tbs_bnd {B : Nat} {st : St} (h : TbS B st) : TbS B st.bnd.2 := by
  unfold St.bnd
  split
  · exact tbs_digs (tbs_tl h)
  · split
    · exact tbs_digs (tbs_tl h)
    · exact tbs_fail h
theorem tbs_extr {B : Nat} {st : St} (h : TbS B st) : TbS B st.extr.2 := by
  unfold St.extr
  split
  · exact tbs_tl h
  · split
    · exact tbs_tl h
    · exact tbs_fail h
/-- A question's places are at most B. -/
def QPos (B : Nat) (q : Qr) : Prop := ∀ f, q.f = some f → PosF B f
theorem qst_pos {B l : Nat} {st : St} (h : TbS B st) : TbS B (st.qst l).2 ∧ QPos B (st.qst l).1 := by
  have hp : PbF B (formS (dq l)) := (pbf_dq (B := B) (l + 1)).f
  have h1 := tbs_want (x := [91]) (tbs_bnd (tbs_extr h))
  refine ⟨?_, fun f hf => ?_⟩
  · rw [qst_two, body_two]
    exact tbs_want (tbs_want (hp.tb _ h1))
  · rw [qst_f, body_two] at hf
    exact hp.ok _ f h1 hf
theorem qsts_pos {B l : Nat} : ∀ (n : Nat) (st : St), st.len ≤ n → TbS B st → ∀ q ∈ (st.qsts l).1, QPos B q := by
  intro n
  induction n with
  | zero =>
    intro st hn hT q hq
    have hp : qMore st.hd = false := by
      cases hp : qMore st.hd with
      | false => rfl
      | true => have := extr_lt (qmore_kind hp); omega
    have e : st.qsts l = ([], st) := list_end hp
    rw [e] at hq
    exact absurd hq (by simp)
  | succ n ih =>
    intro st hn hT q hq
    cases hp : qMore st.hd with
    | false =>
      have e : st.qsts l = ([], st) := list_end hp
      rw [e] at hq
      exact absurd hq (by simp)
    | true =>
      have e : st.qsts l = ((st.qst l).1 :: ((st.qst l).2.qsts l).1, ((st.qst l).2.qsts l).2) := list_go (qst_dec l) hp
      rw [e] at hq
      have hd1 : (st.qst l).2.len < st.len := (qst_dec l st hp).1
      obtain ⟨h1, h2⟩ := qst_pos (l := l) hT
      rcases List.mem_cons.1 hq with rfl | hq
      · exact h2
      · exact ih _ (by omega) h1 q hq
theorem parse_qpos {D : Nat} {l : List UInt8} {L : List Qr} (h : parseQs D l = .ok L) : ∀ q ∈ L, QPos l.length q := by
  unfold parseQs at h
  cases ht : toks l with
  | error x => rw [ht] at h; cases h
  | ok ts =>
    rw [ht] at h
    simp only at h
    cases hr : St.qsts (D - 1) (.good ts) with
    | mk L' st =>
      rw [hr] at h
      cases st with
      | bad c p => cases h
      | good r =>
        injection h with h
        subst h
        have := qsts_pos (B := l.length) (l := D - 1) _ (.good ts) (Nat.le_refl _) (fun t ht' => tb_good (good_toks ht) t ht')
        rw [hr] at this
        exact this
end
section
open Go.RowKit Go.Sort

/-- A slice's cells read as the document's questions. -/
def QKR (w : World) (A : Option Addr) (L : List Qr) : Prop := ∀ i (h : i < L.length), ∃ (g : Nat) (v : FV), A = some ⟨g, 0, none⟩ ∧ g < w.heap.size ∧ w.cell? ⟨g, i * 6, none⟩ = some (.string ⟨L[i].kind.toArray⟩) ∧ w.cell? ⟨g, i * 6 + 1, none⟩ = some (.string v.o) ∧ w.cell? ⟨g, i * 6 + 2, none⟩ = some (.string v.nm) ∧ w.cell? ⟨g, i * 6 + 3, none⟩ = some (.slice v.A v.ll v.cap) ∧ w.cell? ⟨g, i * 6 + 4, none⟩ = some (.int .i64 v.p) ∧ w.cell? ⟨g, i * 6 + 5, none⟩ = some (.int .i64 (L[i].pos : Int)) ∧ FOT 32 w (fun _ => True) L[i].f v
theorem lhq_getR {w : World} {b : Nat} : ∀ {xs : List Qr} {cs : List Value}, LHQ (QHR w b) xs cs → ∀ i (h : i < xs.length), ∃ c, QHR w b xs[i] c ∧ ∀ j, j < 6 → cs[i * 6 + j]? = c[j]?
  | [], _, _, i, h => absurd h (by simp)
  | a :: xs, cs, ⟨c, r, hc, ha, hr⟩, i, h => by
    subst hc
    have hl : c.length = 6 := by obtain ⟨v, h1, _⟩ := ha; rw [h1]; rfl
    cases i with
    | zero => exact ⟨c, ha, fun j hj => by rw [Nat.zero_mul, Nat.zero_add, List.getElem?_append_left (by omega)]⟩
    | succ i =>
      obtain ⟨c', h1, h2⟩ := lhq_getR hr i (by simpa using h)
      refine ⟨c', by simpa using h1, fun j hj => ?_⟩
      rw [← h2 j hj, List.getElem?_append_right (by omega)]
      congr 1
      omega
theorem RowR.qk {w : World} {b : Nat} {L : List Qr} {A : Option Addr} {n cap : Nat} (h : RowR w b L (.slice A n cap)) : QKR w A L := by
  obtain ⟨cs, h1, h2⟩ := h
  intro i hi
  obtain ⟨c, ⟨v, rfl, hf⟩, hj⟩ := lhq_getR h2 i hi
  rcases h1.2 with ⟨hv, hn⟩ | ⟨g, cap', cur, hv, _, hb, _⟩
  · omega
  · simp only [Value.slice.injEq] at hv
    obtain ⟨rfl, rfl, rfl⟩ := hv
    have hc : ∀ j u, j < 6 → (qc ⟨L[i].kind.toArray⟩ v L[i].pos)[j]? = some u → w.cell? ⟨g, i * 6 + j, none⟩ = some u := fun j u hj6 hu => by
      have h1' := h1.cells (g := g) rfl (i * 6 + j) u (by rw [hj j hj6]; exact hu)
      have e : ∀ m, (⟨g, 0, none⟩ : Addr).add m = ⟨g, m, none⟩ := fun m => by
        unfold Addr.add
        by_cases h0 : m = 0 <;> simp [h0]
      rw [e] at h1'
      exact h1'
    exact ⟨g, v, rfl, (Array.getElem?_eq_some_iff.1 hb).1, hc 0 _ (by omega) rfl, hc 1 _ (by omega) rfl, hc 2 _ (by omega) rfl, hc 3 _ (by omega) rfl, hc 4 _ (by omega) rfl, hc 5 _ (by omega) rfl, FOT.wide hf (fun _ _ _ => trivial)⟩
theorem QKR.below {w w' : World} {A : Option Addr} {L : List Qr} (h : QKR w A L) (hb : Below w.heap.size w w') : QKR w' A L := by
  intro i hi
  obtain ⟨g, v, h1, h2, c0, c1, c2, c3, c4, c5, hf⟩ := h i hi
  exact ⟨g, v, h1, Nat.lt_of_lt_of_le h2 hb.size, (hb.cell (p := ⟨g, i * 6, none⟩) h2).trans c0, (hb.cell (p := ⟨g, i * 6 + 1, none⟩) h2).trans c1, (hb.cell (p := ⟨g, i * 6 + 2, none⟩) h2).trans c2, (hb.cell (p := ⟨g, i * 6 + 3, none⟩) h2).trans c3, (hb.cell (p := ⟨g, i * 6 + 4, none⟩) h2).trans c4, (hb.cell (p := ⟨g, i * 6 + 5, none⟩) h2).trans c5, hf.below hb⟩
/-- What the loop keeps. -/
def AkRel (L : List Qr) (A B : Option Addr) (w : World) (i : Value) (wr : World) : Prop := ∃ k : Nat, i = .int .i64 (k : Int) ∧ k ≤ L.length ∧ Below w.heap.size w wr ∧ QK wr A L ∧ QKR wr B L
/-- .. where there is none. -/
def AkNil (w : World) (i : Value) (wr : World) : Prop := i = .int .i64 0 ∧ Below w.heap.size w wr
/-- What holds of a question's formula. -/
structure FxQ (f : Fo) : Prop where
  ok : OkF f
  pb : ∃ B, B < 9223372036854775808 ∧ PosF B f
  ln : (tlF f).length ≤ 15000
  sl : (shpF f).length ≤ 1000000
/-- What a round reads. -/
structure MemQ (w W : World) (A B : Option Addr) (L : List Qr) (a b k : Nat) (va vb : FV) (kd : ByteArray) (q : Int) (f : Fo) : Prop where
  k1 : QK W A L
  k2 : QKR W B L
  bl : Below w.heap.size w W
  l1 : a < W.heap.size
  l2 : b < W.heap.size
  ka : W.cell? ⟨a, k * 6, none⟩ = some (.string kd)
  kb : W.cell? ⟨b, k * 6, none⟩ = some (.string kd)
  pa : W.cell? ⟨a, k * 6 + 5, none⟩ = some (.int .i64 q)
  pb : W.cell? ⟨b, k * 6 + 5, none⟩ = some (.int .i64 q)
  fa : At4 W a (k * 6 + 1) va f (fun _ => True)
  b1 : W.cell? ⟨b, k * 6 + 1, none⟩ = some (.string vb.o)
  b2 : W.cell? ⟨b, k * 6 + 2, none⟩ = some (.string vb.nm)
  b3 : W.cell? ⟨b, k * 6 + 3, none⟩ = some (.slice vb.A vb.ll vb.cap)
  b4 : W.cell? ⟨b, k * 6 + 4, none⟩ = some (.int .i64 vb.p)
  fb : FS W 32 (fun _ => True) f vb.c
section
variable {w W W' : World} {A B : Option Addr} {L : List Qr} {a b k : Nat} {va vb : FV} {kd : ByteArray} {q : Int} {f : Fo}
theorem MemQ.below (m : MemQ w W A B L a b k va vb kd q f) (hb : Below W.heap.size W W') : MemQ w W' A B L a b k va vb kd q f :=
  ⟨m.k1.below hb, m.k2.below hb, m.bl.trans (hb.mono m.bl.size), Nat.lt_of_lt_of_le m.l1 hb.size, Nat.lt_of_lt_of_le m.l2 hb.size, (hb.cell (p := ⟨a, k * 6, none⟩) m.l1).trans m.ka, (hb.cell (p := ⟨b, k * 6, none⟩) m.l2).trans m.kb, (hb.cell (p := ⟨a, k * 6 + 5, none⟩) m.l1).trans m.pa, (hb.cell (p := ⟨b, k * 6 + 5, none⟩) m.l2).trans m.pb, m.fa.below hb, (hb.cell (p := ⟨b, k * 6 + 1, none⟩) m.l2).trans m.b1, (hb.cell (p := ⟨b, k * 6 + 2, none⟩) m.l2).trans m.b2, (hb.cell (p := ⟨b, k * 6 + 3, none⟩) m.l2).trans m.b3, (hb.cell (p := ⟨b, k * 6 + 4, none⟩) m.l2).trans m.b4, m.fb.below hb⟩
theorem MemQ.drew (m : MemQ w W A B L a b k va vb kd q f) : MemQ w W.drew A B L a b k va vb kd q f := m.below (Below.refl _ _).drew
def MemQP (w : World) (A B : Option Addr) (L : List Qr) (a b k : Nat) (va vb : FV) (kd : ByteArray) (q : Int) (f : Fo) (v : Value) (e : Ending) (w' : World) : Prop := e = .returned v ∧ MemQ w w' A B L a b k va vb kd q f
def ToQ (w : World) (A B : Option Addr) (L : List Qr) (a b k : Nat) (va vb : FV) (kd : ByteArray) (q : Int) (f : Fo) (e : Ending) (w' : World) : Prop := ∃ v : FV, e = .returned (.agg #[.string v.o, .string v.nm, .slice v.A v.ll v.cap, .int .i64 v.p]) ∧ FS w' 32 (fun j => j < w'.heap.size) f v.c ∧ MemQ w w' A B L a b k va vb kd q f
theorem MemQ.to (m : MemQ w W A B L a b k va vb kd q f) : Calls Tryz.prog 12 #[.agg #[.string va.o, .string va.nm, .slice va.A va.ll va.cap, .int .i64 va.p]] W (ToQ w A B L a b k va vb kd q f) :=
  (pto_any f W _ _ m.fa.fs).mono fun _ _ ⟨v, h1, hC, h2⟩ => ⟨v, h1, hC.wide (fun _ _ hj => hj.2), m.below h2⟩
theorem MemQ.shape (m : MemQ w W A B L a b k va vb kd q f) (F : FxQ f) {Z : Nat → Prop} {v : FV} (hH : FS W 32 Z f v.c) {t : ByteArray} (ht : t.data.toList = shpF f) : Calls Tryz.prog 11 #[.agg #[.string v.o, .string v.nm, .slice v.A v.ll v.cap, .int .i64 v.p]] W (MemQP w A B L a b k va vb kd q f (.string t)) := by
  obtain ⟨B', hB, hp⟩ := F.pb
  exact (rfshape_any hB f hp W Z _ hH F.sl).mono fun _ _ ⟨h1, h2⟩ => ⟨by rw [h1, strV_eq ht], m.below h2⟩
theorem MemQ.rprint (m : MemQ w W A B L a b k va vb kd q f) (F : FxQ f) {t : ByteArray} (ht : t.data.toList = tlF f) : Calls Tryz.prog 14 #[.agg #[.string vb.o, .string vb.nm, .slice vb.A vb.ll vb.cap, .int .i64 vb.p]] W (MemQP w A B L a b k va vb kd q f (.string t)) :=
  (rfprint_any f F.ok W _ _ m.fb (by have := F.ln; omega)).mono fun _ _ ⟨h1, h2⟩ => ⟨by rw [h1, strV_eq ht], m.below h2⟩
theorem MemQ.ask (m : MemQ w W A B L a b k va vb kd q f) (F : FxQ f) {t : ByteArray} (ht : t.data.toList = tlF f) (hk : kd.size ≤ 100) : Calls Tryz.prog 22 #[.agg #[.string kd, .string va.o, .string va.nm, .slice va.A va.ll va.cap, .int .i64 va.p, .int .i64 q]] W (MemQP w A B L a b k va vb kd q f (.string (kd ++ (⟨#[32, 91, 32]⟩ : ByteArray) ++ t ++ (⟨#[32, 93]⟩ : ByteArray)))) :=
  (pask_any (k := kd) (q := q) F.ok W m.fa.fs (by have := F.ln; omega) hk).mono fun _ _ ⟨h1, h2⟩ => ⟨by
    have e : t = ⟨(tlF f).toArray⟩ := by rw [← ht]
    rw [h1, e, ask_text], m.below h2⟩
theorem MemQ.S (m : MemQ w W A B L a b k va vb kd q f) : (fun w' : World => w'.cell? ⟨a, k * 6, none⟩ = some (.string kd) ∧ w'.cell? ⟨b, k * 6, none⟩ = some (.string kd) ∧ w'.cell? ⟨a, k * 6 + 5, none⟩ = some (.int .i64 q) ∧ w'.cell? ⟨b, k * 6 + 5, none⟩ = some (.int .i64 q) ∧ w'.cell? ⟨a, k * 6 + 1, none⟩ = some (.string va.o) ∧ w'.cell? ⟨a, k * 6 + 1 + 1, none⟩ = some (.string va.nm) ∧ w'.cell? ⟨a, k * 6 + 1 + 2, none⟩ = some (.slice va.A va.ll va.cap) ∧ w'.cell? ⟨a, k * 6 + 1 + 3, none⟩ = some (.int .i64 va.p) ∧ w'.cell? ⟨a, k * 6 + 2, none⟩ = some (.string va.nm) ∧ w'.cell? ⟨a, k * 6 + 3, none⟩ = some (.slice va.A va.ll va.cap) ∧ w'.cell? ⟨a, k * 6 + 4, none⟩ = some (.int .i64 va.p) ∧ w'.cell? ⟨b, k * 6 + 1, none⟩ = some (.string vb.o) ∧ w'.cell? ⟨b, k * 6 + 1 + 1, none⟩ = some (.string vb.nm) ∧ w'.cell? ⟨b, k * 6 + 1 + 2, none⟩ = some (.slice vb.A vb.ll vb.cap) ∧ w'.cell? ⟨b, k * 6 + 1 + 3, none⟩ = some (.int .i64 vb.p)) W :=
  ⟨m.ka, m.kb, m.pa, m.pb, m.fa.2.1, m.fa.2.2.1, m.fa.2.2.2.1, m.fa.2.2.2.2.1, m.fa.2.2.1, m.fa.2.2.2.1, m.fa.2.2.2.2.1, m.b1, m.b2, m.b3, m.b4⟩
end
end
end Go.Proofs.YtjhicgllofjpoaaGreatDoor
