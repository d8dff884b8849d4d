/-
  Questions that a slice holds, one by one; what PropBack's two loops keep. PropBack, walked. PropBack, walked.
-/
import Derived.Test.YtjhicgllofjpoaaGreatDoorUB
import Derived.Test.YtjhicgllofjpoaaGreatDoorJD
import Derived.Test.YtjhicgllofjpoaaGreatDoorJE
import Derived.Deep.RegionHeld3
namespace Go.Proofs.YtjhicgllofjpoaaGreatDoor
section
open Go.RowKit Go.Sort

/-- A slice's cells read as questions. -/
def QK (w : World) (A : Option Addr) (L : List Qr) : Prop := ∀ i (h : i < L.length), ∃ (g : Nat) (v : FV), A = some ⟨g, 0, none⟩ ∧ g < w.heap.size ∧ w.cell? ⟨g, i * 6, none⟩ = some (.string ⟨L[i].kind.toArray⟩) ∧ w.cell? ⟨g, i * 6 + 1, none⟩ = some (.string v.o) ∧ w.cell? ⟨g, i * 6 + 2, none⟩ = some (.string v.nm) ∧ w.cell? ⟨g, i * 6 + 3, none⟩ = some (.slice v.A v.ll v.cap) ∧ w.cell? ⟨g, i * 6 + 4, none⟩ = some (.int .i64 v.p) ∧ w.cell? ⟨g, i * 6 + 5, none⟩ = some (.int .i64 (L[i].pos : Int)) ∧ FOS w (fun _ => True) L[i].f v
theorem lhq_get {w : World} {b : Nat} : ∀ {xs : List Qr} {cs : List Value}, LHQ (QH w b) xs cs → ∀ i (h : i < xs.length), ∃ c, QH w b xs[i] c ∧ ∀ j, j < 6 → cs[i * 6 + j]? = c[j]?
  | [], _, _, i, h => absurd h (by simp)
  | a :: xs, cs, ⟨c, r, hc, ha, hr⟩, i, h => by
    subst hc
    have hl : c.length = 6 := by obtain ⟨v, h1, _⟩ := ha; rw [h1]; rfl
    cases i with
    | zero => exact ⟨c, ha, fun j hj => by rw [Nat.zero_mul, Nat.zero_add, List.getElem?_append_left (by omega)]⟩
    | succ i =>
      obtain ⟨c', h1, h2⟩ := lhq_get hr i (by simpa using h)
      refine ⟨c', by simpa using h1, fun j hj => ?_⟩
      rw [← h2 j hj, List.getElem?_append_right (by omega)]
      congr 1
      omega
theorem RowQ.qk {w : World} {b : Nat} {L : List Qr} {A : Option Addr} {n cap : Nat} (h : RowQ w b L (.slice A n cap)) : QK w A L := by
  obtain ⟨cs, h1, h2⟩ := h
  intro i hi
  obtain ⟨c, ⟨v, rfl, hf⟩, hj⟩ := lhq_get h2 i hi
  rcases h1.2 with ⟨hv, hn⟩ | ⟨g, cap', cur, hv, _, hb, _⟩
  · omega
  · simp only [Value.slice.injEq] at hv
    obtain ⟨rfl, rfl, rfl⟩ := hv
    have hc : ∀ j u, j < 6 → (qc ⟨L[i].kind.toArray⟩ v L[i].pos)[j]? = some u → w.cell? ⟨g, i * 6 + j, none⟩ = some u := fun j u hj6 hu => by
      have h1' := h1.cells (g := g) rfl (i * 6 + j) u (by rw [hj j hj6]; exact hu)
      have e : ∀ m, (⟨g, 0, none⟩ : Addr).add m = ⟨g, m, none⟩ := fun m => by
        unfold Addr.add
        by_cases h0 : m = 0 <;> simp [h0]
      rw [e] at h1'
      exact h1'
    exact ⟨g, v, rfl, (Array.getElem?_eq_some_iff.1 hb).1, hc 0 _ (by omega) rfl, hc 1 _ (by omega) rfl, hc 2 _ (by omega) rfl, hc 3 _ (by omega) rfl, hc 4 _ (by omega) rfl, hc 5 _ (by omega) rfl, FOS.wide hf (fun _ _ _ => trivial)⟩
theorem QK.below {w w' : World} {A : Option Addr} {L : List Qr} (h : QK w A L) (hb : Below w.heap.size w w') : QK w' A L := by
  intro i hi
  obtain ⟨g, v, h1, h2, c0, c1, c2, c3, c4, c5, hf⟩ := h i hi
  exact ⟨g, v, h1, Nat.lt_of_lt_of_le h2 hb.size, (hb.cell (p := ⟨g, i * 6, none⟩) h2).trans c0, (hb.cell (p := ⟨g, i * 6 + 1, none⟩) h2).trans c1, (hb.cell (p := ⟨g, i * 6 + 2, none⟩) h2).trans c2, (hb.cell (p := ⟨g, i * 6 + 3, none⟩) h2).trans c3, (hb.cell (p := ⟨g, i * 6 + 4, none⟩) h2).trans c4, (hb.cell (p := ⟨g, i * 6 + 5, none⟩) h2).trans c5, hf.below hb⟩
/-- What is told of the first k. -/
def tolds (L : List Qr) (k : Nat) : List UInt8 := (L.take k).flatMap Qr.told
theorem tolds_len (L : List Qr) (k : Nat) : (tolds L k).length ≤ (L.flatMap Qr.told).length := by
  unfold tolds
  conv => rhs; rw [← List.take_append_drop k L, List.flatMap_append, List.length_append]
  omega
theorem tolds_all {L : List Qr} {k : Nat} (h : L.length ≤ k) : tolds L k = L.flatMap Qr.told := by unfold tolds; rw [List.take_of_length_le h]
theorem tolds_more {L : List Qr} {k : Nat} (h : k < L.length) {f : Fo} (hf : L[k].f = some f) : tolds L (k + 1) = tolds L k ++ tlQ L[k].kind f ++ [59, 10] := by
  unfold tolds
  rw [List.take_succ_eq_append_getElem h, List.flatMap_append, List.flatMap_cons, List.flatMap_nil, List.append_nil, Qr.told, hf]
  simp [tQ, tlQ]
theorem told_le {L : List Qr} {k : Nat} (h : k < L.length) {f : Fo} (hf : L[k].f = some f) : (tolds L k).length + (tlQ L[k].kind f).length + 2 ≤ (L.flatMap Qr.told).length := by
  have h1 := tolds_len L (k + 1)
  rw [tolds_more h hf] at h1
  simp only [List.length_append, List.length_cons, List.length_nil] at h1
  omega
theorem tlq_fo (k : List UInt8) (f : Fo) : (tlF f).length ≤ (tlQ k f).length ∧ k.length ≤ (tlQ k f).length := by
  unfold tlQ
  simp only [List.length_append, List.length_cons]
  omega
/-- What the first loop keeps. -/
def BkRel (L : List Qr) (A : Option Addr) (w : World) (t i : Value) (wr : World) : Prop := ∃ (k : Nat) (T : ByteArray), i = .int .i64 (k : Int) ∧ t = .string T ∧ T = ⟨(tolds L k).toArray⟩ ∧ k ≤ L.length ∧ Below w.heap.size w wr ∧ QK wr A L
/-- What the second loop keeps. -/
def CkRel (L M : List Qr) (A B : Option Addr) (w : World) (i : Value) (wr : World) : Prop := ∃ k : Nat, i = .int .i64 (k : Int) ∧ k ≤ L.length ∧ Below w.heap.size w wr ∧ QK wr A L ∧ QK wr B M
theorem text_more {T a : ByteArray} {x y : List UInt8} (h1 : T = ⟨x.toArray⟩) (h2 : a = ⟨y.toArray⟩) : T ++ a ++ (⟨#[59, 10]⟩ : ByteArray) = ⟨(x ++ y ++ [59, 10]).toArray⟩ := by
  subst h1 h2
  apply ByteArray.ext
  simp
end
section
open Go.RowKit Go.Sort

def ArgF (w : World) (e : Ending) (w' : World) : Prop := e = .returned (.tuple #[.agg #[.string ⟨#[]⟩, .string ⟨#[]⟩, .slice none 0 0, .int .i64 0], .iface 76 (.int .i64 1)]) ∧ Below w.heap.size w w'
set_option maxHeartbeats 1000000 in
theorem preadf_arg {s : ByteArray} {d : Int} (w : World) (hd : BadD d) : Calls Tryz.prog 24 #[.string s, .int .i64 d, .func (.func 25) #[] #[]] w (ArgF w) := by
  by_cases h : d < 1
  · have g1 : decide (d < 1) = true := decide_eq_true h
    clear hd h
    go_enter Tryz.func24, Tryz.ntmps24
    go_wp2
    refine bodyPost_ret (v := .tuple #[.agg #[.string ⟨#[]⟩, .string ⟨#[]⟩, .slice none 0 0, .int .i64 0], .iface 76 (.int .i64 1)]) (by simp [results, Tryz.results24, go_sem]) rfl ⟨rfl, ?_⟩
    exact ((Below.refl _ _).alloc (Nat.le_refl _) _).alloc (by simp) _
  · have h2 : 64 < d := by rcases hd with hd | hd; exact absurd hd h; exact hd
    have g1 : decide (d < 1) = false := decide_eq_false h
    have g2 : decide (64 < d) = true := decide_eq_true h2
    clear hd h h2
    go_enter Tryz.func24, Tryz.ntmps24
    go_wp2
    refine bodyPost_ret (v := .tuple #[.agg #[.string ⟨#[]⟩, .string ⟨#[]⟩, .slice none 0 0, .int .i64 0], .iface 76 (.int .i64 1)]) (by simp [results, Tryz.results24, go_sem]) rfl ⟨rfl, ?_⟩
    exact ((Below.refl _ _).alloc (Nat.le_refl _) _).alloc (by simp) _
set_option maxHeartbeats 1000000 in
theorem pparse_arg {s : ByteArray} {d : Int} (w : World) (hd : BadD d) : Calls Tryz.prog 7 #[.string s, .int .i64 d] w (ArgF w) := by
  have HH := Lib.hid (fun (W : World) => preadf_arg (s := s) W hd)
  clear hd
  go_enter Tryz.func7, Tryz.ntmps7
  go_wp2_with fail
  refine calls_gen (P := fun W => Bx W w.heap.size 25 zc4 ∧ Below w.heap.size w W) ⟨Bx.new w 25 zc4, (Below.refl _ _).alloc (Nat.le_refl _) _⟩ ?_
  rintro W ⟨hB, hF⟩
  refine (HH.out W).mono ?_
  rintro e w1 ⟨rfl, hb⟩
  have hB1 := hB.below hb
  obtain ⟨b0, b1, b2, b3⟩ := Bx.cells4 hB1
  obtain ⟨y0, y1, y2, y3⟩ := Bx.frozen4 hB1
  have hl1 := hB1.lt
  have HB1 := Lib.hid hB1
  have HF := Lib.hid (hF.trans (hb.mono hF.size))
  clear hB hF hb hB1
  go_wp2
  obtain ⟨d0, d1, d2, d3⟩ := (Bx.set4 (x0 := .string ⟨#[]⟩) (x1 := .string ⟨#[]⟩) (x2 := .slice none 0 0) (x3 := .int .i64 0) HB1.out).cells4
  refine bodyPost_ret (v := .tuple #[.agg #[.string ⟨#[]⟩, .string ⟨#[]⟩, .slice none 0 0, .int .i64 0], .iface 76 (.int .i64 1)]) (by simp [results, Tryz.results7, go_sem, d0, d1, d2, d3]) rfl ⟨rfl, ?_⟩
  exact below_set4 HF.out (Nat.le_refl _)
end
section
open Go.RowKit Go.Sort

/-- What the first test reads. -/
structure MemB (w W : World) (bE bX : Nat) (vE vX : FV) (e0 x0 : Fo) (SE SX : Nat → Prop) : Prop where
  e : At4 W bE 0 vE e0 SE
  x : At4 W bX 0 vX x0 SX
  b : Below w.heap.size w W
  ex : e0.bare = x0.bare
  ok : OkF x0
  ln : (tlF x0).length ≤ 1000000
  sh : tlF x0 = tlF e0
section
variable {w W W' : World} {bE bX : Nat} {vE vX : FV} {e0 x0 : Fo} {SE SX : Nat → Prop}
theorem MemB.below (m : MemB w W bE bX vE vX e0 x0 SE SX) (hb : Below W.heap.size W W') : MemB w W' bE bX vE vX e0 x0 SE SX := ⟨m.e.below hb, m.x.below hb, m.b.trans (hb.mono m.b.size), m.ex, m.ok, m.ln, m.sh⟩
def MemBP (w : World) (bE bX : Nat) (vE vX : FV) (e0 x0 : Fo) (SE SX : Nat → Prop) (v : Value) (e : Ending) (w' : World) : Prop := e = .returned v ∧ MemB w w' bE bX vE vX e0 x0 SE SX
theorem MemB.same1 (m : MemB w W bE bX vE vX e0 x0 SE SX) : Calls Tryz.prog 23 #[.agg #[.string vE.o, .string vE.nm, .slice vE.A vE.ll vE.cap, .int .i64 vE.p], .agg #[.string vX.o, .string vX.nm, .slice vX.A vX.ll vX.cap, .int .i64 vX.p]] W (MemBP w bE bX vE vX e0 x0 SE SX (.bool true)) :=
  (fsame_any e0 x0 W _ _ _ _ m.e.fs m.x.fs).mono fun _ _ ⟨h1, h2⟩ => ⟨by rw [h1, decide_eq_true m.ex], m.below h2⟩
theorem MemB.same2 (m : MemB w W bE bX vE vX e0 x0 SE SX) : Calls Tryz.prog 23 #[.agg #[.string vX.o, .string vX.nm, .slice vX.A vX.ll vX.cap, .int .i64 vX.p], .agg #[.string vE.o, .string vE.nm, .slice vE.A vE.ll vE.cap, .int .i64 vE.p]] W (MemBP w bE bX vE vX e0 x0 SE SX (.bool true)) :=
  (fsame_any x0 e0 W _ _ _ _ m.x.fs m.e.fs).mono fun _ _ ⟨h1, h2⟩ => ⟨by rw [h1, decide_eq_true m.ex.symm], m.below h2⟩
theorem MemB.print (m : MemB w W bE bX vE vX e0 x0 SE SX) : Calls Tryz.prog 13 #[.agg #[.string vX.o, .string vX.nm, .slice vX.A vX.ll vX.cap, .int .i64 vX.p]] W (MemBP w bE bX vE vX e0 x0 SE SX (.string ⟨(tlF e0).toArray⟩)) :=
  (fprint_any m.ok W m.x.fs m.ln).mono fun _ _ ⟨h1, h2⟩ => ⟨by rw [h1, m.sh], m.below h2⟩
theorem MemB.c (m : MemB w W bE bX vE vX e0 x0 SE SX) : bE < W.heap.size ∧ bX < W.heap.size ∧ W.cell? ⟨bE, 0, none⟩ = some (.string vE.o) ∧ W.cell? ⟨bE, 1, none⟩ = some (.string vE.nm) ∧ W.cell? ⟨bE, 2, none⟩ = some (.slice vE.A vE.ll vE.cap) ∧ W.cell? ⟨bE, 3, none⟩ = some (.int .i64 vE.p) ∧ W.cell? ⟨bX, 0, none⟩ = some (.string vX.o) ∧ W.cell? ⟨bX, 1, none⟩ = some (.string vX.nm) ∧ W.cell? ⟨bX, 2, none⟩ = some (.slice vX.A vX.ll vX.cap) ∧ W.cell? ⟨bX, 3, none⟩ = some (.int .i64 vX.p) := by
  obtain ⟨k1, e0, e1, e2, e3, _⟩ := m.e
  obtain ⟨k2, y0, y1, y2, y3, _⟩ := m.x
  simp only [Nat.zero_add] at e1 e2 e3 y1 y2 y3
  exact ⟨k1, k2, e0, e1, e2, e3, y0, y1, y2, y3⟩
end
/-- What the second loop's test reads. -/
structure MemC (w W : World) (A B : Option Addr) (L M : List Qr) (a b k : Nat) (va vb : FV) (kd : ByteArray) (f h : Fo) : Prop where
  k1 : QK W A L
  k2 : QK W B M
  bl : Below w.heap.size w W
  l1 : a < W.heap.size
  l2 : b < W.heap.size
  ka : W.cell? ⟨a, k * 6, none⟩ = some (.string kd)
  kb : W.cell? ⟨b, k * 6, none⟩ = some (.string kd)
  fa : At4 W a (k * 6 + 1) va f (fun _ => True)
  fb : At4 W b (k * 6 + 1) vb h (fun _ => True)
  eq : f.bare = h.bare
section
variable {w W W' : World} {A B : Option Addr} {L M : List Qr} {a b k : Nat} {va vb : FV} {kd : ByteArray} {f h : Fo}
theorem MemC.below (m : MemC w W A B L M a b k va vb kd f h) (hb : Below W.heap.size W W') : MemC w W' A B L M a b k va vb kd f h := ⟨m.k1.below hb, m.k2.below hb, m.bl.trans (hb.mono m.bl.size), Nat.lt_of_lt_of_le m.l1 hb.size, Nat.lt_of_lt_of_le m.l2 hb.size, (hb.cell (p := ⟨a, k * 6, none⟩) m.l1).trans m.ka, (hb.cell (p := ⟨b, k * 6, none⟩) m.l2).trans m.kb, m.fa.below hb, m.fb.below hb, m.eq⟩
theorem MemC.drew (m : MemC w W A B L M a b k va vb kd f h) : MemC w W.drew A B L M a b k va vb kd f h := m.below (Below.refl _ _).drew
def MemCP (w : World) (A B : Option Addr) (L M : List Qr) (a b k : Nat) (va vb : FV) (kd : ByteArray) (f h : Fo) (v : Value) (e : Ending) (w' : World) : Prop := e = .returned v ∧ MemC w w' A B L M a b k va vb kd f h
theorem MemC.same (m : MemC w W A B L M a b k va vb kd f h) : Calls Tryz.prog 23 #[.agg #[.string va.o, .string va.nm, .slice va.A va.ll va.cap, .int .i64 va.p], .agg #[.string vb.o, .string vb.nm, .slice vb.A vb.ll vb.cap, .int .i64 vb.p]] W (MemCP w A B L M a b k va vb kd f h (.bool true)) :=
  (fsame_any f h W _ _ _ _ m.fa.fs m.fb.fs).mono fun _ _ ⟨h1, h2⟩ => ⟨by rw [h1, decide_eq_true m.eq], m.below h2⟩
theorem MemC.S (m : MemC w W A B L M a b k va vb kd f h) : (fun w' : World => w'.cell? ⟨a, k * 6, none⟩ = some (.string kd) ∧ w'.cell? ⟨b, k * 6, none⟩ = some (.string kd) ∧ w'.cell? ⟨a, k * 6 + 1, none⟩ = some (.string va.o) ∧ w'.cell? ⟨a, k * 6 + 1 + 1, none⟩ = some (.string va.nm) ∧ w'.cell? ⟨a, k * 6 + 1 + 2, none⟩ = some (.slice va.A va.ll va.cap) ∧ w'.cell? ⟨a, k * 6 + 1 + 3, none⟩ = some (.int .i64 va.p) ∧ w'.cell? ⟨b, k * 6 + 1, none⟩ = some (.string vb.o) ∧ w'.cell? ⟨b, k * 6 + 1 + 1, none⟩ = some (.string vb.nm) ∧ w'.cell? ⟨b, k * 6 + 1 + 2, none⟩ = some (.slice vb.A vb.ll vb.cap) ∧ w'.cell? ⟨b, k * 6 + 1 + 3, none⟩ = some (.int .i64 vb.p)) W :=
  ⟨m.ka, m.kb, m.fa.2.1, m.fa.2.2.1, m.fa.2.2.2.1, m.fa.2.2.2.2.1, m.fb.2.1, m.fb.2.2.1, m.fb.2.2.2.1, m.fb.2.2.2.2.1⟩
end
theorem size_listF (s : ByteArray) : s.data.toList.length = s.size := by simp
theorem kdq_len {k : List UInt8} (h : kdQ k) : k.length = 6 := by
  obtain ⟨x, y, rfl, hx, hy⟩ := h
  rw [List.length_append]
  rcases hx with rfl | rfl <;> rcases hy with rfl | rfl <;> rfl
theorem told_many (l : Nat) : ∀ L : List Qr, (∀ q ∈ L, QOk l q) → L.length ≤ (L.flatMap Qr.told).length
  | [], _ => Nat.zero_le _
  | q :: L, h => by
    have ih := told_many l L (fun q hq => h q (List.mem_cons_of_mem _ hq))
    obtain ⟨f, hf, _⟩ := h q List.mem_cons_self
    have : 1 ≤ q.told.length := by unfold Qr.told; rw [hf]; simp
    rw [List.flatMap_cons, List.length_append, List.length_cons]
    omega
set_option maxHeartbeats 8000000 in
set_option maxRecDepth 100000 in
theorem back_long (s : ByteArray) (d : Int) (w : World) (hG : GlobS w) (h : 3000 < s.size) : Calls Tryz.prog 5 #[.string s, .int .i64 d] w (LawF w) := by
  have H0 := Lib.hid (palive_yes w hG)
  have g1 : decide (3000 < (s.size : Int)) = true := by simp; omega
  clear h hG
  go_enter Tryz.func5, Tryz.ntmps5
  go_wp2_with fail
  with_reducible refine (H0.out).mono ?_
  rintro e w1 ⟨rfl, hb1⟩
  have HB1 := Lib.hid hb1
  clear hb1
  go_wp2
  go_ret
  exact ⟨rfl, HB1.out⟩
set_option maxHeartbeats 8000000 in
set_option maxRecDepth 100000 in
theorem back_arg (s : ByteArray) (d : Int) (w : World) (hG : GlobS w) (hs : s.size ≤ 3000) (hd : BadD d) : Calls Tryz.prog 5 #[.string s, .int .i64 d] w (LawF w) := by
  have H0 := Lib.hid (palive_yes w hG)
  have g1 : decide (3000 < (s.size : Int)) = false := by simp; omega
  have HG := Lib.hid hG
  have H2 := Lib.hid (fun (W : World) => pparse_arg (s := s) W hd)
  have H3 := Lib.hid (fun (W : World) => pqueries_arg (s := s) W hd)
  clear hs hG hd
  go_enter Tryz.func5, Tryz.ntmps5
  go_wp2_with fail
  with_reducible refine (H0.out).mono ?_
  rintro e w1 ⟨rfl, hb1⟩
  have HB1 := Lib.hid hb1
  clear hb1
  go_wp2_with fail
  refine (H2.out _).mono ?_
  rintro e w2 ⟨rfl, hb2⟩
  have HB2 := Lib.hid (HB1.out.trans (hb2.mono HB1.out.size))
  clear hb2
  go_wp2_with fail
  refine (H3.out _).mono ?_
  rintro e w3 ⟨rfl, hb3⟩
  have HB3 := Lib.hid ((HB2.out.alloc HB2.out.size (.cells #[.string ⟨#[]⟩, .string ⟨#[]⟩, .slice none 0 0, .int .i64 0] 25)).trans (hb3.mono (by have := HB2.out.size; simp; omega)))
  clear hb3
  go_wp2
  go_ret
  exact ⟨rfl, HB3.out⟩
set_option maxHeartbeats 8000000 in
set_option maxRecDepth 100000 in
theorem back_ee (s : ByteArray) (D : Nat) (w : World) (hG : GlobS w) (hs : s.size ≤ 3000) (h1 : 1 ≤ D) (h64 : D ≤ 64) {c p : Nat} (hp : parseF D s.data.toList = .er c p) {cq pq : Nat} (hq : parseQs D s.data.toList = .er cq pq) : Calls Tryz.prog 5 #[.string s, .int .i64 (D : Int)] w (LawF w) := by
  have H0 := Lib.hid (palive_yes w hG)
  have g1 : decide (3000 < (s.size : Int)) = false := by simp; omega
  have HG := Lib.hid hG
  have H2 := Lib.hid (fun (W : World) (hW : GlobS W) => pparse_any (s := s) (D := D) W hW (by omega) h1 h64)
  rw [hp] at H2
  have H5 := Lib.hid (fun (W : World) (hW : GlobS W) => pqueries_any (s := s) (D := D) W hW (by omega) h1 h64)
  rw [hq] at H5
  clear hG hs h1 h64 hp hq
  go_enter Tryz.func5, Tryz.ntmps5
  go_wp2_with fail
  with_reducible refine (H0.out).mono ?_
  rintro e w1 ⟨rfl, hb1⟩
  have HB1 := Lib.hid hb1
  clear hb1
  go_wp2_with fail
  refine (H2.out _ (HG.out.below HB1.out)).mono ?_
  rintro e w2 ⟨b2, rfl, hA2, hb2⟩
  have HBz := Lib.hid ((HB1.out.trans (hb2.mono HB1.out.size)).alloc (HB1.out.trans (hb2.mono HB1.out.size)).size (.cells #[.string ⟨#[]⟩, .string ⟨#[]⟩, .slice none 0 0, .int .i64 0] 25))
  clear hb2 hA2
  go_wp2_with fail
  refine (H5.out _ (HG.out.below HBz.out)).mono ?_
  rintro e w5 ⟨b5, rfl, hA5, hb5⟩
  have HB5 := Lib.hid (HBz.out.trans (hb5.mono HBz.out.size))
  clear hb5 hA5
  go_wp2
  go_ret
  exact ⟨rfl, HB5.out⟩
set_option maxHeartbeats 8000000 in
set_option maxRecDepth 100000 in
theorem back_oe (s : ByteArray) (D : Nat) (w : World) (hG : GlobS w) (hs : s.size ≤ 3000) (h1 : 1 ≤ D) (h64 : D ≤ 64) {f0 : Fo} (hp : parseF D s.data.toList = .ok f0) {cq pq : Nat} (hq : parseQs D s.data.toList = .er cq pq) : Calls Tryz.prog 5 #[.string s, .int .i64 (D : Int)] w (LawF w) := by
  have H0 := Lib.hid (palive_yes w hG)
  have g1 : decide (3000 < (s.size : Int)) = false := by simp; omega
  have HG := Lib.hid hG
  have hsl : s.data.toList.length = s.size := by simp
  have hgood := parse_okf (by omega) hp
  have hdeep := parse_deepF hp
  obtain ⟨x0, hpx, hbx⟩ := parse_tlF hgood.1 hdeep.1 hdeep.2.1
  have hgx := parse_okf (by omega) hpx
  have hsx := tlf_same hbx
  have hln : (tlF f0).length ≤ 15000 := by omega
  have H2 := Lib.hid (fun (W : World) (hW : GlobS W) => pparse_any (s := s) (D := D) W hW (by omega) h1 h64)
  rw [hp] at H2
  obtain ⟨T, hT⟩ : ∃ T : ByteArray, T = ⟨(tlF f0).toArray⟩ := ⟨_, rfl⟩
  have hTL : T.data.toList = tlF f0 := by rw [hT]
  have H4 := Lib.hid (fun (W : World) (hW : GlobS W) => pparse_any (s := T) (D := D) W hW (by rw [← size_listF, hTL]; omega) h1 h64)
  rw [hTL, hpx] at H4
  have HPR := Lib.hid (fun (W : World) (b : Nat) (v : FV) (S : Nat → Prop) (hE : At4 W b 0 v f0 S) => fprint_any hgood.1 W hE.fs (by omega))
  rw [← hT] at HPR
  have HX := Lib.hid (show f0.bare = x0.bare ∧ OkF x0 ∧ (tlF x0).length ≤ 1000000 ∧ tlF x0 = tlF f0 from ⟨hbx.symm, hgx.1, by rw [hsx]; omega, hsx⟩)
  have HT := Lib.hid hT
  clear hp hpx hbx hgx hsx hgood hdeep hln hTL hT
  have H5 := Lib.hid (fun (W : World) (hW : GlobS W) => pqueries_any (s := s) (D := D) W hW (by omega) h1 h64)
  rw [hq] at H5
  clear hG hs h1 h64 hq
  go_enter Tryz.func5, Tryz.ntmps5
  go_wp2_with fail
  with_reducible refine (H0.out).mono ?_
  rintro e w1 ⟨rfl, hb1⟩
  have HB1 := Lib.hid hb1
  clear hb1
  go_wp2_with fail
  refine (H2.out _ (HG.out.below HB1.out)).mono ?_
  rintro e w3 ⟨v3, rfl, hC, hb3⟩
  have HB3 := Lib.hid (HB1.out.trans (hb3.mono HB1.out.size))
  have HC3 := Lib.hid (show FS w3 25 _ f0 v3.c from hC)
  clear hb3 hC
  go_wp2_with fail
  refine calls_gen (P := fun W => At4 W w3.heap.size 0 v3 f0 (fun j => j < w3.heap.size) ∧ Below w.heap.size w W) ⟨at4_new (HC3.out.wide (fun j _ hj => hj.2)), HB3.out.alloc HB3.out.size _⟩ ?_
  rintro W ⟨hE, hB⟩
  refine (HPR.out W _ _ _ hE).mono ?_
  rintro e w4 ⟨rfl, hb4⟩
  have HE4 := Lib.hid (hE.below hb4)
  have HB4 := Lib.hid (hB.trans (hb4.mono hB.size))
  clear hE hB hb4 HC3 HB3
  go_wp2_with fail
  refine (H4.out _ (HG.out.below HB4.out)).mono ?_
  rintro e w7 ⟨v7, rfl, hC, hb7⟩
  have HE7 := Lib.hid (HE4.out.below hb7)
  have HB7 := Lib.hid (HB4.out.trans (hb7.mono HB4.out.size))
  have HC7 := Lib.hid (show FS w7 25 _ x0 v7.c from hC)
  clear hb7 hC HE4 HB4
  have LK := Lib.hid (show MemB w (w7.alloc (.cells #[.string v7.o, .string v7.nm, .slice v7.A v7.ll v7.cap, .int .i64 v7.p] 25)) w3.heap.size w7.heap.size v3 v7 f0 x0 _ _ from ⟨HE7.out.alloc _, at4_new (HC7.out.wide (T := fun j => j < w7.heap.size) (fun j _ hj => hj.2)), HB7.out.alloc HB7.out.size _, HX.out.1, HX.out.2.1, HX.out.2.2.1, HX.out.2.2.2⟩)
  clear HE7 HB7 HC7
  obtain ⟨k1, k2, c0, c1, c2, c3, c4, c5, c6, c7⟩ := LK.out.c
  generalize hW : w7.alloc (.cells #[.string v7.o, .string v7.nm, .slice v7.A v7.ll v7.cap, .int .i64 v7.p] 25) = W at LK k1 k2 c0 c1 c2 c3 c4 c5 c6 c7
  have g5 : (T.toList == T.toList) = true := by simp
  have g6 : ((tlF f0) == T.toList) = true := by rw [HT.out, ByteArray.toList_eq]; simp
  go_wp2_with fail
  clear hW
  refine (LK.out.same1).mono ?_
  rintro e w8 ⟨rfl, lk⟩
  have LK := Lib.hid lk
  obtain ⟨k1, k2, c0, c1, c2, c3, c4, c5, c6, c7⟩ := lk.c
  clear lk
  go_wp2_with fail
  refine (LK.out.same2).mono ?_
  rintro e w9 ⟨rfl, lk⟩
  have LK := Lib.hid lk
  obtain ⟨k1, k2, c0, c1, c2, c3, c4, c5, c6, c7⟩ := lk.c
  clear lk
  go_wp2_with fail
  refine (LK.out.print).mono ?_
  rintro e w10 ⟨rfl, lk⟩
  have HBz := Lib.hid lk.b
  clear lk LK
  go_wp2_with fail
  refine (H5.out _ (HG.out.below HBz.out)).mono ?_
  rintro e w5 ⟨b5, rfl, hA5, hb5⟩
  have HB5 := Lib.hid (HBz.out.trans (hb5.mono HBz.out.size))
  clear hb5 hA5
  go_wp2
  go_ret
  exact ⟨rfl, HB5.out⟩
end
end Go.Proofs.YtjhicgllofjpoaaGreatDoor
