/-
  The program's expression as the document's: walked.
-/
import Derived.Test.YtddeplbgihcdkaaGreatDoorXC
import Derived.Deep.RegionLaw
import Derived.Deep.AppendLies
namespace Go.Proofs.YtddeplbgihcdkaaGreatDoor
open Go.RowKit Go.Sort

/-- Expressions one behind the other. -/
def KL (w : World) (e : TypeId) (S : Nat → Prop) : List Ex → List Value → Prop
  | [], cs => cs = []
  | x :: r, cs => ∃ c c', cs = c ++ c' ∧ HS w e S x c ∧ KL w e S r c'
section
variable {w w' : World} {e : TypeId} {S T : Nat → Prop}
theorem KL.snoc : ∀ {r : List Ex} {cs : List Value} {x : Ex} {c : List Value}, KL w e S r cs → HS w e S x c → KL w e S (r ++ [x]) (cs ++ c)
  | [], _, x, c, h, hx => by rw [show _ = [] from h]; exact ⟨c, [], by simp, hx, rfl⟩
  | _ :: _, _, _, _, ⟨c0, c', h1, h2, h3⟩, hx => ⟨c0, c' ++ _, by rw [h1, List.append_assoc], h2, h3.snoc hx⟩
theorem KL.keep (hk : ∀ k, S k → k < w.heap.size → w'.heap[k]? = w.heap[k]?) : ∀ {r : List Ex} {cs : List Value}, KL w e S r cs → KL w' e S r cs
  | [], _, h => h
  | _ :: _, _, ⟨c0, c', h1, h2, h3⟩ => ⟨c0, c', h1, h2.keep hk, h3.keep hk⟩
theorem KL.wide (hb : ∀ k, k < w.heap.size → S k → T k) : ∀ {r : List Ex} {cs : List Value}, KL w e S r cs → KL w e T r cs
  | [], _, h => h
  | _ :: _, _, ⟨c0, c', h1, h2, h3⟩ => ⟨c0, c', h1, h2.wide hb, h3.wide hb⟩
theorem KL.len : ∀ {r : List Ex} {cs : List Value}, KL w e S r cs → cs.length = r.length * 5
  | [], _, h => by rw [show _ = [] from h]; rfl
  | _ :: _, _, ⟨c0, c', h1, h2, h3⟩ => by rw [h1, List.length_append, h2.len5, h3.len, List.length_cons]; omega
/-- Its kids' row lies in a block of its own. -/
def KO (lo : Nat) (v : Value) (j : Nat) : Prop := lo ≤ j ∧ some j ≠ v.ownBlock
theorem one_exC {o nm : ByteArray} {n : Int} {A : Option Addr} {l cap : Nat} {p : Int} : ∀ u ∈ exC o nm n A l cap p, u.oneCell' = true := by
  intro u hu
  simp only [exC, List.mem_cons, List.not_mem_nil, or_false] at hu
  rcases hu with rfl | rfl | rfl | rfl | rfl <;> rfl
theorem arr_of {lo g n cap : Nat} {cs : List Value} (h : w.ownsRow lo e 5 (.slice (some ⟨g, 0, none⟩) n cap) n cs) : Arr w e (fun j => lo ≤ j) g cs := by
  rcases h.2 with ⟨hx, _⟩ | ⟨g', cp, cur, hx, h1, h2, _⟩
  · cases hx
  · have : g' = g := by
      injection hx with hx
      injection hx with hx
      injection hx with hx
      exact hx.symm
    subst this
    refine ⟨h1, cur, h2, fun j u hu => ?_⟩
    have := h.cells (g := g') rfl j u hu
    have e2 : (⟨g', 0, none⟩ : Addr).add j = ⟨g', j, none⟩ := by
      unfold Addr.add
      by_cases hj : j = 0 <;> simp [hj]
    rw [e2, rd_cell h2] at this
    exact this
theorem HS.mk : ∀ {x : Ex} {lo : Nat} {A : Option Addr} {n cap : Nat} {cs : List Value}, n = x.kids.length → (n = 0 → A = none ∧ cap = 0) → w.ownsRow lo e 5 (.slice A n cap) n cs → KL w e (fun j => lo ≤ j) x.kids cs → HS w e (fun j => lo ≤ j) x (exC ⟨x.op.toArray⟩ ⟨x.nm.toArray⟩ (x.num : Int) A n cap (x.pos : Int))
  | .leaf op nm m p, lo, A, n, cap, cs, hn, h0, _, _ => by
    obtain ⟨rfl, rfl⟩ := h0 hn
    have : n = 0 := hn
    subst this
    rfl
  | .un op a p, lo, A, n, cap, cs, hn, h0, ho, ⟨c, c', h1, h2, h3⟩ => by
    have hn : n = 1 := hn
    subst hn
    obtain ⟨g, cap', hv⟩ := owns_form ho (by omega)
    injection hv with hA
    subst hA
    have hr := arr_of ho
    rw [h1, show c' = [] from h3, List.append_nil] at hr
    exact ⟨g, cap, c, rfl, hr, h2⟩
  | .bin op a b p, lo, A, n, cap, cs, hn, h0, ho, ⟨c, c', h1, h2, c2, c3, h3, h4, h5⟩ => by
    have hn : n = 2 := hn
    subst hn
    obtain ⟨g, cap', hv⟩ := owns_form ho (by omega)
    injection hv with hA
    subst hA
    have hr := arr_of ho
    rw [h1, h3, show c3 = [] from h5, List.append_nil] at hr
    exact ⟨g, cap, c, c2, rfl, hr, h2, h4⟩
  | .cond a b d p, lo, A, n, cap, cs, hn, h0, ho, ⟨c, c', h1, h2, c2, c3, h3, h4, c4, c5, h5, h6, h7⟩ => by
    have hn : n = 3 := hn
    subst hn
    obtain ⟨g, cap', hv⟩ := owns_form ho (by omega)
    injection hv with hA
    subst hA
    have hr := arr_of ho
    rw [h1, h3, h5, show c5 = [] from h7, List.append_nil] at hr
    exact ⟨g, cap, c, c2, c4, rfl, hr, h2, h4, h6⟩
end
theorem heap_oldT {w : World} {k : Nat} {o : Obj} (h : w.heap[k]? = some o) (o' : Obj) : (w.alloc o').heap[k]? = some o := (Below.heap_alloc w o' k (blk_lt h)).trans h
theorem infoR : (Tryz.prog.info? 70).map (fun i => (i.zero, i.size, i.bytes)) = some (some (.agg #[.string ⟨#[]⟩, .string ⟨#[]⟩, .int .i64 0, .slice none 0 0, .int .i64 0]), 5, 72) := by kernel_rfl
theorem own_ne2 {w : World} {lo k : Nat} {e : TypeId} {sz n : Nat} {v : Value} {cs : List Value} (h : w.ownsRow lo e sz v n cs) (hk : k < lo) : some k ≠ v.ownBlock := by
  intro e1
  have := (h.lt k e1.symm).1
  omega
/-- What To leaves. -/
def ToP (x : Ex) (w : World) (e : Ending) (w' : World) : Prop := ∃ o nm n A l cap p, e = .returned (.agg #[.string o, .string nm, .int .i64 n, .slice A l cap, .int .i64 p]) ∧ HC w' 70 w.heap.size w'.heap.size x (exC o nm n A l cap p) ∧ Below w.heap.size w w'
def ToC (x : Ex) : Prop := ∀ (w : World) (S : Nat → Prop) (c : List Value), HS w 62 S x c → Calls Tryz.prog 37 #[.agg c.toArray] w (ToP x w)
def BoxR (w : World) (b : Nat) (c0 c1 c2 c3 c4 : Value) : Prop := w.heap[b]? = some (.cells #[c0, c1, c2, c3, c4] 70 (0, 0))
section
variable {w w' : World} {b : Nat} {c0 c1 c2 c3 c4 : Value}
theorem BoxR.lt (h : BoxR w b c0 c1 c2 c3 c4) : b < w.heap.size := blk_lt h
theorem BoxR.below (h : BoxR w b c0 c1 c2 c3 c4) (hb : Below w.heap.size w w') : BoxR w' b c0 c1 c2 c3 c4 := (hb.block b h.lt).trans h
theorem BoxR.cells (h : BoxR w b c0 c1 c2 c3 c4) : w.cell? ⟨b, 0, none⟩ = some c0 ∧ w.cell? ⟨b, 1, none⟩ = some c1 ∧ w.cell? ⟨b, 2, none⟩ = some c2 ∧ w.cell? ⟨b, 3, none⟩ = some c3 ∧ w.cell? ⟨b, 4, none⟩ = some c4 :=
  ⟨(rd_cell h 0).trans rfl, (rd_cell h 1).trans rfl, (rd_cell h 2).trans rfl, (rd_cell h 3).trans rfl, (rd_cell h 4).trans rfl⟩
theorem BoxR.frozen (h : BoxR w b c0 c1 c2 c3 c4) (i : Nat) : w.frozen? ⟨b, i, none⟩ = false := rd_frozen h i
theorem BoxR.set3 (h : BoxR w b c0 c1 c2 c3 c4) (u : Value) : BoxR (w.setCell ⟨b, 3, none⟩ u) b c0 c1 c2 u c4 := by
  have := blk_set (i := 3) h u; simpa [BoxR] using this
theorem BoxR.set5 (h : BoxR w b c0 c1 c2 c3 c4) (x0 x1 x2 x3 x4 : Value) : BoxR (((((w.setCell ⟨b, 0, none⟩ x0).setCell ⟨b, 1, none⟩ x1).setCell ⟨b, 2, none⟩ x2).setCell ⟨b, 3, none⟩ x3).setCell ⟨b, 4, none⟩ x4) b x0 x1 x2 x3 x4 := by
  have h0 := blk_set (i := 0) h x0
  have h1 := blk_set (i := 1) h0 x1
  have h2 := blk_set (i := 2) h1 x2
  have h3 := blk_set (i := 3) h2 x3
  have h4 := blk_set (i := 4) h3 x4
  simpa [BoxR] using h4
end
/-- What the rounds over the kids keep. -/
def ToRel (x : Ex) (S : Nat → Prop) (w : World) (A0 : Option Addr) (N cap0 : Nat) (o nm : ByteArray) (m p : Int) (i : Value) (wr : World) : Prop :=
  ∃ (k : Nat) (A : Option Addr) (cap : Nat) (cs : List Value), i = .int .i64 (k : Int) ∧ k ≤ N ∧ (k = 0 → A = none ∧ cap = 0) ∧ BoxR wr (w.heap.size + 1 + 1) (.string o) (.string nm) (.int .i64 m) (.slice A k cap) (.int .i64 p) ∧
    wr.ownsRow (w.heap.size + 1 + 1 + 1) 70 5 (.slice A k cap) k cs ∧ KL wr 70 (KO (w.heap.size + 1 + 1 + 1) (.slice A k cap)) (x.kids.take k) cs ∧
    Box wr w.heap.size (.string o) (.string nm) (.int .i64 m) (.slice A0 N cap0) (.int .i64 p) ∧ BoxR wr (w.heap.size + 1) (.string ⟨#[]⟩) (.string ⟨#[]⟩) (.int .i64 0) (.slice none 0 0) (.int .i64 0) ∧ HS wr 62 S x (exC o nm m A0 N cap0 p) ∧ Below w.heap.size w wr
theorem to_step {x : Ex} {S : Nat → Prop} {w wr w4 w5 : World} {A0 : Option Addr} {N cap0 : Nat} {o nm : ByteArray} {m p : Int} {k : Nat} {A : Option Addr} {cap : Nat} {cs : List Value} {o4 nm4 : ByteArray} {n4 p4 : Int} {A4 : Option Addr} {l4 cap4 g5 cap5 : Nat} {ob : Obj} {v : Int} (hv : v = (k : Int) + 1)
    (kk : k < x.kids.length) (hN : k < N) (hb : Below w.heap.size w wr) (hb4 : Below wr.heap.size wr w4) (hC : HS w4 70 (Rg wr.heap.size w4.heap.size) x.kids[k] (exC o4 nm4 n4 A4 l4 cap4 p4))
    (hO : wr.ownsRow (w.heap.size + 1 + 1 + 1) 70 5 (.slice A k cap) k cs) (hO5 : w5.ownsRow (w.heap.size + 1 + 1 + 1) 70 5 (.slice (some ⟨g5, 0, none⟩) (k + 1) cap5) (k + 1) (cs ++ exC o4 nm4 n4 A4 l4 cap4 p4))
    (hg : (w4.alloc ob).grownBy w5 (Value.slice A k cap).ownBlock) (hat : (Value.slice A k cap).ownBlock = some g5 ∨ g5 = w4.heap.size + 1) (hK : KL wr 70 (KO (w.heap.size + 1 + 1 + 1) (.slice A k cap)) (x.kids.take k) cs)
    (h1 : Box wr w.heap.size (.string o) (.string nm) (.int .i64 m) (.slice A0 N cap0) (.int .i64 p)) (h2 : BoxR wr (w.heap.size + 1) (.string ⟨#[]⟩) (.string ⟨#[]⟩) (.int .i64 0) (.slice none 0 0) (.int .i64 0)) (hh : HS wr 62 S x (exC o nm m A0 N cap0 p))
    (h3 : BoxR wr (w.heap.size + 1 + 1) (.string o) (.string nm) (.int .i64 m) (.slice A k cap) (.int .i64 p)) (h35 : BoxR w5 (w.heap.size + 1 + 1) (.string o) (.string nm) (.int .i64 m) (.slice A k cap) (.int .i64 p)) :
    ToRel x S w A0 N cap0 o nm m p (.int .i64 v) (w5.setCell ⟨w.heap.size + 1 + 1, 3, none⟩ (.slice (some ⟨g5, 0, none⟩) (k + 1) cap5)) := by
  have hz := hb.size
  have hz1 := h1.lt
  have hz2 := h2.lt
  have hz3 := h3.lt
  have hz4 := hb4.size
  have hz5 : w4.heap.size + 1 ≤ w5.heap.size := by have := hg.size; simp at this; omega
  have hol : ∀ j, (Value.slice A k cap).ownBlock = some j → w.heap.size + 1 + 1 + 1 ≤ j ∧ j < wr.heap.size := fun j hj => hO.lt j hj
  have e4 : ∀ j, j < w4.heap.size → some j ≠ (Value.slice A k cap).ownBlock → j ≠ w.heap.size + 1 + 1 → (w5.setCell ⟨w.heap.size + 1 + 1, 3, none⟩ (.slice (some ⟨g5, 0, none⟩) (k + 1) cap5)).heap[j]? = w4.heap[j]? := fun j h1 h2 h3 =>
    (Below.heap_setCell w5 ⟨w.heap.size + 1 + 1, 3, none⟩ _ j h3).trans ((hg.block j (by simp; omega) h2).trans (Below.heap_alloc w4 ob j h1))
  have er : ∀ j, j < wr.heap.size → some j ≠ (Value.slice A k cap).ownBlock → j ≠ w.heap.size + 1 + 1 → (w5.setCell ⟨w.heap.size + 1 + 1, 3, none⟩ (.slice (some ⟨g5, 0, none⟩) (k + 1) cap5)).heap[j]? = wr.heap[j]? := fun j h1 h2 h3 =>
    (e4 j (by omega) h2 h3).trans (hb4.block j h1)
  have hlo : ∀ j, j < w.heap.size + 1 + 1 + 1 → some j ≠ (Value.slice A k cap).ownBlock := fun j hj e => by have := (hol j e.symm).1; omega
  subst hv
  refine ⟨k + 1, some ⟨g5, 0, none⟩, cap5, cs ++ exC o4 nm4 n4 A4 l4 cap4 p4, by go_num, hN, fun h => absurd h (by omega), h35.set3 _, ?_, ?_, (er _ hz1 (hlo _ (by omega)) (by omega)).trans h1, (er _ hz2 (hlo _ (by omega)) (by omega)).trans h2, ?_, ?_⟩
  · refine hO5.kept (row := some (w.heap.size + 1 + 1)) (w' := w5.setCell ⟨w.heap.size + 1 + 1, 3, none⟩ (.slice (some ⟨g5, 0, none⟩) (k + 1) cap5)) ⟨rfl, rfl, rfl, by simp, fun k _ hn => Below.heap_setCell w5 ⟨w.heap.size + 1 + 1, 3, none⟩ _ k (fun e => hn (by rw [e]))⟩ (.inr ?_)
    intro e
    have := (hO5.lt g5 rfl).1
    have : g5 = w.heap.size + 1 + 1 := by simpa [Value.ownBlock] using e
    omega
  · have hne : ∀ j, j < wr.heap.size → some j ≠ (Value.slice A k cap).ownBlock → some j ≠ (Value.slice (some ⟨g5, 0, none⟩) (k + 1) cap5).ownBlock := fun j hj hn e => by
      have e : j = g5 := by simpa [Value.ownBlock] using e
      rcases hat with h | h
      · exact hn (by rw [h, e])
      · omega
    rw [List.take_succ_eq_append_getElem kk]
    refine KL.snoc (((hK.wide (T := fun j => KO (w.heap.size + 1 + 1 + 1) (.slice A k cap) j ∧ some j ≠ (Value.slice (some ⟨g5, 0, none⟩) (k + 1) cap5).ownBlock) (fun j hl hj => ⟨hj, hne j hl hj.2⟩)).keep (fun j hj hl => er j hl hj.1.2 (by have := hj.1.1; omega))).wide (fun j _ hj => ⟨hj.1.1, hj.2⟩)) ?_
    refine (hC.keep (fun j hj hl => e4 j hl (fun e => by have := (hol j e.symm).2; unfold Rg at hj; omega) (by unfold Rg at hj; omega))).wide (fun j _ hj => ⟨by unfold Rg at hj; omega, fun e => ?_⟩)
    have e : j = g5 := by simpa [Value.ownBlock] using e
    unfold Rg at hj
    rcases hat with h | h
    · have := (hol g5 h).2; omega
    · omega
  · refine hh.keepT fun j cur hj => (er j (blk_lt hj) (fun e => ?_) (fun e => ?_)).trans hj
    · rcases hO.2 with ⟨hx, _⟩ | ⟨g', cp, cur', hx, q1, q2, _⟩
      · rw [hx] at e; cases e
      · rw [hx] at e
        have e : j = g' := by simpa [Value.ownBlock] using e
        subst e
        rw [hj] at q2
        injection q2 with q2
        injection q2 with _ q2
        exact absurd q2 (by decide)
    · subst e
      have h3 : wr.heap[w.heap.size + 1 + 1]? = _ := h3
      rw [hj] at h3
      injection h3 with h3
      injection h3 with _ h3
      exact absurd h3 (by decide)
  · exact ⟨hg.os.trans (hb4.os.trans hb.os), hg.tape.trans (hb4.tape.trans hb.tape), hg.output.trans (hb4.output.trans hb.output), by simp; omega, fun j hj => (er j (by omega) (hlo j (by omega)) (by omega)).trans (hb.block j hj)⟩
set_option maxHeartbeats 4000000 in
set_option maxRecDepth 100000 in
theorem to_of {x : Ex} (ih : ∀ k ∈ x.kids, ToC k) : ToC x := by
  intro w S c hH
  obtain ⟨A0, cap0, rfl, _⟩ := hH.view
  obtain ⟨i0, hi0, hz⟩ := Option.map_eq_some_iff.1 infoR
  simp only [Prod.mk.injEq] at hz
  obtain ⟨hz0, hz1, hz2⟩ := hz
  have HI := Lib.hid hi0
  have HZ0 := Lib.hid hz0
  have HZ1 := Lib.hid hz1
  have HZ2 := Lib.hid hz2
  have HIH := Lib.hid ih
  have hN3 := kids_three x
  have HFIN := Lib.hid (fun (W : World) (lo : Nat) (A : Option Addr) (cap : Nat) (cs : List Value) (h0 : x.kids.length = 0 → A = none ∧ cap = 0) (ho : W.ownsRow lo 70 5 (.slice A x.kids.length cap) x.kids.length cs) (hk : KL W 70 (fun j => lo ≤ j) x.kids cs) => HS.mk (x := x) rfl h0 ho hk)
  change Calls Tryz.prog 37 #[.agg #[.string ⟨x.op.toArray⟩, .string ⟨x.nm.toArray⟩, .int .i64 (x.num : Int), .slice A0 x.kids.length cap0, .int .i64 (x.pos : Int)]] w _
  obtain ⟨N, hN⟩ : ∃ N, N = x.kids.length := ⟨_, rfl⟩
  have HN := Lib.hid hN
  rw [← hN] at hH hN3 HFIN ⊢
  have HH := Lib.hid hH
  clear hi0 hz0 hz1 hz2 ih hH hN
  generalize (⟨x.op.toArray⟩ : ByteArray) = o at *
  generalize (⟨x.nm.toArray⟩ : ByteArray) = nm at *
  generalize (x.num : Int) = m at *
  generalize (x.pos : Int) = p at *
  go_enter Tryz.func37, Tryz.ntmps37
  go_wp2
  go_loopw [4] (fun i wr => ToRel x S w A0 N cap0 o nm m p i wr) (fun i _ => N - (intOf i).toNat)
  case atStart =>
    refine ⟨0, none, 0, [], rfl, Nat.zero_le _, fun _ => ⟨rfl, rfl⟩, heapN (by simp) _, World.ownsRow_nil _ _ _ _, rfl, heap_oldT (heap_oldT (heapN rfl _) _) _, heap_oldT (heapN (by simp) _) _, ((HH.out.alloc _).alloc _).alloc _, (((Below.refl _ _).alloc (Nat.le_refl _) _).alloc (by simp) _).alloc (by simp; omega) _⟩
  case round =>
    obtain ⟨k, A, cap, cs, rfl, hk, hk0, hB3, hO, hK, hB1, hB2, hh, hb⟩ := hrel
    by_cases hlt : k < N
    · have c4 : decide ((k : Int) < (N : Int)) = true := by simp; omega
      have c5 : decide (k < N) = true := by simpa using hlt
      have kk : k < x.kids.length := by rw [← HN.out]; exact hlt
      obtain ⟨g, o', nm', m', P', l', cp', p', rfl, hg', hH', a0, a1, a2, a3, a4⟩ := hh.kr k kk
      have HC := Lib.hid (HIH.out _ (List.getElem_mem kk) wr.drew S _ hH'.drew)
      obtain ⟨b0, b1, b2, b3, b4⟩ := hB1.cells
      obtain ⟨d0, d1, d2, d3, d4⟩ := hB3.cells
      have f3 := hB3.frozen 3
      have hb1l := hB1.lt
      have hb3l := hB3.lt
      have HB3 := Lib.hid hB3
      have HO := Lib.hid hO
      have HK := Lib.hid hK
      have HB1 := Lib.hid hB1
      have HB2 := Lib.hid hB2
      have HH2 := Lib.hid hh
      have HB := Lib.hid hb
      clear hB3 hO hK hB1 hB2 hh hb hH' hk0
      go_wp2_with fail
      go_region_law (first
        | (go_simp
           go_at_call 37
           refine (HC.out).mono ?_
           rintro e w4 ⟨o4, nm4, n4, A4, l4, cap4, p4, rfl, hC4, hb4⟩
           have hb4' : Below wr.heap.size wr w4 := (Below.refl wr.heap.size wr).drew.trans hb4
           have HC4 := Lib.hid hC4
           have HB4 := Lib.hid hb4'
           have HB34 := Lib.hid (HB3.out.below hb4')
           obtain ⟨d0, d1, d2, d3, d4⟩ := (HB3.out.below hb4').cells
           have f3 := (HB3.out.below hb4').frozen 3
           have hb3l4 := (HB3.out.below hb4').lt
           clear hC4 hb4 hb4')
        | (refine step_append_lies (w4.alloc (.cells #[.string o4, .string nm4, .int .i64 n4, .slice A4 l4 cap4, .int .i64 p4] 70)) rfl (.tmp 22) (.tmp 29) 68 rfl (w.heap.size + 1 + 1 + 1) 70 i0 (.agg #[.string ⟨#[]⟩, .string ⟨#[]⟩, .int .i64 0, .slice none 0 0, .int .i64 0]) 5 72 Tryz.underlying68 HI.out HZ0.out HZ1.out HZ2.out rfl (by decide) (.slice A k cap) k cs ?_ ?_ ⟨w4.heap.size, 0, none⟩ 1 1 (exC o4 nm4 n4 A4 l4 cap4 p4) ?_ rfl ?_ ?_ (by omega) (by unfold maxLen; omega) (by omega) ?_ (w4.heap.size + 1) (by simp) ?_
           · simp [Act.eval]
           · exact owns_below HO.out (HB4.out.alloc HB4.out.size _)
           · simp [Act.eval]
           · exact Go.World.news_of_block (cs := #[.string o4, .string nm4, .int .i64 n4, .slice A4 l4 cap4, .int .i64 p4]) (heapN rfl _)
           · exact one_exC
           · have := HB.out.size; have := HB4.out.size; simp; omega
           intro g5 cap5 w5 ho5 hg5 hat5 hlt5
           have hb5 : BoxR w5 (w.heap.size + 1 + 1) (.string o) (.string nm) (.int .i64 m) (.slice A k cap) (.int .i64 p) := (hg5.block (w.heap.size + 1 + 1) (by simp; omega) (own_ne2 HO.out (by omega))).trans (heap_oldT HB34.out _)
           obtain ⟨d0, d1, d2, d3, d4⟩ := hb5.cells
           have f3 := hb5.frozen 3
           have hb3l5 := hb5.lt
           have HB35 := Lib.hid hb5
           have HG5 := Lib.hid hg5
           have HO5 := Lib.hid ho5
           have HAT5 := Lib.hid hat5
           clear hb5 hg5 ho5 hat5))
      all_goals
        have HRL := Lib.hid (to_step (v := (k : Int) + 1) rfl kk hlt HB.out HB4.out HC4.out HO.out HO5.out HG5.out HAT5.out HK.out HB1.out HB2.out HH2.out HB3.out HB35.out)
        go_wp2
        go_roundw
        case rel => exact HRL.out
        case measure => simp [intOf]; omega
    · have c4 : decide ((k : Int) < (N : Int)) = false := by simp; omega
      have c5 : decide (k < N) = false := by simpa using hlt
      have hkN : k = N := by omega
      subst hkN
      obtain ⟨b0, b1, b2, b3, b4⟩ := hB1.cells
      obtain ⟨d0, d1, d2, d3, d4⟩ := hB3.cells
      obtain ⟨e0, e1, e2, e3, e4⟩ := hB2.cells
      have z0 := hB2.frozen 0
      have z1 := hB2.frozen 1
      have z2 := hB2.frozen 2
      have z3 := hB2.frozen 3
      have z4 := hB2.frozen 4
      have hb1l := hB1.lt
      have hb2l := hB2.lt
      have hb3l := hB3.lt
      have hK' : KL wr 70 (fun j => w.heap.size + 1 + 1 + 1 ≤ j) x.kids cs := by
        have h1 : x.kids.take k = x.kids := List.take_of_length_le (by rw [← HN.out]; omega)
        rw [h1] at hK
        exact hK.wide (fun j _ hj => hj.1)
      have HF := Lib.hid (HFIN.out wr _ A cap cs hk0 hO hK')
      have HB2 := Lib.hid hB2
      have HB := Lib.hid hb
      clear hB3 hO hK hB1 hB2 hh hb hk0 hK' HFIN
      go_wp2
      obtain ⟨y0, y1, y2, y3, y4⟩ := (HB2.out.set5 (.string o) (.string nm) (.int .i64 m) (.slice A k cap) (.int .i64 p)).cells
      refine bodyPost_ret (v := .agg #[.string o, .string nm, .int .i64 m, .slice A k cap, .int .i64 p]) (by simp [results, Tryz.results37, go_sem, y0, y1, y2, y3, y4]) rfl ⟨o, nm, m, A, k, cap, p, rfl, ?_, ?_⟩
      · exact (HF.out.far5S (by omega) _ _ _ _ _).wide (fun j hj h => ⟨by omega, hj⟩)
      · exact ((Fr.of (rb := w.heap.size) HB.out).set5 (by omega) _ _ _ _ _).below (by omega)
theorem to_any : ∀ x : Ex, ToC x
  | .leaf _ _ _ _ => to_of (by simp [Ex.kids])
  | .un _ a _ => to_of (by simp only [Ex.kids, List.mem_singleton]; rintro x rfl; exact to_any x)
  | .bin _ a b _ => to_of (by
      have h1 := to_any a
      have h2 := to_any b
      simp only [Ex.kids, List.mem_cons, List.not_mem_nil, or_false]
      rintro x (rfl | rfl) <;> assumption)
  | .cond a b c _ => to_of (by
      have h1 := to_any a
      have h2 := to_any b
      have h3 := to_any c
      simp only [Ex.kids, List.mem_cons, List.not_mem_nil, or_false]
      rintro x (rfl | rfl | rfl) <;> assumption)
end Go.Proofs.YtddeplbgihcdkaaGreatDoor
