/-
  The program's formula as the document's: walked.
-/
import Derived.Test.YtjhicgllofjpoaaGreatDoorZA
import Derived.Deep.RegionLaw
import Derived.Deep.AppendLies
namespace Go.Proofs.YtjhicgllofjpoaaGreatDoor
open Go.RowKit Go.Sort

/-- Formulas one behind the other. -/
def KLF (w : World) (e : TypeId) (S : Nat → Prop) : List Fo → List Value → Prop
  | [], cs => cs = []
  | x :: r, cs => ∃ c c', cs = c ++ c' ∧ FS w e S x c ∧ KLF w e S r c'
section
variable {w w' : World} {e : TypeId} {S T : Nat → Prop}
theorem KLF.snoc : ∀ {r : List Fo} {cs : List Value} {x : Fo} {c : List Value}, KLF w e S r cs → FS w e S x c → KLF w e S (r ++ [x]) (cs ++ c)
  | [], _, x, c, h, hx => by rw [show _ = [] from h]; exact ⟨c, [], by simp, hx, rfl⟩
  | _ :: _, _, _, _, ⟨c0, c', h1, h2, h3⟩, hx => ⟨c0, c' ++ _, by rw [h1, List.append_assoc], h2, h3.snoc hx⟩
theorem KLF.keep (hk : ∀ k, S k → k < w.heap.size → w'.heap[k]? = w.heap[k]?) : ∀ {r : List Fo} {cs : List Value}, KLF w e S r cs → KLF w' e S r cs
  | [], _, h => h
  | _ :: _, _, ⟨c0, c', h1, h2, h3⟩ => ⟨c0, c', h1, h2.keepY (fun k _ hS hc => hk k hS (blk_lt hc)), h3.keep hk⟩
theorem KLF.wide (hb : ∀ k, k < w.heap.size → S k → T k) : ∀ {r : List Fo} {cs : List Value}, KLF w e S r cs → KLF w e T r cs
  | [], _, h => h
  | _ :: _, _, ⟨c0, c', h1, h2, h3⟩ => ⟨c0, c', h1, h2.wide hb, h3.wide hb⟩
def KOF (lo : Nat) (v : Value) (j : Nat) : Prop := lo ≤ j ∧ some j ≠ v.ownBlock
theorem one_fv {v : FV} : ∀ u ∈ v.c, u.oneCell' = true := by
  intro u hu
  simp only [FV.c, List.mem_cons, List.not_mem_nil, or_false] at hu
  rcases hu with rfl | rfl | rfl | rfl <;> rfl
theorem arr_ofF {lo g n cap : Nat} {cs : List Value} (h : w.ownsRow lo e 4 (.slice (some ⟨g, 0, none⟩) n cap) n cs) : Arr w e (fun j => lo ≤ j) g cs := by
  rcases h.2 with ⟨hx, _⟩ | ⟨g', cp, cur, hx, h1, h2, _⟩
  · cases hx
  · have : g' = g := by
      injection hx with hx
      injection hx with hx
      injection hx with hx
      exact hx.symm
    subst this
    refine ⟨h1, cur, h2, fun j u hu => ?_⟩
    have := h.cells (g := g') rfl j u hu
    have e2 : (⟨g', 0, none⟩ : Addr).add j = ⟨g', j, none⟩ := by
      unfold Addr.add
      by_cases hj : j = 0 <;> simp [hj]
    rw [e2, rd_cell h2] at this
    exact this
theorem ownF_form {lo sz n : Nat} {v : Value} {cs : List Value} (h : w.ownsRow lo e sz v n cs) (h0 : 0 < n) : ∃ g cap, v = .slice (some ⟨g, 0, none⟩) n cap := by
  rcases h.2 with ⟨_, h1⟩ | ⟨g, cap, cur, h1, _⟩
  · omega
  · exact ⟨g, cap, h1⟩
theorem FS.mk : ∀ {x : Fo} {lo : Nat} {A : Option Addr} {n cap : Nat} {cs : List Value}, n = x.kids.length → (n = 0 → A = none ∧ cap = 0) → w.ownsRow lo e 4 (.slice A n cap) n cs → KLF w e (fun j => lo ≤ j) x.kids cs → FS w e (fun j => lo ≤ j) x (FV.c ⟨⟨x.op.toArray⟩, ⟨x.nm.toArray⟩, A, n, cap, (x.pos : Int)⟩)
  | .leaf op nm p, lo, A, n, cap, cs, hn, h0, _, _ => by
    obtain ⟨rfl, rfl⟩ := h0 hn
    have : n = 0 := hn
    subst this
    rfl
  | .un op a p, lo, A, n, cap, cs, hn, h0, ho, ⟨c, c', h1, h2, h3⟩ => by
    have hn : n = 1 := hn
    subst hn
    obtain ⟨g, cap', hv⟩ := ownF_form ho (by omega)
    injection hv with hA
    subst hA
    have hr := arr_ofF ho
    rw [h1, show c' = [] from h3, List.append_nil] at hr
    exact ⟨g, cap, c, rfl, hr, h2⟩
  | .bin op a b p, lo, A, n, cap, cs, hn, h0, ho, ⟨c, c', h1, h2, c2, c3, h3, h4, h5⟩ => by
    have hn : n = 2 := hn
    subst hn
    obtain ⟨g, cap', hv⟩ := ownF_form ho (by omega)
    injection hv with hA
    subst hA
    have hr := arr_ofF ho
    rw [h1, h3, show c3 = [] from h5, List.append_nil] at hr
    exact ⟨g, cap, c, c2, rfl, hr, h2, h4⟩
end
theorem heap_oldF {w : World} {k : Nat} {o : Obj} (h : w.heap[k]? = some o) (o' : Obj) : (w.alloc o').heap[k]? = some o := (Below.heap_alloc w o' k (blk_lt h)).trans h
theorem infoRF : (Tryz.prog.info? 32).map (fun i => (i.zero, i.size, i.bytes)) = some (some (.agg #[.string ⟨#[]⟩, .string ⟨#[]⟩, .slice none 0 0, .int .i64 0]), 4, 64) := by kernel_rfl
theorem own_ne2F {w : World} {lo k : Nat} {e : TypeId} {sz n : Nat} {v : Value} {cs : List Value} (h : w.ownsRow lo e sz v n cs) (hk : k < lo) : some k ≠ v.ownBlock := by
  intro e1
  have := (h.lt k e1.symm).1
  omega
theorem owns_belowF {w w' : World} {lo : Nat} {e : TypeId} {sz n : Nat} {v : Value} {cs : List Value} (h : w.ownsRow lo e sz v n cs) (hb : Below w.heap.size w w') : w'.ownsRow lo e sz v n cs := by
  refine ⟨h.1, ?_⟩
  rcases h.2 with h | ⟨g, cap, cur, h1, h2, h3, h4⟩
  · exact .inl h
  · exact .inr ⟨g, cap, cur, h1, h2, (hb.block g (blk_lt h3)).trans h3, h4⟩
/-- What To leaves. -/
def ToPF (x : Fo) (w : World) (e : Ending) (w' : World) : Prop := ∃ v : FV, e = .returned (.agg #[.string v.o, .string v.nm, .slice v.A v.ll v.cap, .int .i64 v.p]) ∧ FS w' 32 (Rg w.heap.size w'.heap.size) x v.c ∧ Below w.heap.size w w'
def ToCF (x : Fo) : Prop := ∀ (w : World) (S : Nat → Prop) (c : List Value), FS w 25 S x c → Calls Tryz.prog 12 #[.agg c.toArray] w (ToPF x w)
/-- What the rounds over the kids keep. -/
def ToRelF (x : Fo) (S : Nat → Prop) (w : World) (A0 : Option Addr) (N cap0 : Nat) (o nm : ByteArray) (p : Int) (i : Value) (wr : World) : Prop :=
  ∃ (k : Nat) (A : Option Addr) (cap : Nat) (cs : List Value), i = .int .i64 (k : Int) ∧ k ≤ N ∧ (k = 0 → A = none ∧ cap = 0) ∧ Bx wr (w.heap.size + 1 + 1) 32 [.string o, .string nm, .slice A k cap, .int .i64 p] ∧
    wr.ownsRow (w.heap.size + 1 + 1 + 1) 32 4 (.slice A k cap) k cs ∧ KLF wr 32 (KOF (w.heap.size + 1 + 1 + 1) (.slice A k cap)) (x.kids.take k) cs ∧
    Bx wr w.heap.size 25 [.string o, .string nm, .slice A0 N cap0, .int .i64 p] ∧ Bx wr (w.heap.size + 1) 32 zc4 ∧ FS wr 25 S x (FV.c ⟨o, nm, A0, N, cap0, p⟩) ∧ Below w.heap.size w wr
theorem to_stepF {x : Fo} {S : Nat → Prop} {w wr w4 w5 : World} {A0 : Option Addr} {N cap0 : Nat} {o nm : ByteArray} {p : Int} {k : Nat} {A : Option Addr} {cap : Nat} {cs : List Value} {v4 : FV} {g5 cap5 : Nat} {ob : Obj} {v : Int} (hv : v = (k : Int) + 1)
    (kk : k < x.kids.length) (hN : k < N) (hb : Below w.heap.size w wr) (hb4 : Below wr.heap.size wr w4) (hC : FS w4 32 (Rg wr.heap.size w4.heap.size) x.kids[k] v4.c)
    (hO : wr.ownsRow (w.heap.size + 1 + 1 + 1) 32 4 (.slice A k cap) k cs) (hO5 : w5.ownsRow (w.heap.size + 1 + 1 + 1) 32 4 (.slice (some ⟨g5, 0, none⟩) (k + 1) cap5) (k + 1) (cs ++ v4.c))
    (hg : (w4.alloc ob).grownBy w5 (Value.slice A k cap).ownBlock) (hat : (Value.slice A k cap).ownBlock = some g5 ∨ g5 = w4.heap.size + 1) (hK : KLF wr 32 (KOF (w.heap.size + 1 + 1 + 1) (.slice A k cap)) (x.kids.take k) cs)
    (h1 : Bx wr w.heap.size 25 [.string o, .string nm, .slice A0 N cap0, .int .i64 p]) (h2 : Bx wr (w.heap.size + 1) 32 zc4) (hh : FS wr 25 S x (FV.c ⟨o, nm, A0, N, cap0, p⟩))
    (h3 : Bx wr (w.heap.size + 1 + 1) 32 [.string o, .string nm, .slice A k cap, .int .i64 p]) (h35 : Bx w5 (w.heap.size + 1 + 1) 32 [.string o, .string nm, .slice A k cap, .int .i64 p]) :
    ToRelF x S w A0 N cap0 o nm p (.int .i64 v) (w5.setCell ⟨w.heap.size + 1 + 1, 2, none⟩ (.slice (some ⟨g5, 0, none⟩) (k + 1) cap5)) := by
  have hz := hb.size
  have hz1 := h1.lt
  have hz2 := h2.lt
  have hz3 := h3.lt
  have hz4 := hb4.size
  have hz5 : w4.heap.size + 1 ≤ w5.heap.size := by have := hg.size; simp at this; omega
  have hol : ∀ j, (Value.slice A k cap).ownBlock = some j → w.heap.size + 1 + 1 + 1 ≤ j ∧ j < wr.heap.size := fun j hj => hO.lt j hj
  have e4 : ∀ j, j < w4.heap.size → some j ≠ (Value.slice A k cap).ownBlock → j ≠ w.heap.size + 1 + 1 → (w5.setCell ⟨w.heap.size + 1 + 1, 2, none⟩ (.slice (some ⟨g5, 0, none⟩) (k + 1) cap5)).heap[j]? = w4.heap[j]? := fun j h1 h2 h3 =>
    (Below.heap_setCell w5 ⟨w.heap.size + 1 + 1, 2, none⟩ _ j h3).trans ((hg.block j (by simp; omega) h2).trans (Below.heap_alloc w4 ob j h1))
  have er : ∀ j, j < wr.heap.size → some j ≠ (Value.slice A k cap).ownBlock → j ≠ w.heap.size + 1 + 1 → (w5.setCell ⟨w.heap.size + 1 + 1, 2, none⟩ (.slice (some ⟨g5, 0, none⟩) (k + 1) cap5)).heap[j]? = wr.heap[j]? := fun j h1 h2 h3 =>
    (e4 j (by omega) h2 h3).trans (hb4.block j h1)
  have hlo : ∀ j, j < w.heap.size + 1 + 1 + 1 → some j ≠ (Value.slice A k cap).ownBlock := fun j hj e => by have := (hol j e.symm).1; omega
  subst hv
  refine ⟨k + 1, some ⟨g5, 0, none⟩, cap5, cs ++ v4.c, by go_num, hN, fun h => absurd h (by omega), h35.set 2 _, ?_, ?_, (er _ hz1 (hlo _ (by omega)) (by omega)).trans h1, (er _ hz2 (hlo _ (by omega)) (by omega)).trans h2, ?_, ?_⟩
  · refine hO5.kept (row := some (w.heap.size + 1 + 1)) (w' := w5.setCell ⟨w.heap.size + 1 + 1, 2, none⟩ (.slice (some ⟨g5, 0, none⟩) (k + 1) cap5)) ⟨rfl, rfl, rfl, by simp, fun k _ hn => Below.heap_setCell w5 ⟨w.heap.size + 1 + 1, 2, none⟩ _ k (fun e => hn (by rw [e]))⟩ (.inr ?_)
    intro e
    have := (hO5.lt g5 rfl).1
    have : g5 = w.heap.size + 1 + 1 := by simpa [Value.ownBlock] using e
    omega
  · have hne : ∀ j, j < wr.heap.size → some j ≠ (Value.slice A k cap).ownBlock → some j ≠ (Value.slice (some ⟨g5, 0, none⟩) (k + 1) cap5).ownBlock := fun j hj hn e => by
      have e : j = g5 := by simpa [Value.ownBlock] using e
      rcases hat with h | h
      · exact hn (by rw [h, e])
      · omega
    rw [List.take_succ_eq_append_getElem kk]
    refine KLF.snoc (((hK.wide (T := fun j => KOF (w.heap.size + 1 + 1 + 1) (.slice A k cap) j ∧ some j ≠ (Value.slice (some ⟨g5, 0, none⟩) (k + 1) cap5).ownBlock) (fun j hl hj => ⟨hj, hne j hl hj.2⟩)).keep (fun j hj hl => er j hl hj.1.2 (by have := hj.1.1; omega))).wide (fun j _ hj => ⟨hj.1.1, hj.2⟩)) ?_
    refine (hC.keepY (fun j _ hj hc => e4 j (blk_lt hc) (fun e => by have := (hol j e.symm).2; unfold Rg at hj; omega) (by unfold Rg at hj; omega))).wide (fun j _ hj => ⟨by unfold Rg at hj; omega, fun e => ?_⟩)
    have e : j = g5 := by simpa [Value.ownBlock] using e
    unfold Rg at hj
    rcases hat with h | h
    · have := (hol g5 h).2; omega
    · omega
  · refine hh.keepY fun j cur _ hj => er j (blk_lt hj) (fun e => ?_) (fun e => ?_)
    · rcases hO.2 with ⟨hx, _⟩ | ⟨g', cp, cur', hx, q1, q2, _⟩
      · rw [hx] at e; cases e
      · rw [hx] at e
        have e : j = g' := by simpa [Value.ownBlock] using e
        subst e
        rw [hj] at q2
        injection q2 with q2
        injection q2 with _ q2
        exact absurd q2 (by decide)
    · subst e
      have h3 : wr.heap[w.heap.size + 1 + 1]? = _ := h3
      rw [hj] at h3
      injection h3 with h3
      injection h3 with _ h3
      exact absurd h3 (by decide)
  · exact ⟨hg.os.trans (hb4.os.trans hb.os), hg.tape.trans (hb4.tape.trans hb.tape), hg.output.trans (hb4.output.trans hb.output), by simp; omega, fun j hj => (er j (by omega) (hlo j (by omega)) (by omega)).trans (hb.block j hj)⟩
theorem fkids3T (x : Fo) : x.kids.length ≤ 3 := by cases x <;> simp [Fo.kids]
set_option maxHeartbeats 4000000 in
set_option maxRecDepth 100000 in
theorem pto_of {x : Fo} (ih : ∀ k ∈ x.kids, ToCF k) : ToCF x := by
  intro w S c hH
  obtain ⟨A0, cap0, rfl, _⟩ := hH.view
  obtain ⟨i0, hi0, hz⟩ := Option.map_eq_some_iff.1 infoRF
  simp only [Prod.mk.injEq] at hz
  obtain ⟨hz0, hz1, hz2⟩ := hz
  have HI := Lib.hid hi0
  have HZ0 := Lib.hid hz0
  have HZ1 := Lib.hid hz1
  have HZ2 := Lib.hid hz2
  have HIH := Lib.hid ih
  have hN3 := fkids3T x
  have HFIN := Lib.hid (fun (W : World) (lo : Nat) (A : Option Addr) (cap : Nat) (cs : List Value) (h0 : x.kids.length = 0 → A = none ∧ cap = 0) (ho : W.ownsRow lo 32 4 (.slice A x.kids.length cap) x.kids.length cs) (hk : KLF W 32 (fun j => lo ≤ j) x.kids cs) => FS.mk (x := x) rfl h0 ho hk)
  change Calls Tryz.prog 12 #[.agg #[.string ⟨x.op.toArray⟩, .string ⟨x.nm.toArray⟩, .slice A0 x.kids.length cap0, .int .i64 (x.pos : Int)]] w _
  obtain ⟨N, hN⟩ : ∃ N, N = x.kids.length := ⟨_, rfl⟩
  have HN := Lib.hid hN
  rw [← hN] at hH hN3 HFIN ⊢
  have HH := Lib.hid hH
  clear hi0 hz0 hz1 hz2 ih hH hN
  generalize (⟨x.op.toArray⟩ : ByteArray) = o at *
  generalize (⟨x.nm.toArray⟩ : ByteArray) = nm at *
  generalize (x.pos : Int) = p at *
  go_enter Tryz.func12, Tryz.ntmps12
  go_wp2
  go_loopw [4] (fun i wr => ToRelF x S w A0 N cap0 o nm p i wr) (fun i _ => N - (intOf i).toNat)
  case atStart =>
    refine ⟨0, none, 0, [], rfl, Nat.zero_le _, fun _ => ⟨rfl, rfl⟩, heapN (by simp) _, World.ownsRow_nil _ _ _ _, rfl, heap_oldF (heap_oldF (heapN rfl _) _) _, heap_oldF (heapN (by simp) _) _, ((HH.out.alloc _).alloc _).alloc _, (((Below.refl _ _).alloc (Nat.le_refl _) _).alloc (by simp) _).alloc (by simp; omega) _⟩
  case round =>
    obtain ⟨k, A, cap, cs, rfl, hk, hk0, hB3, hO, hK, hB1, hB2, hh, hb⟩ := hrel
    by_cases hlt : k < N
    · have c4 : decide ((k : Int) < (N : Int)) = true := by simp; omega
      have c5 : decide (k < N) = true := by simpa using hlt
      have kk : k < x.kids.length := by rw [← HN.out]; exact hlt
      obtain ⟨g, ⟨o', nm', P', l', cp', p'⟩, hA0, hg', hH', a0, a1, a2, a3⟩ := hh.kr.1 k kk
      have hA0 : A0 = some ⟨g, 0, none⟩ := hA0
      subst hA0
      have HC := Lib.hid (HIH.out _ (List.getElem_mem kk) wr.drew S _ hH'.drew)
      obtain ⟨b0, b1, b2, b3⟩ := Bx.cells4 hB1
      obtain ⟨d0, d1, d2, d3⟩ := Bx.cells4 hB3
      have f3 := hB3.frozen 2
      have hb1l := hB1.lt
      have hb3l := hB3.lt
      have HB3 := Lib.hid hB3
      have HO := Lib.hid hO
      have HK := Lib.hid hK
      have HB1 := Lib.hid hB1
      have HB2 := Lib.hid hB2
      have HH2 := Lib.hid hh
      have HB := Lib.hid hb
      clear hB3 hO hK hB1 hB2 hh hb hH' hk0
      go_wp2_with fail
      go_region_law (first
        | (go_simp
           go_at_call 12
           refine (HC.out).mono ?_
           rintro e w4 ⟨v4, rfl, hC4, hb4⟩
           have hb4' : Below wr.heap.size wr w4 := (Below.refl wr.heap.size wr).drew.trans hb4
           have HC4 := Lib.hid hC4
           have HB4 := Lib.hid hb4'
           have HB34 := Lib.hid (HB3.out.below hb4')
           obtain ⟨d0, d1, d2, d3⟩ := Bx.cells4 (HB3.out.below hb4')
           have f3 := (HB3.out.below hb4').frozen 2
           have hb3l4 := (HB3.out.below hb4').lt
           clear hC4 hb4 hb4')
        | (refine step_append_lies (w4.alloc (.cells #[.string v4.o, .string v4.nm, .slice v4.A v4.ll v4.cap, .int .i64 v4.p] 32)) rfl (.tmp 20) (.tmp 27) 30 rfl (w.heap.size + 1 + 1 + 1) 32 i0 (.agg #[.string ⟨#[]⟩, .string ⟨#[]⟩, .slice none 0 0, .int .i64 0]) 4 64 Tryz.underlying30 HI.out HZ0.out HZ1.out HZ2.out rfl (by decide) (.slice A k cap) k cs ?_ ?_ ⟨w4.heap.size, 0, none⟩ 1 1 v4.c ?_ rfl ?_ ?_ (by omega) (by unfold maxLen; omega) (by omega) ?_ (w4.heap.size + 1) (by simp) ?_
           · simp [Act.eval]
           · exact owns_belowF HO.out (HB4.out.alloc HB4.out.size _)
           · simp [Act.eval]
           · exact Go.World.news_of_block (cs := #[.string v4.o, .string v4.nm, .slice v4.A v4.ll v4.cap, .int .i64 v4.p]) (heapN rfl _)
           · exact one_fv
           · have := HB.out.size; have := HB4.out.size; simp; omega
           intro g5 cap5 w5 ho5 hg5 hat5 hlt5
           have hb5 : Bx w5 (w.heap.size + 1 + 1) 32 [.string o, .string nm, .slice A k cap, .int .i64 p] := (hg5.block (w.heap.size + 1 + 1) (by simp; omega) (own_ne2F HO.out (by omega))).trans (heap_oldF HB34.out _)
           obtain ⟨d0, d1, d2, d3⟩ := Bx.cells4 hb5
           have f3 := hb5.frozen 2
           have hb3l5 := hb5.lt
           have HB35 := Lib.hid hb5
           have HG5 := Lib.hid hg5
           have HO5 := Lib.hid ho5
           have HAT5 := Lib.hid hat5
           clear hb5 hg5 ho5 hat5))
      all_goals
        have HRL := Lib.hid (to_stepF (v := (k : Int) + 1) rfl kk hlt HB.out HB4.out HC4.out HO.out HO5.out HG5.out HAT5.out HK.out HB1.out HB2.out HH2.out HB3.out HB35.out)
        go_wp2
        go_roundw
        case rel => exact HRL.out
        case measure => simp [intOf]; omega
    · have c4 : decide ((k : Int) < (N : Int)) = false := by simp; omega
      have c5 : decide (k < N) = false := by simpa using hlt
      have hkN : k = N := by omega
      subst hkN
      obtain ⟨b0, b1, b2, b3⟩ := Bx.cells4 hB1
      obtain ⟨d0, d1, d2, d3⟩ := Bx.cells4 hB3
      obtain ⟨e0, e1, e2, e3⟩ := Bx.cells4 hB2
      obtain ⟨z0, z1, z2, z3⟩ := Bx.frozen4 hB2
      have hb1l := hB1.lt
      have hb2l := hB2.lt
      have hb3l := hB3.lt
      have hK' : KLF wr 32 (fun j => w.heap.size + 1 + 1 + 1 ≤ j) x.kids cs := by
        have h1 : x.kids.take k = x.kids := List.take_of_length_le (by rw [← HN.out]; omega)
        rw [h1] at hK
        exact hK.wide (fun j _ hj => hj.1)
      have HF := Lib.hid (HFIN.out wr _ A cap cs hk0 hO hK')
      have HB2 := Lib.hid hB2
      have HB := Lib.hid hb
      clear hB3 hO hK hB1 hB2 hh hb hk0 hK' HFIN
      go_wp2
      obtain ⟨y0, y1, y2, y3⟩ := (Bx.set4 (x0 := .string o) (x1 := .string nm) (x2 := .slice A k cap) (x3 := .int .i64 p) HB2.out).cells4
      refine bodyPost_ret (v := .agg #[.string o, .string nm, .slice A k cap, .int .i64 p]) (by simp [results, Tryz.results12, go_sem, y0, y1, y2, y3]) rfl ⟨⟨o, nm, A, k, cap, p⟩, rfl, ?_, ?_⟩
      · exact ((FOT.setS4 (o := some x) (v := ⟨o, nm, A, k, cap, p⟩) (show FOT 32 wr _ (some x) ⟨o, nm, A, k, cap, p⟩ from HF.out) (by omega)).wide (T := Rg w.heap.size _) (fun j hj h => ⟨by omega, hj⟩))
      · exact (((HB.out.setCell (p := ⟨w.heap.size + 1, 0, none⟩) (by show w.heap.size ≤ w.heap.size + 1; omega) _).setCell (p := ⟨w.heap.size + 1, 1, none⟩) (by show w.heap.size ≤ w.heap.size + 1; omega) _).setCell (p := ⟨w.heap.size + 1, 2, none⟩) (by show w.heap.size ≤ w.heap.size + 1; omega) _).setCell (p := ⟨w.heap.size + 1, 3, none⟩) (by show w.heap.size ≤ w.heap.size + 1; omega) _
theorem pto_any : ∀ x : Fo, ToCF x
  | .leaf _ _ _ => pto_of (by simp [Fo.kids])
  | .un _ a _ => pto_of (by simp only [Fo.kids, List.mem_singleton]; rintro x rfl; exact pto_any x)
  | .bin _ a b _ => pto_of (by
      have h1 := pto_any a
      have h2 := pto_any b
      simp only [Fo.kids, List.mem_cons, List.not_mem_nil, or_false]
      rintro x (rfl | rfl) <;> assumption)
end Go.Proofs.YtjhicgllofjpoaaGreatDoor
