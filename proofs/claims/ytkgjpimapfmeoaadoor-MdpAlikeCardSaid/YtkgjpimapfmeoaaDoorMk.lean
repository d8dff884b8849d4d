/-
  Of, walked.
-/
import Derived.Test.YtkgjpimapfmeoaaDoorMj
import Derived.Maps.AppendAt
import Derived.Laws.AppendOwnNone
import Derived.Deep.RegionLaw
import Derived.Deep.CutRange
namespace Go.Proofs.YtkgjpimapfmeoaaDoor
open Go.RowKit

def O1 (p : PrO) (w : World) (mc : List Value) (B : Option Addr) (b : Nat) (i : Value) (wr : World) : Prop :=
  ∃ (k : Nat) (A : Option Addr) (a : Nat), i = .int .i64 (k : Int) ∧ k ≤ p.chs.length ∧ OS p w mc B b k 0 A a none 0 wr
def O2 (cs : List ChO) (wi : World) (v i : Value) (wr : World) : Prop :=
  ∃ (k : Nat) (A : Option Addr) (a : Nat) (rc : List Value), i = .int .i64 (k : Int) ∧ v = .slice A k a ∧ k ≤ cs.length ∧ wr.ownsRow wi.heap.size 49 2 (.slice A k a) k rc ∧ LI (ChI wr) wi.heap.size wr.heap.size (cs.take k) rc ∧ Below wi.heap.size wi wr
def O3 (act : ByteArray) (mv : List MvO) (wk : World) (i : Value) (wr : World) : Prop :=
  ∃ (k : Nat) (A : Option Addr) (a : Nat), i = .int .i64 (k : Int) ∧ k ≤ mv.length ∧ Bx wr wk.heap.size 49 [.string act, .slice A k a] ∧ wr.ownsRow (wk.heap.size + 1) 60 2 (.slice A k a) k (mvc (mv.take k)) ∧ Below wk.heap.size wk wr
def O4 (p : PrO) (w : World) (mc : List Value) (B : Option Addr) (b : Nat) (A : Option Addr) (a : Nat) (i : Value) (wr : World) : Prop :=
  ∃ (r : Nat) (C : Option Addr) (c : Nat), i = .int .i64 (r : Int) ∧ r ≤ p.hds.length ∧ OS p w mc B b p.chs.length r A a C c wr
/-- What Of leaves: a process in blocks of its own. -/
def OfP (p : PrO) (w : World) (e : Ending) (w' : World) : Prop := ∃ v : PV, e = .returned (.agg (v.l p).toArray) ∧ PrI w' w.heap.size w'.heap.size v p ∧ Below w.heap.size w w'
theorem two_cells {x y : Value} (h1 : x.oneCell' = true) (h2 : y.oneCell' = true) : ∀ u ∈ [x, y], u.oneCell' = true := by
  intro u hu
  simp only [List.mem_cons, List.not_mem_nil, or_false] at hu
  rcases hu with rfl | rfl
  · exact h1
  · exact h2
theorem lies_at {w : World} {q : Nat} {t : TypeId} {cs : List Value} (h : Bx w q t cs) : ∀ (j : Nat) (u : Value), cs[j]? = some u → w.cell? ((⟨q, 0, none⟩ : Addr).add j) = some u := by
  intro j u hu
  rw [own_addM, h.cell j]
  exact hu
theorem add_off (g o j : Nat) : (⟨g, o, none⟩ : Addr).add j = ⟨g, o + j, none⟩ := by
  unfold Addr.add
  by_cases h0 : j = 0 <;> simp [h0]
theorem own_form {w : World} {lo : Nat} {t : TypeId} {sz n : Nat} {v : Value} {cs : List Value} (h : w.ownsRow lo t sz v n cs) : ∃ A cap, v = .slice A n cap := by
  rcases h.2 with ⟨rfl, rfl⟩ | ⟨g, cap, cur, rfl, _⟩
  · exact ⟨none, 0, rfl⟩
  · exact ⟨_, _, rfl⟩
theorem Bx.grownN {w w' : World} {q : Nat} {t : TypeId} {cs : List Value} (h : Bx w q t cs) (hg : w.grownBy w' none) : Bx w' q t cs := (hg.block q h.lt (by simp)).trans h
/-- 'append' onto a row of one's own, of whatever slice, at a step of a region that draws its order. -/
theorem step_append_src {P : Program} {w : World} {ops : Array Oper} {o : Oper} {a : Act} {K : Act → World → Prop} {Q : Exit → Act → World → Prop} {E : Prop} (hgd : o.guard = none) (s x : Operand) (t : TypeId)
    (ho : o.op = .call { callee := .builtin .append, args := #[s, x], argTypes := #[t, t] })
    (base : Nat) (e : TypeId) (i : TypeInfo) (z : Value) (size bytes : Nat) (ht : P.underlying t = some (.slice e)) (hi : P.info? e = some i) (hz : i.zero = some z)
    (hsize : i.size = size) (hby : i.bytes = bytes) (hzs : z.cells.size = size) (hsz : 0 < size)
    (A0 : Option Addr) (n cap0 : Nat) (xs : List Value) (hs : a.eval s = .slice A0 n cap0) (hown : w.ownsRow base e size (.slice A0 n cap0) n xs)
    (B : Option Addr) (m c : Nat) (news : List Value) (hx : a.eval x = .slice B m c) (hB : B = none → m = 0 ∧ c = 0) (hl : news.length = m * size) (hnews : ∀ ad, B = some ad → ∀ j u, news[j]? = some u → w.cell? (ad.add j) = some u) (h1 : ∀ u ∈ news, u.oneCell' = true)
    (h63 : n + m ≤ maxLen) (hbytes : (n + m) * bytes ≤ 140737488355328) (hbase : base ≤ w.heap.size)
    (h : ∀ A cap w', w'.ownsRow base e size (.slice A (n + m) cap) (n + m) (xs ++ news) → w.grownBy w' (Value.slice A0 n cap0).ownBlock → K (a.put o.dst (.slice A (n + m) cap)) w') :
    if Region.wanted o (yielded ops a.tmps) = true then Oper.wp P o a w K Q else E := by
  have hw : Region.wanted o (yielded ops a.tmps) = true := by simp [Region.wanted, hgd]
  rw [if_pos hw]
  cases B with
  | none =>
    obtain ⟨rfl, rfl⟩ := hB rfl
    have hn : news = [] := List.eq_nil_of_length_eq_zero (by simpa using hl)
    subst hn
    have hr := run_append_owned_none (P := P) (w := w) base t o.type e i size ht hi _ n xs hown
    unfold Oper.wp execOp
    simp only [ho, resolve, invoke, builtin, Sem.run_bind, Sem.run_pure, Result.andThen_ok, List.map_toArray, List.map_cons, List.map_nil, hs, hx, hr]
    exact h A0 cap0 w (by rw [List.append_nil]; exact hown) ⟨rfl, rfl, rfl, Nat.le_refl _, fun _ _ _ => rfl⟩
  | some ad =>
    obtain ⟨v', w', hr, h2, h3, h4, h5⟩ := run_append_own_at (P := P) w base t o.type e i z size bytes ht hi hz hsize hby hzs hsz _ n xs hown ad m c news hl (hnews ad rfl) h1 h63 hbytes hbase
    obtain ⟨A, cap, rfl⟩ := own_form h2
    unfold Oper.wp execOp
    simp only [ho, resolve, invoke, builtin, Sem.run_bind, Sem.run_pure, Result.andThen_ok, List.map_toArray, List.map_cons, List.map_nil, hs, hx, hr]
    exact h A cap w' h2 h3
theorem Bx.set4 {w : World} {q : Nat} {t : TypeId} {a b c d x0 x1 x2 x3 : Value} (h : Bx w q t [a, b, c, d]) : Bx ((((w.setCell ⟨q, 0, none⟩ x0).setCell ⟨q, 1, none⟩ x1).setCell ⟨q, 2, none⟩ x2).setCell ⟨q, 3, none⟩ x3) q t [x0, x1, x2, x3] := (((h.set 0 x0).set 1 x1).set 2 x2).set 3 x3
theorem PrI.wk {w : World} {l h l' : Nat} {v : PV} {p : PrO} (hp : PrI w l h v p) (hl : l' ≤ l) : PrI w l' h v p := by
  obtain ⟨⟨rc, h1, h2, h3⟩, ⟨h4, h5⟩, ⟨rh, h6, h7, h8⟩⟩ := hp
  exact ⟨⟨rc, own_lo h1 hl, h2, li_lo (P := StI w) (fun _ _ _ _ _ hx hy => StI.wk hy hx) hl h3⟩, ⟨own_lo h4 hl, h5⟩, ⟨rh, own_lo h6 hl, h7, li_lo (P := HdI w) (fun _ _ _ _ _ hx hy => HdI.wk hy hx) hl h8⟩⟩
theorem os_end {p : PrO} {w : World} {mc : List Value} {B : Option Addr} {b n N m : Nat} {A : Option Addr} {a : Nat} {C : Option Addr} {c : Nat} {wr : World} {x0 x1 x2 x3 : Value} (h : OS p w mc B b n N A a C c wr) (hn : n = p.chs.length) (_hm : m = p.nms.length) (hN : N = p.hds.length) :
    PrI ((((wr.setCell ⟨w.heap.size + 1, 0, none⟩ x0).setCell ⟨w.heap.size + 1, 1, none⟩ x1).setCell ⟨w.heap.size + 1, 2, none⟩ x2).setCell ⟨w.heap.size + 1, 3, none⟩ x3) w.heap.size ((((wr.setCell ⟨w.heap.size + 1, 0, none⟩ x0).setCell ⟨w.heap.size + 1, 1, none⟩ x1).setCell ⟨w.heap.size + 1, 2, none⟩ x2).setCell ⟨w.heap.size + 1, 3, none⟩ x3).heap.size ⟨A, a, B, b, C, c⟩ p := by
  subst hn hN
  obtain ⟨h1, ⟨rc, h2, h3⟩, h4, ⟨rh, h5, h6⟩, h7, h8, h9⟩ := h
  rw [List.take_of_length_le (Nat.le_refl _)] at h3 h6
  have hP : PrI wr (w.heap.size + 1 + 1 + 1) wr.heap.size ⟨A, a, B, b, C, c⟩ p := ⟨⟨rc, h2, own_hi h2, h3⟩, ⟨h4, own_hi h4⟩, ⟨rh, h5, own_hi h5, h6⟩⟩
  have hk := fun (W : World) (i : Nat) (u : Value) => (fun k _ _ h1 _ _ h0 => (Below.heap_setCell W ⟨w.heap.size + 1, i, none⟩ u k (by show k ≠ w.heap.size + 1; omega)).trans h0 : Kp (w.heap.size + 1 + 1 + 1) wr.heap.size (fun _ => True) W (W.setCell ⟨w.heap.size + 1, i, none⟩ u))
  have := ((((hP.keep (hk _ 0 x0)).keep (hk _ 1 x1)).keep (hk _ 2 x2)).keep (hk _ 3 x3)).wk (l' := w.heap.size) (by omega)
  simpa using this
theorem o3_step {act : ByteArray} {mv : List MvO} {wk wr w5 : World} {j : Nat} {A3 : Option Addr} {a3 g5 cap5 : Nat} {o : Obj} {c : List Value} (hj : j < mv.length) (hc : c = [iv mv[j].to, iv mv[j].wt]) (hb : Below wk.heap.size wk wr) (hr : wr.ownsRow (wk.heap.size + 1) 60 2 (.slice A3 j a3) j (mvc (mv.take j)))
    (hx : Bx w5 wk.heap.size 49 [.string act, .slice A3 j a3]) (ho : w5.ownsRow (wk.heap.size + 1) 60 2 (.slice (some ⟨g5, 0, none⟩) (j + 1) cap5) (j + 1) (mvc (mv.take j) ++ c)) (hg : (wr.drew.alloc o).grownBy w5 (Value.slice A3 j a3).ownBlock) {z : Int} (hz : z = ((j + 1 : Nat) : Int)) :
    O3 act mv wk (.int .i64 z) (w5.setCell ⟨wk.heap.size, 1, none⟩ (.slice (some ⟨g5, 0, none⟩) (j + 1) cap5)) := by
  have hs := hb.size
  refine ⟨j + 1, some ⟨g5, 0, none⟩, cap5, by rw [hz], hj, hx.set 1 _, ?_, ?_⟩
  · rw [take_snoc hj, mvc_snoc, ← hc]
    exact own_kept ho fun g hg => Below.heap_setCell _ _ _ _ (by have := (ho.lt g hg).1; show g ≠ wk.heap.size; omega)
  · exact ((below_t hb (((Below.refl _ _).drew).alloc (Nat.le_refl _) o)).grown hg (by simp; omega) (fun g hg => by have := (hr.lt g hg).1; omega)).setCell (Nat.le_refl _) _
theorem o2_step {cs : List ChO} {act : ByteArray} {mv : List MvO} {wi wk wr w7 : World} {c : Nat} {A2 : Option Addr} {a2 : Nat} {rc : List Value} {A3 : Option Addr} {a3 g7 cap7 : Nat} (hc : c < cs.length) (hch : (⟨act, mv⟩ : ChO) = cs[c]) (hrow : wk.ownsRow wi.heap.size 49 2 (.slice A2 c a2) c rc) (hli : LI (ChI wk) wi.heap.size wk.heap.size (cs.take c) rc)
    (hbi : Below wi.heap.size wi wk) (hbk : Below wk.heap.size wk wr) (hr3 : wr.ownsRow (wk.heap.size + 1) 60 2 (.slice A3 mv.length a3) mv.length (mvc mv)) (hlt : wk.heap.size < wr.heap.size) (ho : w7.ownsRow wi.heap.size 49 2 (.slice (some ⟨g7, 0, none⟩) (c + 1) cap7) (c + 1) (rc ++ [.string act, .slice A3 mv.length a3]))
    (hg : (wr.alloc (.cells #[.string act, .slice A3 mv.length a3] 49)).grownBy w7 (Value.slice A2 c a2).ownBlock) {z : Int} (hz : z = ((c + 1 : Nat) : Int)) : O2 cs wi (.slice (some ⟨g7, 0, none⟩) (c + 1) cap7) (.int .i64 z) w7 := by
  have h1 := hbi.size
  have h2 : wr.heap.size + 1 ≤ w7.heap.size := by have := hg.size; simpa using this
  have hrA := own_belowM (own_belowM hrow hbk) (below_alloc wr (.cells #[.string act, .slice A3 mv.length a3] 49))
  have kpB : ∀ {lo hi : Nat}, hi ≤ wr.heap.size → Kp lo hi TM wr w7 := fun hh => (Kp.of (below_alloc wr (.cells #[.string act, .slice A3 mv.length a3] 49)) hh).trans (kp_grown hrA hg (fun t ht => by have : t = 60 := ht; subst this; decide) (by simp; omega))
  refine ⟨c + 1, some ⟨g7, 0, none⟩, cap7, rc ++ [.string act, .slice A3 mv.length a3], by rw [hz], rfl, hc, ho, ?_, ?_⟩
  · rw [take_snoc hc]
    refine LI.snoc (P := ChI w7) (fun _ _ _ _ _ hx hy => ChI.wk hy hx) (hi := wk.heap.size) (l2 := wk.heap.size + 1) ?_ (by omega) (by omega) (by omega) ?_
    · exact hli.imp fun l h a c hl hh hp => (hp.keep (Kp.of hbk (by omega))).keep (kpB (by omega))
    · rw [← hch]
      have hch2 : ChI wr (wk.heap.size + 1) wr.heap.size ⟨act, mv⟩ [.string act, .slice A3 mv.length a3] := ⟨A3, a3, rfl, hr3, own_hi hr3⟩
      exact chI_mono (h := wr.heap.size) (by omega) (hch2.keep (kpB (Nat.le_refl _)))
  · exact ((below_t hbi hbk).alloc (by have := hbk.size; omega) _).grown hg (by simp; have := hbk.size; omega) (fun g hg => (hrow.lt g hg).1)
set_option maxHeartbeats 16000000 in
set_option maxRecDepth 100000 in
theorem of_any {p : PrO} {v : PV} (w : World) (hp : PrM w v p) (hs : Sml p) : Calls Tryd.prog 8 #[.agg (v.l p).toArray] w (OfP p w) := by
  obtain ⟨i0, hi0, hz⟩ := Option.map_eq_some_iff.1 infoMv
  simp only [Prod.mk.injEq] at hz
  obtain ⟨hz0, hz1, hz2⟩ := hz
  have HI := Lib.hid hi0
  have HZ0 := Lib.hid hz0
  have HZ1 := Lib.hid hz1
  have HZ2 := Lib.hid hz2
  obtain ⟨i1, hi1, hy⟩ := Option.map_eq_some_iff.1 infoCh
  simp only [Prod.mk.injEq] at hy
  obtain ⟨hy0, hy1, hy2⟩ := hy
  have HJ := Lib.hid hi1
  have HY0 := Lib.hid hy0
  have HY1 := Lib.hid hy1
  have HY2 := Lib.hid hy2
  obtain ⟨i2, hi2, hx⟩ := Option.map_eq_some_iff.1 infoChs
  simp only [Prod.mk.injEq] at hx
  obtain ⟨hx0, hx1, hx2⟩ := hx
  have HK := Lib.hid hi2
  have HX0 := Lib.hid hx0
  have HX1 := Lib.hid hx1
  have HX2 := Lib.hid hx2
  obtain ⟨i3, hi3, hu⟩ := Option.map_eq_some_iff.1 infoStr
  simp only [Prod.mk.injEq] at hu
  obtain ⟨hu0, hu1, hu2⟩ := hu
  have HL3 := Lib.hid hi3
  have HU0 := Lib.hid hu0
  have HU1 := Lib.hid hu1
  have HU2 := Lib.hid hu2
  obtain ⟨i4, hi4, ht⟩ := Option.map_eq_some_iff.1 infoI
  simp only [Prod.mk.injEq] at ht
  obtain ⟨ht0, ht1, ht2⟩ := ht
  have HM4 := Lib.hid hi4
  have HV0 := Lib.hid ht0
  have HV1 := Lib.hid ht1
  have HV2 := Lib.hid ht2
  obtain ⟨i5, hi5, hq⟩ := Option.map_eq_some_iff.1 infoInts
  simp only [Prod.mk.injEq] at hq
  obtain ⟨hq0, hq1, hq2⟩ := hq
  have HK5 := Lib.hid hi5
  have HT0 := Lib.hid hq0
  have HT1 := Lib.hid hq1
  have HT2 := Lib.hid hq2
  clear hi4 ht0 ht1 ht2 hi5 hq0 hq1 hq2
  have HCH := Lib.hid hp.ch
  have HNM := Lib.hid hp.nm
  have HNB := Lib.hid hp.nmb
  have HHD := Lib.hid hp.hd
  have HS := Lib.hid hs
  obtain ⟨n, hn⟩ : ∃ n, n = p.chs.length := ⟨_, rfl⟩
  obtain ⟨m, hm⟩ : ∃ m, m = p.nms.length := ⟨_, rfl⟩
  obtain ⟨N, hN⟩ : ∃ N, N = p.hds.length := ⟨_, rfl⟩
  have hn1 : n ≤ 1000000 := by rw [hn]; exact hs.ch
  have hm1 : m ≤ 1000000 := by rw [hm]; exact hs.nm
  have hN1 : N ≤ 1000000 := by rw [hN]; exact hs.hd
  have HN := Lib.hid hn
  have HM := Lib.hid hm
  have HNN := Lib.hid hN
  show Calls Tryd.prog 8 #[.agg #[.int .i64 p.init, .slice v.A p.chs.length v.a, .slice v.B p.nms.length v.b, .slice v.C p.hds.length v.c]] w _
  rw [← hn, ← hm, ← hN]
  clear hp hs hn hm hN hi0 hz0 hz1 hz2 hi1 hy0 hy1 hy2 hi2 hx0 hx1 hx2 hi3 hu0 hu1 hu2
  obtain ⟨init, hinit⟩ : ∃ x, x = p.init := ⟨_, rfl⟩
  have HIN := Lib.hid hinit
  rw [← hinit]
  clear hinit
  generalize v.A = vA at *
  generalize v.a = va at *
  generalize v.B = vB at *
  generalize v.b = vb at *
  generalize v.C = vC at *
  generalize v.c = vc at *
  obtain ⟨w3, hw3⟩ : ∃ w3, w3 = ((w.alloc (.cells #[.int .i64 init, .slice vA n va, .slice vB m vb, .slice vC N vc] 26)).alloc (.cells #[.int .i64 0, .slice none 0 0, .slice none 0 0, .slice none 0 0] 31)).alloc (.cells #[.int .i64 init, .slice none 0 0, .slice none 0 0, .slice none 0 0] 31) := ⟨_, rfl⟩
  have HX3 := Lib.hid (show Bx w3 (w.heap.size + 1 + 1) 31 [.int .i64 init, .slice none 0 0, .slice none 0 0, .slice none 0 0] by
    have := Bx.new ((w.alloc (.cells #[.int .i64 init, .slice vA n va, .slice vB m vb, .slice vC N vc] 26)).alloc (.cells #[.int .i64 0, .slice none 0 0, .slice none 0 0, .slice none 0 0] 31)) 31 [.int .i64 init, .slice none 0 0, .slice none 0 0, .slice none 0 0]
    rw [hw3]; simpa using this)
  have HR3 := Lib.hid (show Bx w3 (w.heap.size + 1) 31 [.int .i64 0, .slice none 0 0, .slice none 0 0, .slice none 0 0] by
    have := (Bx.new (w.alloc (.cells #[.int .i64 init, .slice vA n va, .slice vB m vb, .slice vC N vc] 26)) 31 [.int .i64 0, .slice none 0 0, .slice none 0 0, .slice none 0 0]).below (below_alloc _ (.cells #[.int .i64 init, .slice none 0 0, .slice none 0 0, .slice none 0 0] 31))
    rw [hw3]; simpa using this)
  have HM3 := Lib.hid (show Bx w3 w.heap.size 26 [.int .i64 init, .slice vA n va, .slice vB m vb, .slice vC N vc] by
    have := ((Bx.new w 26 [.int .i64 init, .slice vA n va, .slice vB m vb, .slice vC N vc]).below (below_alloc _ (.cells #[.int .i64 0, .slice none 0 0, .slice none 0 0, .slice none 0 0] 31))).below (below_alloc _ (.cells #[.int .i64 init, .slice none 0 0, .slice none 0 0, .slice none 0 0] 31))
    rw [hw3]; exact this)
  have HB3 := Lib.hid (show Below w.heap.size w w3 by rw [hw3]; exact below_t (below_t (below_alloc _ _) (below_alloc _ _)) (below_alloc _ _))
  have HZ3 := Lib.hid (show w3.heap.size = w.heap.size + 1 + 1 + 1 by rw [hw3]; simp)
  have HW3 := Lib.hid hw3
  clear hw3
  have hNE := World.ownsRow_nil w3 (w.heap.size + 1 + 1 + 1) 9 1
  have HROW0 := Lib.hid (show ∀ B b (W : World), W.ownsRow (w.heap.size + 1 + 1 + 1) 9 1 (.slice B m b) m (p.nms.map Value.string) → Bx W (w.heap.size + 1 + 1) 31 [.int .i64 init, .slice none 0 0, .slice B m b, .slice none 0 0] → Bx W w.heap.size 26 [.int .i64 init, .slice vA n va, .slice vB m vb, .slice vC N vc] → Bx W (w.heap.size + 1) 31 [.int .i64 0, .slice none 0 0, .slice none 0 0, .slice none 0 0] → Below w.heap.size w W →
      OS p w [.int .i64 init, .slice vA n va, .slice vB m vb, .slice vC N vc] B b 0 0 none 0 none 0 W from fun B b W h1 h2 h3 h4 h5 => by
    rw [HM.out] at h1 h2
    rw [HIN.out] at h2
    exact ⟨h2, ⟨[], World.ownsRow_nil _ _ _ _, rfl⟩, h1, ⟨[], World.ownsRow_nil _ _ _ _, rfl⟩, h3, h4, h5⟩)
  obtain ⟨y0, y1, y2, y3⟩ := HX3.out.cells4
  obtain ⟨z0, z1, z2, z3⟩ := HM3.out.cells4
  have f3 := HX3.out.frozen 2
  have hxl := HX3.out.lt
  have HOB := Lib.hid HX3
  go_enter Tryd.func8, Tryd.ntmps8
  go_upto_region 2 with fail
  rw [← HW3.out]
  go_cut [] from 13 to 18 (fun W => ∃ B b, OS p w [.int .i64 init, .slice vA n va, .slice vB m vb, .slice vC N vc] B b 0 0 none 0 none 0 W)
  case first =>
    cases hB : vB with
    | none =>
      have hm0 : m = 0 := by
        by_cases h : m = 0
        · exact h
        · obtain ⟨g, o, e, _⟩ := HNM.out 0 (by rw [← HM.out]; omega)
          rw [hB] at e; cases e
      have hvb : vb = 0 := HNB.out.2 hB
      subst hB hm0 hvb
      have HR0 := Lib.hid (show OS p w [.int .i64 init, .slice vA n va, .slice none 0 0, .slice vC N vc] none 0 0 0 none 0 none 0 (w3.setCell ⟨w.heap.size + 1 + 1, 2, none⟩ (.slice none 0 0)) from HROW0.out none 0 _ (by
        have h0 : p.nms = [] := List.eq_nil_of_length_eq_zero HM.out.symm
        rw [h0]; exact World.ownsRow_nil _ _ _ _) (HX3.out.set 2 (.slice none 0 0)) (HM3.out.put (by omega)) (HR3.out.put (by omega)) (HB3.out.setCell (by show w.heap.size ≤ w.heap.size + 1 + 1; omega) _))
      go_wp2_with (at_builtin; refine wpList_append_own_none rfl _ _ 23 rfl (w.heap.size + 1 + 1 + 1) 9 i3 1 Tryd.underlying23 HL3.out _ _ _ rfl hNE rfl ?_)
      go_meet
      exact ⟨_, _, HR0.out⟩
    | some ad =>
      subst hB
      have HNEW := Lib.hid (show ∀ (j : Nat) (u : Value), (p.nms.map Value.string)[j]? = some u → w3.cell? (ad.add j) = some u from fun j u hu => by
        rw [List.getElem?_map] at hu
        obtain ⟨x, hx, rfl⟩ := Option.map_eq_some_iff.1 hu
        obtain ⟨hj, rfl⟩ := List.getElem?_eq_some_iff.1 hx
        obtain ⟨g, o, e, hc⟩ := HNM.out j hj
        injection e with e
        rw [e, add_off]
        exact cell_blw HB3.out hc)
      go_wp2_with (at_builtin; refine wpList_append_own_at _ rfl _ _ 23 rfl (w.heap.size + 1 + 1 + 1) 9 i3 (.string ⟨#[]⟩) 1 16 Tryd.underlying23 HL3.out HU0.out HU1.out HU2.out rfl (by decide) (.slice none 0 0) 0 [] rfl hNE ad m vb (p.nms.map Value.string) rfl ?c1 HNEW.out ?c2 ?c3 ?c4 ?c5 ?_)
      case c1 => rw [List.length_map, ← HM.out, Nat.mul_one]
      case c2 => intro u hu; obtain ⟨x, _, rfl⟩ := List.mem_map.1 hu; rfl
      case c3 => unfold maxLen; omega
      case c4 => omega
      case c5 => rw [HZ3.out]; exact Nat.le_refl _
      intro v' w4 hown hgrow hnil hat
      obtain ⟨B, b, rfl⟩ := own_form hown
      have hg4 : w3.grownBy w4 none := hgrow
      have HX4 := Lib.hid (HX3.out.grownN hg4)
      have HR0 := Lib.hid (show OS p w [.int .i64 init, .slice vA n va, .slice (some ad) m vb, .slice vC N vc] B b 0 0 none 0 none 0 (w4.setCell ⟨w.heap.size + 1 + 1, 2, none⟩ (.slice B m b)) from HROW0.out B b _ (own_kept hown fun g hg => Below.heap_setCell _ _ _ _ (by have := (hown.lt g hg).1; show g ≠ w.heap.size + 1 + 1; omega)) (HX4.out.set 2 (.slice B m b)) ((HM3.out.grownN hg4).put (by omega)) ((HR3.out.grownN hg4).put (by omega)) ((HB3.out.grown hg4 (by rw [HZ3.out]; omega) (fun _ h => (by cases h))).setCell (by show w.heap.size ≤ w.heap.size + 1 + 1; omega) _))
      have q2 : w4.cell? ⟨w.heap.size + 1 + 1, 2, none⟩ = some (.slice none 0 0) := HX4.out.cell 2
      have g3 := HX4.out.frozen 2
      clear hown hgrow hnil hat hg4
      go_wp2
      go_meet
      exact ⟨_, _, HR0.out⟩
  case rest =>
    obtain ⟨B, b, hos⟩ := hcut
    have HOS := Lib.hid hos
    clear hos y0 y1 y2 y3 z0 z1 z2 z3 f3 hxl hNE HX3 HR3 HM3 HROW0 HOB HZ3
    go_wp2
    go_loopw [4] (fun i wr => O1 p w [.int .i64 init, .slice vA n va, .slice vB m vb, .slice vC N vc] B b i wr) (fun i _ => n - (intOf i).toNat)
    case atStart => exact ⟨0, none, 0, rfl, Nat.zero_le _, HOS.out⟩
    case round =>
      clear HOS
      obtain ⟨k, A, a, rfl, hk, hos⟩ := hrel
      have HOS := Lib.hid hos
      have HB := Lib.hid hos.blw
      clear hos
      obtain ⟨z0, z1, z2, z3⟩ := HOS.out.bm.cells4
      by_cases hlt : k < n
      · have e1 : decide (k < n) = true := by simp; omega
        have kk : k < p.chs.length := by rw [← HN.out]; exact hlt
        obtain ⟨gA, oA, BA, cap1, rfl, d0, hc1, hcl⟩ := HCH.out k kk
        have HCC := Lib.hid HCH
        clear HCH hk
        have HCL := Lib.hid hcl
        have HMV := Lib.hid (HS.out.mv _ (List.getElem_mem kk))
        have hlk : p.chs[k].length ≤ 1000000 := HS.out.cs _ (List.getElem_mem kk)
        obtain ⟨cs, hcs⟩ : ∃ cs, cs = p.chs[k] := ⟨_, rfl⟩
        rw [← hcs] at HCL HMV hlk d0 hc1
        have HCS := Lib.hid hcs
        obtain ⟨L, hL⟩ : ∃ L, L = cs.length := ⟨_, rfl⟩
        have HLL := Lib.hid hL
        rw [← hL] at hlk d0 hc1
        have D0 := Lib.hid d0
        clear hcl hcs hL d0
        obtain ⟨wi, rfl⟩ : ∃ wi, wi = wr := ⟨_, rfl⟩
        go_wp2
        go_loopw [5, 6] (fun v i W => O2 cs wi v i W) (fun _ i _ => L - (intOf i).toNat)
        case atStart => exact ⟨0, none, 0, [], rfl, rfl, Nat.zero_le _, World.ownsRow_nil _ _ _ _, rfl, Below.refl _ _⟩
        case round =>
          clear z0 z1 z2 z3
          obtain ⟨c, A2, a2, rc, rfl, rfl, hc, hrow, hli, hbi⟩ := hrel
          have HROW := Lib.hid hrow
          have HLI := Lib.hid hli
          have HBI := Lib.hid hbi
          have HOSi := Lib.hid (HOS.out.below hbi)
          clear hrow hli hbi
          obtain ⟨z0, z1, z2, z3⟩ := HOSi.out.bm.cells4
          have d1 := cell_blw HOSi.out.blw D0.out
          by_cases hcL : c < L
          · have e2 : decide (c < L) = true := by simp; omega
            have kc : c < cs.length := by rw [← HLL.out]; exact hcL
            obtain ⟨g2, o2, B2, cap2, rfl, k1, k2, hc2, hml⟩ := HCL.out c kc
            have HCX := Lib.hid HCL
            clear HCL hc
            have HML := Lib.hid hml
            have hmk : cs[c].mv.length ≤ 1000000 := HMV.out _ (List.getElem_mem kc)
            obtain ⟨ch, hch⟩ : ∃ ch, ch = cs[c] := ⟨_, rfl⟩
            rw [← hch] at HML hmk k1 k2 hc2
            have HCHX := Lib.hid hch
            clear hml hch
            obtain ⟨act, mv⟩ := ch
            simp only at HML hmk k1 k2 hc2
            obtain ⟨M, hM⟩ : ∃ M, M = mv.length := ⟨_, rfl⟩
            have HMM := Lib.hid hM
            rw [← hM] at k2 hc2 hmk
            clear hM
            have K2 := Lib.hid k2
            clear k2
            replace k1 := cell_blw HOSi.out.blw k1
            obtain ⟨wk, rfl⟩ : ∃ wk, wk = wr := ⟨_, rfl⟩
            go_wp2_with fail
            go_loopw [8] (fun j W => O3 act mv wk j W) (fun j _ => M - (intOf j).toNat)
            case atStart => exact ⟨0, none, 0, rfl, Nat.zero_le _, Bx.new _ _ _, World.ownsRow_nil _ _ _ _, below_alloc _ _⟩
            case round =>
              clear z0 z1 z2 z3 d1 k1
              obtain ⟨j, A3, a3, rfl, hj, hbx, hr3, hbk⟩ := hrel
              have HBX := Lib.hid hbx
              have HR3 := Lib.hid hr3
              have HBK := Lib.hid hbk
              have HOSk := Lib.hid (HOSi.out.below hbk)
              have hbl := hbx.lt
              have hkz := hbk.size
              obtain ⟨z0, z1, z2, z3⟩ := HOSk.out.bm.cells4
              have d1 := cell_blw HOSk.out.blw D0.out
              have k2 := cell_blw HOSk.out.blw K2.out
              have k2' := k2
              rw [← Nat.add_assoc] at k2'
              have x0 : wr.cell? ⟨wk.heap.size, 0, none⟩ = some (.string act) := hbx.cell 0
              have x1 : wr.cell? ⟨wk.heap.size, 1, none⟩ = some (.slice A3 j a3) := hbx.cell 1
              have f1 := hbx.frozen 1
              clear hbx hr3 hbk
              by_cases hjM : j < M
              · have e3 : decide (j < M) = true := by simp; omega
                have kj : j < mv.length := by rw [← HMM.out]; exact hjM
                obtain ⟨g4, o4, rfl, m1, m2⟩ := HML.out j kj
                have HMX := Lib.hid HML
                clear HML hj
                replace m1 := cell_blw HOSk.out.blw m1
                replace m2 := cell_blw HOSk.out.blw m2
                have m2' := m2
                rw [← Nat.add_assoc] at m2'
                have HSN := Lib.hid (show [iv mv[j].to, iv mv[j].wt] = [iv mv[j].to, iv mv[j].wt] from rfl)
                obtain ⟨tz, htz⟩ : ∃ z, z = mv[j].to := ⟨_, rfl⟩
                obtain ⟨wt, hwt⟩ : ∃ z, z = mv[j].wt := ⟨_, rfl⟩
                rw [← htz] at m1
                rw [← hwt] at m2 m2'
                replace HSN := Lib.hid (show [iv tz, iv wt] = [iv mv[j].to, iv mv[j].wt] by rw [htz, hwt])
                clear htz hwt
                have HBA := Lib.hid (show Below wr.heap.size wr (wr.drew.alloc (.cells #[.int .i64 tz, .int .i64 wt] 60)) from ((Below.refl _ _).drew).alloc (Nat.le_refl _) _)
                have HO := Lib.hid (own_belowM HR3.out HBA.out)
                have HBXA := Lib.hid (HBX.out.below HBA.out)
                have HNB2 := Lib.hid (Bx.new wr.drew 60 [.int .i64 tz, .int .i64 wt])
                go_wp2_with fail
                go_region_law (refine step_append_lies (wr.drew.alloc (.cells #[.int .i64 tz, .int .i64 wt] 60)) rfl (.tmp 61) (.tmp 74) 47 rfl (wk.heap.size + 1) 60 i0 (.agg #[.int .i64 0, .int .i64 0]) 2 16 Tryd.underlying47 HI.out HZ0.out HZ1.out HZ2.out rfl (by decide) (.slice A3 j a3) j _ ?_ HO.out ⟨wr.heap.size, 0, none⟩ 1 1 [.int .i64 tz, .int .i64 wt] ?_ rfl ?_ ?_ (by omega) (by unfold maxLen; omega) (by omega) ?_ (wr.heap.size + 1) (by simp) ?_
                               · simp [Act.eval]
                               · simp [Act.eval]
                               · exact lies_at HNB2.out
                               · exact two_cells rfl rfl
                               · simp; omega
                               intro g5 cap5 w5 ho5 hg5 hat5 hlt5
                               have hb5 := HBXA.out.grown HO.out hg5 (by decide)
                               have x0 : w5.cell? ⟨wk.heap.size, 0, none⟩ = some (.string act) := hb5.cell 0
                               have x1 : w5.cell? ⟨wk.heap.size, 1, none⟩ = some (.slice A3 j a3) := hb5.cell 1
                               have f1 := hb5.frozen 1
                               have hbl5 := hb5.lt
                               have HB5 := Lib.hid hb5
                               have HG5 := Lib.hid hg5
                               have HO5 := Lib.hid ho5
                               clear hb5 hg5 ho5 hat5)
                all_goals
                  go_wp2
                  go_roundw
                  case rel => exact o3_step kj HSN.out HBK.out HR3.out HB5.out HO5.out HG5.out (by go_num)
                  case measure => simp [intOf]; omega
              · have e3 : decide (j < M) = false := by simp; omega
                have hjM' : j = mv.length := by have := HMM.out; omega
                have HR4 := Lib.hid (show wr.ownsRow (wk.heap.size + 1) 60 2 (.slice A3 mv.length a3) mv.length (mvc mv) by
                  have h := HR3.out
                  rw [hjM', List.take_of_length_le (Nat.le_refl _)] at h
                  exact h)
                have HO := Lib.hid (own_belowM (own_belowM HROW.out HBK.out) (below_alloc wr (.cells #[.string act, .slice A3 j a3] 49)))
                have hcl2 : c ≤ 1000000 := by omega
                have hiz := HBI.out.size
                have HJ2 := Lib.hid hjM'
                clear hjM hj hjM'
                go_wp2_with (at_builtin; refine wpList_append_lies _ rfl _ _ 50 rfl wi.heap.size 49 i1 (.agg #[.string ⟨#[]⟩, .slice none 0 0]) 2 40 Tryd.underlying50 HJ.out HY0.out HY1.out HY2.out rfl (by decide) (.slice A2 c a2) c rc rfl HO.out ⟨wr.heap.size, 0, none⟩ 1 1 [.string act, .slice A3 j a3] rfl rfl ?a1 ?a2 (by omega) ?a3 ?a4 ?a5 (wr.heap.size + 1) (by simp) ?_)
                case a1 => exact lies_at (Bx.new wr 49 [.string act, .slice A3 j a3])
                case a2 => exact two_cells rfl rfl
                case a3 => unfold maxLen; omega
                case a4 => omega
                case a5 => simp; omega
                intro g7 cap7 w7 ho7 hg7 hat7 hlt7
                have HRL := Lib.hid (show O2 cs wi (.slice (some ⟨g7, 0, none⟩) (c + 1) cap7) (.int .i64 ((c + 1 : Nat) : Int)) w7 from o2_step kc HCHX.out HROW.out HLI.out HBI.out HBK.out HR4.out hbl (by rw [HJ2.out] at ho7; exact ho7) (by rw [HJ2.out] at hg7; exact hg7) rfl)
                clear ho7 hg7 hat7
                go_wp2
                go_roundw
                case rel => exact HRL.out
                case measure => simp [intOf]; omega
          · have e2 : decide (c < L) = false := by simp; omega
            have hcL' : c = cs.length := by have := HLL.out; omega
            have HST := Lib.hid (show StI wr wi.heap.size wr.heap.size p.chs[k] [.slice A2 c a2] by
              have h1 := HROW.out
              have h2 := HLI.out
              rw [← HCS.out]
              rw [hcL'] at h1 h2 ⊢
              rw [List.take_of_length_le (Nat.le_refl _)] at h2
              exact ⟨A2, a2, rc, rfl, h1, own_hi h1, h2⟩)
            obtain ⟨rc1, hr1, hli1⟩ := HOS.out.ch
            have HR1 := Lib.hid hr1
            have HLI1 := Lib.hid hli1
            have HO := Lib.hid (own_belowM (own_belowM hr1 HBI.out) (below_alloc wr (.cells #[.slice A2 c a2] 50)))
            have HXA := Lib.hid (HOSi.out.x.below (below_alloc wr (.cells #[.slice A2 c a2] 50)))
            have x1 : wr.cell? ⟨w.heap.size + 1 + 1, 1, none⟩ = some (.slice A k a) := HOSi.out.x.cell 1
            have hxl := HOSi.out.x.lt
            have hlo := HOS.out.x.lt
            have hiz := HBI.out.size
            clear hr1 hli1 hcL hc hcL'
            go_wp2_with (at_builtin; refine wpList_append_lies _ rfl _ _ 29 rfl (w.heap.size + 1 + 1 + 1) 50 i2 (.slice none 0 0) 1 24 Tryd.underlying29 HK.out HX0.out HX1.out HX2.out rfl (by decide) (.slice A k a) k rc1 rfl HO.out ⟨wr.heap.size, 0, none⟩ 1 1 [.slice A2 c a2] rfl rfl ?b1 ?b2 (by omega) ?b3 ?b4 ?b5 (wr.heap.size + 1) (by simp) ?_)
            case b1 => exact lies_at (Bx.new wr 50 [.slice A2 c a2])
            case b2 => intro u hu; simp only [List.mem_singleton] at hu; subst hu; rfl
            case b3 => unfold maxLen; omega
            case b4 => omega
            case b5 => simp; omega
            intro g7 cap7 w7 ho7 hg7 hat7 hlt7
            have HRL := Lib.hid (HOS.out.more HBI.out kk HST.out (Nat.le_refl _) hiz HR1.out HLI1.out ho7 hg7 hlo)
            have HX7 := Lib.hid (HXA.out.grown HO.out hg7 (by decide))
            have x2 : w7.cell? ⟨w.heap.size + 1 + 1, 1, none⟩ = some (.slice A k a) := HX7.out.cell 1
            have f2 := HX7.out.frozen 1
            clear ho7 hg7 hat7
            go_wp2
            go_roundw
            case rel => exact ⟨k + 1, some ⟨g7, 0, none⟩, cap7, by go_num, by have := HN.out; omega, HRL.out⟩
            case measure => simp [intOf]; omega
      · have e1 : decide (k < n) = false := by simp; omega
        have hkn : k = p.chs.length := by have := HN.out; omega
        have HOS2 := Lib.hid (show OS p w [.int .i64 init, .slice vA n va, .slice vB m vb, .slice vC N vc] B b p.chs.length 0 A a none 0 wr by have h := HOS.out; rwa [hkn] at h)
        clear hlt hk hkn HOS
        go_wp2
        go_loopw [9] (fun i wr => O4 p w [.int .i64 init, .slice vA n va, .slice vB m vb, .slice vC N vc] B b A a i wr) (fun i _ => N - (intOf i).toNat)
        case atStart => exact ⟨0, none, 0, rfl, Nat.zero_le _, HOS2.out⟩
        case round =>
          clear HOS2 z0 z1 z2 z3 e1 HB
          obtain ⟨r, C, c, rfl, hr, hos⟩ := hrel
          have HOS := Lib.hid hos
          clear hos
          obtain ⟨z0, z1, z2, z3⟩ := HOS.out.bm.cells4
          by_cases hrN : r < N
          · have e1 : decide (r < N) = true := by simp; omega
            have kr : r < p.hds.length := by rw [← HNN.out]; exact hrN
            obtain ⟨gC, oC, D, cap1, rfl, d0, hc1, hil⟩ := HHD.out r kr
            have HDD := Lib.hid HHD
            clear HHD hr
            replace d0 := cell_blw HOS.out.blw d0
            have hlk : p.hds[r].length ≤ 1000000 := HS.out.hs _ (List.getElem_mem kr)
            obtain ⟨h, hh⟩ : ∃ h, h = p.hds[r] := ⟨_, rfl⟩
            rw [← hh] at d0 hc1 hlk hil
            have HHH := Lib.hid hh
            obtain ⟨K, hK⟩ : ∃ K, K = h.length := ⟨_, rfl⟩
            have HKK := Lib.hid hK
            rw [← hK] at d0 hc1 hlk
            clear hh hK
            have HSRC := Lib.hid (show (D = none → K = 0 ∧ cap1 = 0) from fun e => ⟨by
              by_cases h0 : K = 0
              · exact h0
              · obtain ⟨g, o, e2, _⟩ := hil 0 (by rw [← HKK.out]; omega)
                rw [e] at e2
                exact absurd e2 (by simp), hc1.2 e⟩)
            have HBA := Lib.hid (show Below wr.heap.size wr (wr.drew.alloc (.cells #[] 3)) from ((Below.refl _ _).drew).alloc (Nat.le_refl _) _)
            have HNW := Lib.hid (show ∀ ad, D = some ad → ∀ (j : Nat) (u : Value), (h.map iv)[j]? = some u → (wr.drew.alloc (.cells #[] 3)).cell? (ad.add j) = some u from fun ad e j u hu => by
              rw [List.getElem?_map] at hu
              obtain ⟨x, hx, rfl⟩ := Option.map_eq_some_iff.1 hu
              obtain ⟨hj, rfl⟩ := List.getElem?_eq_some_iff.1 hx
              obtain ⟨g, o, e2, hc⟩ := hil j hj
              rw [e2] at e
              injection e with e
              rw [← e, add_off]
              exact cell_blw HBA.out (cell_blw HOS.out.blw hc))
            have HE0 := Lib.hid (show (wr.drew.alloc (.cells #[] 3)).ownsRow wr.heap.size 3 1 (.slice (some ⟨wr.heap.size, 0, none⟩) 0 0) 0 [] from ⟨rfl, .inr ⟨wr.heap.size, 0, #[], rfl, Nat.le_refl _, heap_alloc_new wr.drew _, Nat.le_refl _, by unfold maxLen; omega, rfl, rfl⟩⟩)
            obtain ⟨rh1, hr1, hli1⟩ := HOS.out.hd
            have HR1 := Lib.hid hr1
            have HLI1 := Lib.hid hli1
            have x3 : wr.cell? ⟨w.heap.size + 1 + 1, 3, none⟩ = some (.slice C r c) := HOS.out.x.cell 3
            have f3 := HOS.out.x.frozen 3
            have hxl := HOS.out.x.lt
            have hml : w.heap.size < wr.heap.size := HOS.out.bm.lt
            have hdl : gC < wr.heap.size := World.block_lt_of_cell? wr _ d0
            clear hr1 hli1 hil hc1
            go_wp2_with fail
            go_region_law (first
              | (refine step_append_src (w := wr.drew.alloc (.cells #[] 3)) rfl (.tmp 96) (.tmp 101) 36 rfl wr.heap.size 3 i4 (.int .i64 0) 1 8 Tryd.underlying36 HM4.out HV0.out HV1.out HV2.out rfl (by decide) (some ⟨wr.heap.size, 0, none⟩) 0 0 [] ?_ HE0.out D K cap1 (h.map iv) ?_ HSRC.out ?_ HNW.out ?_ ?_ ?_ ?_ ?_
                 · simp [Act.eval]
                 · simp [Act.eval]
                 · rw [List.length_map, ← HKK.out, Nat.mul_one]
                 · intro u hu; obtain ⟨x, _, rfl⟩ := List.mem_map.1 hu; rfl
                 · unfold maxLen; omega
                 · omega
                 · simp
                 intro F cap4 w4 ho4 hg4
                 have hb4 : Below wr.heap.size wr w4 := HBA.out.grown hg4 (by simp) (fun g hg => (HE0.out.lt g hg).1)
                 have HB4 := Lib.hid hb4
                 rw [Nat.zero_add, List.nil_append] at ho4
                 have HH4 := Lib.hid ho4
                 have x3 : w4.cell? ⟨w.heap.size + 1 + 1, 3, none⟩ = some (.slice C r c) := (HOS.out.x.below hb4).cell 3
                 have f3 := (HOS.out.x.below hb4).frozen 3
                 have hxl4 := (HOS.out.x.below hb4).lt
                 have HO4 := Lib.hid (own_belowM (own_belowM HR1.out hb4) (below_alloc w4 (.cells #[.slice F K cap4] 36)))
                 have HNB4 := Lib.hid (Bx.new w4 36 [.slice F K cap4])
                 clear ho4 hg4 hb4)
              | (refine step_append_lies (w4.alloc (.cells #[.slice F K cap4] 36)) rfl (.tmp 95) (.tmp 103) 24 rfl (w.heap.size + 1 + 1 + 1) 36 i5 (.slice none 0 0) 1 24 Tryd.underlying24 HK5.out HT0.out HT1.out HT2.out rfl (by decide) (.slice C r c) r rh1 ?_ HO4.out ⟨w4.heap.size, 0, none⟩ 1 1 [.slice F K cap4] ?_ rfl ?_ ?_ (by omega) (by unfold maxLen; omega) (by omega) ?_ (w4.heap.size + 1) (by simp) ?_
                 · simp [Act.eval]
                 · simp [Act.eval]
                 · exact lies_at HNB4.out
                 · intro u hu; simp only [List.mem_singleton] at hu; subst hu; rfl
                 · have := HB4.out.size; simp; omega
                 intro g7 cap7 w7 ho7 hg7 hat7 hlt7
                 have hx7 := (((HOS.out.x.below HB4.out).below (below_alloc w4 (.cells #[.slice F K cap4] 36)))).grown HO4.out hg7 (by decide)
                 have x3 : w7.cell? ⟨w.heap.size + 1 + 1, 3, none⟩ = some (.slice C r c) := hx7.cell 3
                 have f3 := hx7.frozen 3
                 have hxl7 := hx7.lt
                 have HG7 := Lib.hid hg7
                 have HO7 := Lib.hid ho7
                 clear hx7 ho7 hg7 hat7))
            all_goals
              have HRL := Lib.hid (HOS.out.hold HB4.out kr (st := [.slice F K cap4]) (show HdI w4 wr.heap.size w4.heap.size p.hds[r] [.slice F K cap4] by
                have h4 := HH4.out
                rw [← HHH.out]
                rw [HKK.out] at h4 ⊢
                exact ⟨F, cap4, rfl, h4, own_hi h4⟩) (Nat.le_refl _) HB4.out.size HR1.out HLI1.out HO7.out HG7.out hxl)
              go_wp2
              go_roundw
              case rel => exact ⟨r + 1, some ⟨g7, 0, none⟩, cap7, by go_num, by have := HNN.out; omega, HRL.out⟩
              case measure => simp [intOf]; omega
          · have e1 : decide (r < N) = false := by simp; omega
            have hrN' : r = p.hds.length := by have := HNN.out; omega
            have HF := Lib.hid (show OS p w [.int .i64 init, .slice vA n va, .slice vB m vb, .slice vC N vc] B b p.chs.length p.hds.length A a C c wr by have h := HOS.out; rwa [hrN'] at h)
            obtain ⟨y0, y1, y2, y3⟩ := HF.out.x.cells4
            obtain ⟨v0, v1, v2, v3⟩ := HF.out.br.cells4
            have g0 := HF.out.br.frozen 0
            have g1 := HF.out.br.frozen 1
            have g2 := HF.out.br.frozen 2
            have g3 := HF.out.br.frozen 3
            have hbl1 := HF.out.x.lt
            have hbl2 := HF.out.br.lt
            rw [← HNN.out, ← HN.out] at HF
            rw [← HIN.out] at y0
            rw [← HN.out] at y1
            rw [← HM.out] at y2
            rw [← HNN.out] at y3
            clear hrN hr hrN' HOS
            go_wp2
            have HBF := Lib.hid (Bx.set4 (x0 := .int .i64 init) (x1 := .slice A n a) (x2 := .slice B m b) (x3 := .slice C N c) HF.out.br)
            obtain ⟨u0, u1, u2, u3⟩ := HBF.out.cells4
            refine bodyPost_ret (v := .agg #[.int .i64 init, .slice A n a, .slice B m b, .slice C N c]) (by simp [results, Tryd.results8, go_sem, u0, u1, u2, u3]) rfl ⟨⟨A, a, B, b, C, c⟩, ?_, ?_, ?_⟩
            · rw [HIN.out, HN.out, HM.out, HNN.out]; rfl
            · exact os_end HF.out HN.out HM.out HNN.out
            · exact (((HF.out.blw.setCell (p := ⟨w.heap.size + 1, 0, none⟩) (by show w.heap.size ≤ w.heap.size + 1; omega) _).setCell (p := ⟨w.heap.size + 1, 1, none⟩) (by show w.heap.size ≤ w.heap.size + 1; omega) _).setCell (p := ⟨w.heap.size + 1, 2, none⟩) (by show w.heap.size ≤ w.heap.size + 1; omega) _).setCell (p := ⟨w.heap.size + 1, 3, none⟩) (by show w.heap.size ≤ w.heap.size + 1; omega) _
end Go.Proofs.YtkgjpimapfmeoaaDoor
