/-
  ExprParens, walked: the ways where s parses.
-/
import Derived.Test.YtbekheibdnkpdaaGreatDoorKC
import Derived.Deep.RegionHeld3
namespace Go.Proofs.YtbekheibdnkpdaaGreatDoor
open Go.RowKit Go.Sort

structure XV where
  o : ByteArray
  nm : ByteArray
  n : Int
  A : Option Addr
  ll : Nat
  cap : Nat
  p : Int
/-- An expression at a place. -/
def At5 (W : World) (g i : Nat) (v : XV) (x : Ex) (S : Nat → Prop) : Prop :=
  g < W.heap.size ∧ W.cell? ⟨g, i, none⟩ = some (.string v.o) ∧ W.cell? ⟨g, i + 1, none⟩ = some (.string v.nm) ∧ W.cell? ⟨g, i + 2, none⟩ = some (.int .i64 v.n) ∧ W.cell? ⟨g, i + 3, none⟩ = some (.slice v.A v.ll v.cap) ∧ W.cell? ⟨g, i + 4, none⟩ = some (.int .i64 v.p) ∧ HS W 25 S x (exC v.o v.nm v.n v.A v.ll v.cap v.p)
section
variable {W W' : World}
theorem At5.below {g i : Nat} {v : XV} {x : Ex} {S : Nat → Prop} (h : At5 W g i v x S) (hb : Below W.heap.size W W') : At5 W' g i v x S := by
  obtain ⟨h1, a0, a1, a2, a3, a4, hH⟩ := h
  exact ⟨Nat.lt_of_lt_of_le h1 hb.size, (hb.cell h1).trans a0, (hb.cell h1).trans a1, (hb.cell h1).trans a2, (hb.cell h1).trans a3, (hb.cell h1).trans a4, hH.below hb⟩
theorem At5.hs {g i : Nat} {v : XV} {x : Ex} {S : Nat → Prop} (h : At5 W g i v x S) : HS W 25 S x (exC v.o v.nm v.n v.A v.ll v.cap v.p) := h.2.2.2.2.2.2
theorem Box.at5 {b : Nat} {v : XV} {x : Ex} {S : Nat → Prop} (h : Box W b (.string v.o) (.string v.nm) (.int .i64 v.n) (.slice v.A v.ll v.cap) (.int .i64 v.p)) (hH : HS W 25 S x (exC v.o v.nm v.n v.A v.ll v.cap v.p)) : At5 W b 0 v x S := by
  obtain ⟨b0, b1, b2, b3, b4⟩ := h.cells
  exact ⟨h.lt, b0, b1, b2, b3, b4, hH⟩
/-- The kids of (a + b) + 1. -/
structure AK (W : World) (g g0 c0 : Nat) (v0 v1 : XV) (a b : Ex) (S : Nat → Prop) : Prop where
  lt : g < W.heap.size
  op : W.cell? ⟨g, 0, none⟩ = some (.string ⟨#[43]⟩)
  ks : W.cell? ⟨g, 3, none⟩ = some (.slice (some ⟨g0, 0, none⟩) 2 c0)
  one : W.cell? ⟨g, 7, none⟩ = some (.int .i64 1)
  fst : At5 W g0 0 v0 a S
  snd : At5 W g0 5 v1 b S
theorem AK.below {g g0 c0 : Nat} {v0 v1 : XV} {a b : Ex} {S : Nat → Prop} (h : AK W g g0 c0 v0 v1 a b S) (hb : Below W.heap.size W W') : AK W' g g0 c0 v0 v1 a b S :=
  ⟨Nat.lt_of_lt_of_le h.lt hb.size, (hb.cell h.lt).trans h.op, (hb.cell h.lt).trans h.ks, (hb.cell h.lt).trans h.one, h.fst.below hb, h.snd.below hb⟩
/-- The kids of a => (b => 1). -/
structure BK (W : World) (g g1 c1 : Nat) (u0 u1 : XV) (a b : Ex) (S : Nat → Prop) : Prop where
  fst : At5 W g 0 u0 a S
  op : W.cell? ⟨g, 5, none⟩ = some (.string ⟨#[61, 62]⟩)
  ks : W.cell? ⟨g, 8, none⟩ = some (.slice (some ⟨g1, 0, none⟩) 2 c1)
  snd : At5 W g1 0 u1 b S
theorem BK.below {g g1 c1 : Nat} {u0 u1 : XV} {a b : Ex} {S : Nat → Prop} (h : BK W g g1 c1 u0 u1 a b S) (hb : Below W.heap.size W W') : BK W' g g1 c1 u0 u1 a b S :=
  ⟨h.fst.below hb, (hb.cell h.fst.1).trans h.op, (hb.cell h.fst.1).trans h.ks, h.snd.below hb⟩
theorem add_view {S : Nat → Prop} {a b : Ex} {n p q : Nat} {o nm : ByteArray} {m : Int} {A : Option Addr} {ll cap : Nat} {pp : Int} (h : HS W 25 S (addE a b n p q) (exC o nm m A ll cap pp)) :
    o = ⟨#[43]⟩ ∧ ll = 2 ∧ ∃ g g0 c0 v0 v1, A = some ⟨g, 0, none⟩ ∧ AK W g g0 c0 v0 v1 a b S := by
  obtain ⟨h1, h2, g, h3, hg, ⟨o1, nm1, n1, A1, ll1, cap1, p1, hH, a0, a1, a2, a3, a4⟩, ⟨o2, nm2, n2, A2, ll2, cap2, p2, hH2, d0, d1, d2, d3, d4⟩⟩ := bin_view h
  obtain ⟨k1, k2, g0, k3, hg0, ⟨o3, nm3, n3, A3, ll3, cap3, p3, hH3, e0, e1, e2, e3, e4⟩, ⟨o4, nm4, n4, A4, ll4, cap4, p4, hH4, f0, f1, f2, f3, f4⟩⟩ := bin_view hH
  have hn := num_view hH2
  subst h1 h2 h3 k1 k2 k3 hn
  exact ⟨rfl, rfl, g, g0, cap1, ⟨o3, nm3, n3, A3, ll3, cap3, p3⟩, ⟨o4, nm4, n4, A4, ll4, cap4, p4⟩, rfl, hg, a0, a3, d2, ⟨hg0, e0, e1, e2, e3, e4, hH3⟩, ⟨hg0, f0, f1, f2, f3, f4, hH4⟩⟩
theorem imp_view {S : Nat → Prop} {a b : Ex} {n p q : Nat} {o nm : ByteArray} {m : Int} {A : Option Addr} {ll cap : Nat} {pp : Int} (h : HS W 25 S (impE a b n p q) (exC o nm m A ll cap pp)) :
    o = ⟨#[61, 62]⟩ ∧ ll = 2 ∧ ∃ g g1 c1 u0 u1, A = some ⟨g, 0, none⟩ ∧ BK W g g1 c1 u0 u1 a b S := by
  obtain ⟨h1, h2, g, h3, hg, ⟨o1, nm1, n1, A1, ll1, cap1, p1, hH, a0, a1, a2, a3, a4⟩, ⟨o2, nm2, n2, A2, ll2, cap2, p2, hH2, d0, d1, d2, d3, d4⟩⟩ := bin_view h
  obtain ⟨k1, k2, g0, k3, hg0, ⟨o3, nm3, n3, A3, ll3, cap3, p3, hH3, e0, e1, e2, e3, e4⟩, _⟩ := bin_view hH2
  subst h1 h2 h3 k1 k2 k3
  exact ⟨rfl, rfl, g, g0, cap2, ⟨o1, nm1, n1, A1, ll1, cap1, p1⟩, ⟨o3, nm3, n3, A3, ll3, cap3, p3⟩, rfl, ⟨hg, a0, a1, a2, a3, a4, hH⟩, d0, d3, ⟨hg0, e0, e1, e2, e3, e4, hH3⟩⟩
end
/-- What the last test reads. -/
structure Mem (w W : World) (bE bY : Nat) (vE vY : XV) (e0 y0 : Ex) (g g0 c0 : Nat) (v0 v1 : XV) (a0 a1 : Ex) (bA cA : Nat) (nmA : ByteArray) (nA pA : Int) (h h1 c1 : Nat) (u0 u1 : XV) (i0 i1 : Ex) (bB cB : Nat) (nmB : ByteArray) (nB pB : Int) (SE SY SA SB : Nat → Prop) : Prop where
  e : At5 W bE 0 vE e0 SE
  y : At5 W bY 0 vY y0 SY
  k : AK W g g0 c0 v0 v1 a0 a1 SA
  x : Box W bA (.string ⟨#[43]⟩) (.string nmA) (.int .i64 nA) (.slice (some ⟨g, 0, none⟩) 2 cA) (.int .i64 pA)
  l : BK W h h1 c1 u0 u1 i0 i1 SB
  z : Box W bB (.string ⟨#[61, 62]⟩) (.string nmB) (.int .i64 nB) (.slice (some ⟨h, 0, none⟩) 2 cB) (.int .i64 pB)
  b : Below w.heap.size w W
  ea : a0.bare = e0.bare
  ya : a1.bare = y0.bare
  ei : i0.bare = e0.bare
  yi : i1.bare = y0.bare
section
variable {w W W' : World} {bE bY : Nat} {vE vY : XV} {e0 y0 : Ex} {g g0 c0 : Nat} {v0 v1 : XV} {a0 a1 : Ex} {bA cA : Nat} {nmA : ByteArray} {nA pA : Int} {h h1 c1 : Nat} {u0 u1 : XV} {i0 i1 : Ex} {bB cB : Nat} {nmB : ByteArray} {nB pB : Int} {SE SY SA SB : Nat → Prop}
theorem Mem.below (m : Mem w W bE bY vE vY e0 y0 g g0 c0 v0 v1 a0 a1 bA cA nmA nA pA h h1 c1 u0 u1 i0 i1 bB cB nmB nB pB SE SY SA SB) (hb : Below W.heap.size W W') : Mem w W' bE bY vE vY e0 y0 g g0 c0 v0 v1 a0 a1 bA cA nmA nA pA h h1 c1 u0 u1 i0 i1 bB cB nmB nB pB SE SY SA SB := ⟨m.e.below hb, m.y.below hb, m.k.below hb, m.x.below hb, m.l.below hb, m.z.below hb, m.b.trans (hb.mono m.b.size), m.ea, m.ya, m.ei, m.yi⟩
theorem Mem.drew (m : Mem w W bE bY vE vY e0 y0 g g0 c0 v0 v1 a0 a1 bA cA nmA nA pA h h1 c1 u0 u1 i0 i1 bB cB nmB nB pB SE SY SA SB) : Mem w W.drew bE bY vE vY e0 y0 g g0 c0 v0 v1 a0 a1 bA cA nmA nA pA h h1 c1 u0 u1 i0 i1 bB cB nmB nB pB SE SY SA SB := m.below (Below.refl _ _).drew
theorem Mem.drewN (m : Mem w W bE bY vE vY e0 y0 g g0 c0 v0 v1 a0 a1 bA cA nmA nA pA h h1 c1 u0 u1 i0 i1 bB cB nmB nB pB SE SY SA SB) (n : Nat) : Mem w (W.drewN n) bE bY vE vY e0 y0 g g0 c0 v0 v1 a0 a1 bA cA nmA nA pA h h1 c1 u0 u1 i0 i1 bB cB nmB nB pB SE SY SA SB := m.below ⟨rfl, rfl, rfl, Nat.le_refl _, fun _ _ => rfl⟩
theorem Mem.S (m : Mem w W bE bY vE vY e0 y0 g g0 c0 v0 v1 a0 a1 bA cA nmA nA pA h h1 c1 u0 u1 i0 i1 bB cB nmB nB pB SE SY SA SB) : (fun w' : World => w'.cell? ⟨bE, 0, none⟩ = some (.string vE.o) ∧ w'.cell? ⟨bE, 1, none⟩ = some (.string vE.nm) ∧ w'.cell? ⟨bE, 2, none⟩ = some (.int .i64 vE.n) ∧ w'.cell? ⟨bE, 3, none⟩ = some (.slice vE.A vE.ll vE.cap) ∧ w'.cell? ⟨bE, 4, none⟩ = some (.int .i64 vE.p) ∧ w'.cell? ⟨bY, 0, none⟩ = some (.string vY.o) ∧ w'.cell? ⟨bY, 1, none⟩ = some (.string vY.nm) ∧ w'.cell? ⟨bY, 2, none⟩ = some (.int .i64 vY.n) ∧ w'.cell? ⟨bY, 3, none⟩ = some (.slice vY.A vY.ll vY.cap) ∧ w'.cell? ⟨bY, 4, none⟩ = some (.int .i64 vY.p) ∧ w'.cell? ⟨bA, 3, none⟩ = some (.slice (some ⟨g, 0, none⟩) 2 cA) ∧ w'.cell? ⟨g, 3, none⟩ = some (.slice (some ⟨g0, 0, none⟩) 2 c0) ∧ w'.cell? ⟨g, 7, none⟩ = some (.int .i64 1) ∧ w'.cell? ⟨g0, 0, none⟩ = some (.string v0.o) ∧ w'.cell? ⟨g0, 1, none⟩ = some (.string v0.nm) ∧ w'.cell? ⟨g0, 2, none⟩ = some (.int .i64 v0.n) ∧ w'.cell? ⟨g0, 3, none⟩ = some (.slice v0.A v0.ll v0.cap) ∧ w'.cell? ⟨g0, 4, none⟩ = some (.int .i64 v0.p) ∧ w'.cell? ⟨g0, 5, none⟩ = some (.string v1.o) ∧ w'.cell? ⟨g0, 6, none⟩ = some (.string v1.nm) ∧ w'.cell? ⟨g0, 7, none⟩ = some (.int .i64 v1.n) ∧ w'.cell? ⟨g0, 8, none⟩ = some (.slice v1.A v1.ll v1.cap) ∧ w'.cell? ⟨g0, 9, none⟩ = some (.int .i64 v1.p) ∧ w'.cell? ⟨bB, 0, none⟩ = some (.string ⟨#[61, 62]⟩) ∧ w'.cell? ⟨bB, 3, none⟩ = some (.slice (some ⟨h, 0, none⟩) 2 cB) ∧ w'.cell? ⟨h, 0, none⟩ = some (.string u0.o) ∧ w'.cell? ⟨h, 1, none⟩ = some (.string u0.nm) ∧ w'.cell? ⟨h, 2, none⟩ = some (.int .i64 u0.n) ∧ w'.cell? ⟨h, 3, none⟩ = some (.slice u0.A u0.ll u0.cap) ∧ w'.cell? ⟨h, 4, none⟩ = some (.int .i64 u0.p) ∧ w'.cell? ⟨h, 5, none⟩ = some (.string ⟨#[61, 62]⟩) ∧ w'.cell? ⟨h, 8, none⟩ = some (.slice (some ⟨h1, 0, none⟩) 2 c1) ∧ w'.cell? ⟨h1, 0, none⟩ = some (.string u1.o) ∧ w'.cell? ⟨h1, 1, none⟩ = some (.string u1.nm) ∧ w'.cell? ⟨h1, 2, none⟩ = some (.int .i64 u1.n) ∧ w'.cell? ⟨h1, 3, none⟩ = some (.slice u1.A u1.ll u1.cap) ∧ w'.cell? ⟨h1, 4, none⟩ = some (.int .i64 u1.p)) W := by
  obtain ⟨_, e0, e1, e2, e3, e4, _⟩ := m.e
  obtain ⟨_, y0, y1, y2, y3, y4, _⟩ := m.y
  obtain ⟨_, x0, x1, x2, x3, x4, _⟩ := m.k.fst
  obtain ⟨_, z0, z1, z2, z3, z4, _⟩ := m.k.snd
  obtain ⟨_, l0, l1, l2, l3, l4, _⟩ := m.l.fst
  obtain ⟨_, n0, n1, n2, n3, n4, _⟩ := m.l.snd
  exact ⟨e0, e1, e2, e3, e4, y0, y1, y2, y3, y4, m.x.cells.2.2.2.1, m.k.ks, m.k.one, x0, x1, x2, x3, x4, z0, z1, z2, z3, z4, m.z.cells.1, m.z.cells.2.2.2.1, l0, l1, l2, l3, l4, m.l.op, m.l.ks, n0, n1, n2, n3, n4⟩
def MemP (w : World) (bE bY : Nat) (vE vY : XV) (e0 y0 : Ex) (g g0 c0 : Nat) (v0 v1 : XV) (a0 a1 : Ex) (bA cA : Nat) (nmA : ByteArray) (nA pA : Int) (h h1 c1 : Nat) (u0 u1 : XV) (i0 i1 : Ex) (bB cB : Nat) (nmB : ByteArray) (nB pB : Int) (SE SY SA SB : Nat → Prop) (e : Ending) (w' : World) : Prop := e = .returned (.bool true) ∧ Mem w w' bE bY vE vY e0 y0 g g0 c0 v0 v1 a0 a1 bA cA nmA nA pA h h1 c1 u0 u1 i0 i1 bB cB nmB nB pB SE SY SA SB
theorem Mem.same1 (m : Mem w W bE bY vE vY e0 y0 g g0 c0 v0 v1 a0 a1 bA cA nmA nA pA h h1 c1 u0 u1 i0 i1 bB cB nmB nB pB SE SY SA SB) : Calls Tryz.prog 20 #[.agg #[.string v0.o, .string v0.nm, .int .i64 v0.n, .slice v0.A v0.ll v0.cap, .int .i64 v0.p], .agg #[.string vE.o, .string vE.nm, .int .i64 vE.n, .slice vE.A vE.ll vE.cap, .int .i64 vE.p]] W (MemP w bE bY vE vY e0 y0 g g0 c0 v0 v1 a0 a1 bA cA nmA nA pA h h1 c1 u0 u1 i0 i1 bB cB nmB nB pB SE SY SA SB) :=
  (same_any a0 e0 W _ _ _ _ m.k.fst.hs m.e.hs).mono fun _ _ ⟨h1, h2⟩ => ⟨by rw [h1, decide_eq_true m.ea], m.below h2⟩
theorem Mem.same2 (m : Mem w W bE bY vE vY e0 y0 g g0 c0 v0 v1 a0 a1 bA cA nmA nA pA h h1 c1 u0 u1 i0 i1 bB cB nmB nB pB SE SY SA SB) : Calls Tryz.prog 20 #[.agg #[.string v1.o, .string v1.nm, .int .i64 v1.n, .slice v1.A v1.ll v1.cap, .int .i64 v1.p], .agg #[.string vY.o, .string vY.nm, .int .i64 vY.n, .slice vY.A vY.ll vY.cap, .int .i64 vY.p]] W (MemP w bE bY vE vY e0 y0 g g0 c0 v0 v1 a0 a1 bA cA nmA nA pA h h1 c1 u0 u1 i0 i1 bB cB nmB nB pB SE SY SA SB) :=
  (same_any a1 y0 W _ _ _ _ m.k.snd.hs m.y.hs).mono fun _ _ ⟨h1, h2⟩ => ⟨by rw [h1, decide_eq_true m.ya], m.below h2⟩
theorem Mem.same3 (m : Mem w W bE bY vE vY e0 y0 g g0 c0 v0 v1 a0 a1 bA cA nmA nA pA h h1 c1 u0 u1 i0 i1 bB cB nmB nB pB SE SY SA SB) : Calls Tryz.prog 20 #[.agg #[.string u0.o, .string u0.nm, .int .i64 u0.n, .slice u0.A u0.ll u0.cap, .int .i64 u0.p], .agg #[.string vE.o, .string vE.nm, .int .i64 vE.n, .slice vE.A vE.ll vE.cap, .int .i64 vE.p]] W (MemP w bE bY vE vY e0 y0 g g0 c0 v0 v1 a0 a1 bA cA nmA nA pA h h1 c1 u0 u1 i0 i1 bB cB nmB nB pB SE SY SA SB) :=
  (same_any i0 e0 W _ _ _ _ m.l.fst.hs m.e.hs).mono fun _ _ ⟨h1, h2⟩ => ⟨by rw [h1, decide_eq_true m.ei], m.below h2⟩
theorem Mem.same4 (m : Mem w W bE bY vE vY e0 y0 g g0 c0 v0 v1 a0 a1 bA cA nmA nA pA h h1 c1 u0 u1 i0 i1 bB cB nmB nB pB SE SY SA SB) : Calls Tryz.prog 20 #[.agg #[.string u1.o, .string u1.nm, .int .i64 u1.n, .slice u1.A u1.ll u1.cap, .int .i64 u1.p], .agg #[.string vY.o, .string vY.nm, .int .i64 vY.n, .slice vY.A vY.ll vY.cap, .int .i64 vY.p]] W (MemP w bE bY vE vY e0 y0 g g0 c0 v0 v1 a0 a1 bA cA nmA nA pA h h1 c1 u0 u1 i0 i1 bB cB nmB nB pB SE SY SA SB) :=
  (same_any i1 y0 W _ _ _ _ m.l.snd.hs m.y.hs).mono fun _ _ ⟨h1, h2⟩ => ⟨by rw [h1, decide_eq_true m.yi], m.below h2⟩
end
/-- Up to the second text. -/
structure Fst (s : ByteArray) (D : Nat) (e0 : Ex) where
  r0 : List Tok
  ok : parseX D s.data.toList = .ok e0 r0
set_option maxHeartbeats 4000000 in
set_option maxRecDepth 100000 in
theorem parens_mid (s t : ByteArray) (D : Nat) (w : World) (hG : GlobT w) (hx : Goes s t D) {e0 : Ex} {r0 : List Tok} (hp : parseX D s.data.toList = .ok e0 r0) (hF : Fails t (D : Int)) : Calls Tryz.prog 7 #[.string s, .string t, .int .i64 (D : Int)] w (LawF w) := by
  have H0 := Lib.hid (alive_yes w hG)
  have hl := hx.len
  have hd1 := hx.d1
  have hd60 := hx.d60
  have H1 := Lib.hid (comment_any s (by omega))
  rw [hx.cs] at H1
  have H2 := Lib.hid (comment_any t (by omega))
  rw [hx.ct] at H2
  have g1 : decide (2000 < (s.size : Int) + (t.size : Int)) = false := by simp; omega
  have g2 : decide ((D : Int) < 1) = false := by simp; omega
  have g2' : decide (D < 1) = false := by simp; omega
  have g3 : decide (60 < (D : Int)) = false := by simp; omega
  have g3' : decide (60 < D) = false := by simp; omega
  have HG := Lib.hid hG
  have hsl : s.data.toList.length = s.size := by simp
  have htl : t.data.toList.length = t.size := by simp
  obtain ⟨x0, rx, hpx, hbx⟩ := paren_same (by omega) hx.cs hp
  have H3 := Lib.hid (fun (W : World) (hW : GlobT W) => parse_any (s := s) W hW.s (by omega) hx.d1 (by omega))
  rw [hp] at H3
  have H4 := Lib.hid (fun (W : World) (hW : GlobT W) => parse_any (s := ⟨#[40]⟩ ++ s ++ ⟨#[41]⟩) (D := D + 1) W hW.s (by simp only [ByteArray.size_append]; show 1 + s.size + 1 ≤ _; omega) (by omega) (by omega))
  rw [show (⟨#[40]⟩ ++ s ++ ⟨#[41]⟩ : ByteArray).data.toList = 40 :: (s.data.toList ++ [41]) by simp, hpx] at H4
  have HBX := Lib.hid hbx
  clear hbx hpx hsl htl
  have H5 := Lib.hid (fun (W : World) (hW : GlobT W) => parse_fails W hW.s (by omega) hF)
  clear hG hF hp
  clear hx
  go_enter Tryz.func7, Tryz.ntmps7
  go_wp2_with fail
  with_reducible refine (H0.out).mono ?_
  rintro e w1 ⟨rfl, hb1⟩
  have HB1 := Lib.hid hb1
  clear hb1
  go_wp2_with fail
  with_reducible refine (H1.out _).mono ?_
  rintro e w2 ⟨rfl, rfl⟩
  go_wp2_with fail
  with_reducible refine (H2.out _).mono ?_
  rintro e w2 ⟨rfl, rfl⟩
  go_wp2_with fail
  refine (H3.out _ (HG.out.below HB1.out)).mono ?_
  rintro e w3 ⟨o3, nm3, n3, A3, ll3, cap3, p3, rfl, hC, hb3⟩
  have HB3 := Lib.hid (HB1.out.trans (hb3.mono HB1.out.size))
  have HC3 := Lib.hid hC
  clear hb3 hC
  go_wp2_with fail
  refine calls_gen (P := fun W => At5 W w3.heap.size 0 ⟨o3, nm3, n3, A3, ll3, cap3, p3⟩ e0 (fun j => j < w3.heap.size) ∧ Below w.heap.size w W) ⟨(Box.new w3 _ _ _ _ _).at5 (v := ⟨o3, nm3, n3, A3, ll3, cap3, p3⟩) ((HC3.out.wide (fun j _ hj => hj.2)).alloc _), HB3.out.alloc HB3.out.size _⟩ ?_
  rintro W ⟨hE, hB⟩
  refine (H4.out _ (HG.out.below hB)).mono ?_
  rintro e w4 ⟨o4, nm4, n4, A4, ll4, cap4, p4, rfl, hC, hb4⟩
  have HE4 := Lib.hid (hE.below hb4)
  have HB4 := Lib.hid (hB.trans (hb4.mono hB.size))
  have HC4 := Lib.hid hC
  clear hE hB hb4 hC HC3 HB3
  have ⟨hlE, hE0, hE1, hE2, hE3, hE4, _⟩ := HE4.out
  simp only [Nat.zero_add] at hE1 hE2 hE3 hE4
  go_wp2_with fail
  refine (same_any e0 x0 _ _ _ _ _ (HE4.out.hs.alloc _) (HC4.out.alloc _)).mono ?_
  rintro e w6 ⟨rfl, hb6⟩
  have hba := (Below.refl w4.heap.size w4).alloc (Nat.le_refl _) (.cells #[.string o4, .string nm4, .int .i64 n4, .slice A4 ll4 cap4, .int .i64 p4] 25)
  have HE6 := Lib.hid ((HE4.out.below hba).below hb6)
  have HB6 := Lib.hid ((HB4.out.alloc HB4.out.size _).trans (hb6.mono (by simp; have := HB4.out.size; omega)))
  rw [decide_eq_true HBX.out.symm]
  clear hb6 hba hlE hE0 hE1 hE2 hE3 hE4 HE4 HB4 HC4
  go_wp2_with fail
  refine (H5.out _ (HG.out.below HB6.out)).mono ?_
  rintro e w7 ⟨ty, vv, rfl, hb7⟩
  have HB7 := Lib.hid ((HB6.out.trans (hb7.mono HB6.out.size)).alloc (Nat.le_trans HB6.out.size hb7.size) (.cells #[.string ⟨#[]⟩, .string ⟨#[]⟩, .int .i64 0, .slice none 0 0, .int .i64 0] 25))
  clear hb7 HE6
  go_wp2
  go_ret
  exact ⟨rfl, HB7.out⟩
set_option maxHeartbeats 8000000 in
set_option maxRecDepth 100000 in
theorem parens_ok (s t : ByteArray) (D : Nat) (w : World) (hG : GlobT w) (hx : Goes s t D) {e0 y0 : Ex} {r0 r1 : List Tok} (hp : parseX D s.data.toList = .ok e0 r0) (hq : parseX D t.data.toList = .ok y0 r1) : Calls Tryz.prog 7 #[.string s, .string t, .int .i64 (D : Int)] w (LawF w) := by
  have H0 := Lib.hid (alive_yes w hG)
  have hl := hx.len
  have hd1 := hx.d1
  have hd60 := hx.d60
  have H1 := Lib.hid (comment_any s (by omega))
  rw [hx.cs] at H1
  have H2 := Lib.hid (comment_any t (by omega))
  rw [hx.ct] at H2
  have g1 : decide (2000 < (s.size : Int) + (t.size : Int)) = false := by simp; omega
  have g2 : decide ((D : Int) < 1) = false := by simp; omega
  have g2' : decide (D < 1) = false := by simp; omega
  have g3 : decide (60 < (D : Int)) = false := by simp; omega
  have g3' : decide (60 < D) = false := by simp; omega
  have HG := Lib.hid hG
  have hsl' : s.data.toList.length = s.size := by simp
  have htl' : t.data.toList.length = t.size := by simp
  obtain ⟨a0, a1, an, ra, hpa, hba0, hba1⟩ := paren_sum (by omega) hx.cs hx.ct hp hq
  obtain ⟨i0, i1, inn, ri, hpi, hbi0, hbi1⟩ := paren_imp (by omega) hx.cs hx.ct hp hq
  have H5 := Lib.hid (fun (W : World) (hW : GlobT W) => parse_any (s := t) W hW.s (by omega) hx.d1 (by omega))
  rw [hq] at H5
  have H6 := Lib.hid (fun (W : World) (hW : GlobT W) => parse_any (s := ⟨#[40]⟩ ++ s ++ ⟨#[41, 32, 43, 32, 40]⟩ ++ t ++ ⟨#[41, 32, 43, 32, 49]⟩) (D := D + 1) W hW.s (by simp only [ByteArray.size_append]; show 1 + s.size + 5 + t.size + 5 ≤ _; omega) (by omega) (by omega))
  rw [show (⟨#[40]⟩ ++ s ++ ⟨#[41, 32, 43, 32, 40]⟩ ++ t ++ ⟨#[41, 32, 43, 32, 49]⟩ : ByteArray).data.toList = 40 :: (s.data.toList ++ 41 :: 32 :: 43 :: 32 :: 40 :: (t.data.toList ++ [41, 32, 43, 32, 49])) by simp, hpa] at H6
  have H7 := Lib.hid (fun (W : World) (hW : GlobT W) => parse_any (s := ⟨#[40]⟩ ++ s ++ ⟨#[41, 32, 61, 62, 32, 40]⟩ ++ t ++ ⟨#[41, 32, 61, 62, 32, 49]⟩) (D := D + 3) W hW.s (by simp only [ByteArray.size_append]; show 1 + s.size + 6 + t.size + 6 ≤ _; omega) (by omega) (by omega))
  rw [show (⟨#[40]⟩ ++ s ++ ⟨#[41, 32, 61, 62, 32, 40]⟩ ++ t ++ ⟨#[41, 32, 61, 62, 32, 49]⟩ : ByteArray).data.toList = 40 :: (s.data.toList ++ 41 :: 32 :: 61 :: 62 :: 32 :: 40 :: (t.data.toList ++ [41, 32, 61, 62, 32, 49])) by simp, hpi] at H7
  have HA0 := Lib.hid hba0
  have HA1 := Lib.hid hba1
  have HI0 := Lib.hid hbi0
  have HI1 := Lib.hid hbi1
  clear hba0 hba1 hbi0 hbi1 hpa hpi
  have hsl : s.data.toList.length = s.size := by simp
  have htl : t.data.toList.length = t.size := by simp
  obtain ⟨x0, rx, hpx, hbx⟩ := paren_same (by omega) hx.cs hp
  have H3 := Lib.hid (fun (W : World) (hW : GlobT W) => parse_any (s := s) W hW.s (by omega) hx.d1 (by omega))
  rw [hp] at H3
  have H4 := Lib.hid (fun (W : World) (hW : GlobT W) => parse_any (s := ⟨#[40]⟩ ++ s ++ ⟨#[41]⟩) (D := D + 1) W hW.s (by simp only [ByteArray.size_append]; show 1 + s.size + 1 ≤ _; omega) (by omega) (by omega))
  rw [show (⟨#[40]⟩ ++ s ++ ⟨#[41]⟩ : ByteArray).data.toList = 40 :: (s.data.toList ++ [41]) by simp, hpx] at H4
  have HBX := Lib.hid hbx
  clear hbx hpx hsl htl
  clear hG hp hq hsl' htl'
  clear hx
  go_enter Tryz.func7, Tryz.ntmps7
  go_wp2_with fail
  with_reducible refine (H0.out).mono ?_
  rintro e w1 ⟨rfl, hb1⟩
  have HB1 := Lib.hid hb1
  clear hb1
  go_wp2_with fail
  with_reducible refine (H1.out _).mono ?_
  rintro e w2 ⟨rfl, rfl⟩
  go_wp2_with fail
  with_reducible refine (H2.out _).mono ?_
  rintro e w2 ⟨rfl, rfl⟩
  go_wp2_with fail
  refine (H3.out _ (HG.out.below HB1.out)).mono ?_
  rintro e w3 ⟨o3, nm3, n3, A3, ll3, cap3, p3, rfl, hC, hb3⟩
  have HB3 := Lib.hid (HB1.out.trans (hb3.mono HB1.out.size))
  have HC3 := Lib.hid hC
  clear hb3 hC
  go_wp2_with fail
  refine calls_gen (P := fun W => At5 W w3.heap.size 0 ⟨o3, nm3, n3, A3, ll3, cap3, p3⟩ e0 (fun j => j < w3.heap.size) ∧ Below w.heap.size w W) ⟨(Box.new w3 _ _ _ _ _).at5 (v := ⟨o3, nm3, n3, A3, ll3, cap3, p3⟩) ((HC3.out.wide (fun j _ hj => hj.2)).alloc _), HB3.out.alloc HB3.out.size _⟩ ?_
  rintro W ⟨hE, hB⟩
  refine (H4.out _ (HG.out.below hB)).mono ?_
  rintro e w4 ⟨o4, nm4, n4, A4, ll4, cap4, p4, rfl, hC, hb4⟩
  have HE4 := Lib.hid (hE.below hb4)
  have HB4 := Lib.hid (hB.trans (hb4.mono hB.size))
  have HC4 := Lib.hid hC
  clear hE hB hb4 hC HC3 HB3
  have ⟨hlE, hE0, hE1, hE2, hE3, hE4, _⟩ := HE4.out
  simp only [Nat.zero_add] at hE1 hE2 hE3 hE4
  go_wp2_with fail
  refine (same_any e0 x0 _ _ _ _ _ (HE4.out.hs.alloc _) (HC4.out.alloc _)).mono ?_
  rintro e w6 ⟨rfl, hb6⟩
  have hba := (Below.refl w4.heap.size w4).alloc (Nat.le_refl _) (.cells #[.string o4, .string nm4, .int .i64 n4, .slice A4 ll4 cap4, .int .i64 p4] 25)
  have HE6 := Lib.hid ((HE4.out.below hba).below hb6)
  have HB6 := Lib.hid ((HB4.out.alloc HB4.out.size _).trans (hb6.mono (by simp; have := HB4.out.size; omega)))
  rw [decide_eq_true HBX.out.symm]
  clear hb6 hba hlE hE0 hE1 hE2 hE3 hE4 HE4 HB4 HC4
  go_wp2_with fail
  refine (H5.out _ (HG.out.below HB6.out)).mono ?_
  rintro e w7 ⟨o7, nm7, n7, A7, ll7, cap7, p7, rfl, hC, hb7⟩
  have HE7 := Lib.hid (HE6.out.below hb7)
  have HB7 := Lib.hid (HB6.out.trans (hb7.mono HB6.out.size))
  have HC7 := Lib.hid hC
  clear hb7 hC HE6 HB6
  go_wp2_with fail
  refine calls_gen (P := fun W => At5 W w3.heap.size 0 ⟨o3, nm3, n3, A3, ll3, cap3, p3⟩ e0 (fun j => j < w3.heap.size) ∧ At5 W w7.heap.size 0 ⟨o7, nm7, n7, A7, ll7, cap7, p7⟩ y0 (fun j => j < w7.heap.size) ∧ Below w.heap.size w W) ⟨HE7.out.below ((Below.refl _ _).alloc (Nat.le_refl _) _), (Box.new w7 _ _ _ _ _).at5 (v := ⟨o7, nm7, n7, A7, ll7, cap7, p7⟩) ((HC7.out.wide (fun j _ hj => hj.2)).alloc _), HB7.out.alloc HB7.out.size _⟩ ?_
  rintro W ⟨hE, hY, hB⟩
  refine (H6.out _ (HG.out.below hB)).mono ?_
  rintro e w8 ⟨o8, nm8, n8, A8, ll8, cap8, p8, rfl, hC, hb8⟩
  have HE8 := Lib.hid (hE.below hb8)
  have HY8 := Lib.hid (hY.below hb8)
  have HB8 := Lib.hid (hB.trans (hb8.mono hB.size))
  obtain ⟨rfl, rfl, g, g0, c0, v0, v1, rfl, hK⟩ := add_view hC
  have HK8 := Lib.hid hK
  have hl8 := hK.lt
  have ho8 := hK.op
  have hs8 := hK.ks
  have hl8' := hK.fst.1
  clear hE hY hB hb8 hC hK HE7 HB7 HC7
  go_wp2_with fail
  refine calls_gen (P := fun W => At5 W w3.heap.size 0 ⟨o3, nm3, n3, A3, ll3, cap3, p3⟩ e0 (fun j => j < w3.heap.size) ∧ At5 W w7.heap.size 0 ⟨o7, nm7, n7, A7, ll7, cap7, p7⟩ y0 (fun j => j < w7.heap.size) ∧ AK W g g0 c0 v0 v1 a0 a1 _ ∧ Box W w8.heap.size (.string ⟨#[43]⟩) (.string nm8) (.int .i64 n8) (.slice (some ⟨g, 0, none⟩) 2 cap8) (.int .i64 p8) ∧ Below w.heap.size w W) ⟨HE8.out.below ((Below.refl _ _).alloc (Nat.le_refl _) _), HY8.out.below ((Below.refl _ _).alloc (Nat.le_refl _) _), HK8.out.below ((Below.refl _ _).alloc (Nat.le_refl _) _), Box.new w8 _ _ _ _ _, HB8.out.alloc HB8.out.size _⟩ ?_
  rintro W9 ⟨hE, hY, hK, hX, hB⟩
  refine (H7.out _ (HG.out.below hB)).mono ?_
  rintro e w9 ⟨o9, nm9, n9, A9, ll9, cap9, p9, rfl, hC, hb9⟩
  have HE9 := Lib.hid (hE.below hb9)
  have HY9 := Lib.hid (hY.below hb9)
  have HK9 := Lib.hid (hK.below hb9)
  have HX9 := Lib.hid (hX.below hb9)
  have HB9 := Lib.hid (hB.trans (hb9.mono hB.size))
  obtain ⟨rfl, rfl, h, h1, c1, u0, u1, rfl, hL⟩ := imp_view hC
  have HL9 := Lib.hid hL
  clear hE hY hK hX hB hb9 hC hL HE8 HY8 HK8 HB8 hl8 ho8 hs8 hl8'
  have LK := Lib.hid (show Mem w (w9.alloc (.cells #[.string ⟨#[61, 62]⟩, .string nm9, .int .i64 n9, .slice (some ⟨h, 0, none⟩) 2 cap9, .int .i64 p9] 25)) w3.heap.size w7.heap.size ⟨o3, nm3, n3, A3, ll3, cap3, p3⟩ ⟨o7, nm7, n7, A7, ll7, cap7, p7⟩ e0 y0 g g0 c0 v0 v1 a0 a1 w8.heap.size cap8 nm8 n8 p8 h h1 c1 u0 u1 i0 i1 w9.heap.size cap9 nm9 n9 p9 _ _ _ _ from ⟨HE9.out.below ((Below.refl _ _).alloc (Nat.le_refl _) _), HY9.out.below ((Below.refl _ _).alloc (Nat.le_refl _) _), HK9.out.below ((Below.refl _ _).alloc (Nat.le_refl _) _), HX9.out.alloc _, HL9.out.below ((Below.refl _ _).alloc (Nat.le_refl _) _), Box.new w9 _ _ _ _ _, HB9.out.alloc HB9.out.size _, HA0.out, HA1.out, HI0.out, HI1.out⟩)
  clear HE9 HY9 HK9 HX9 HL9 HB9 HA0 HA1 HI0 HI1
  go_wp2_with fail
  have lk := LK.out
  clear LK
  generalize w9.alloc (.cells #[.string ⟨#[61, 62]⟩, .string nm9, .int .i64 n9, .slice (some ⟨h, 0, none⟩) 2 cap9, .int .i64 p9] 25) = W at lk ⊢
  generalize w9.heap.size = bB at lk ⊢
  generalize w8.heap.size = bA at lk ⊢
  generalize w7.heap.size = bY at lk ⊢
  generalize w3.heap.size = bE at lk ⊢
  generalize (⟨o3, nm3, n3, A3, ll3, cap3, p3⟩ : XV) = vE at lk ⊢
  generalize (⟨o7, nm7, n7, A7, ll7, cap7, p7⟩ : XV) = vY at lk ⊢
  replace lk := lk.drew
  simp only [List.append_eq, List.cons_append, List.nil_append]
  go_region_held3 (fun w' => w'.cell? ⟨bE, 0, none⟩ = some (.string vE.o) ∧ w'.cell? ⟨bE, 1, none⟩ = some (.string vE.nm) ∧ w'.cell? ⟨bE, 2, none⟩ = some (.int .i64 vE.n) ∧ w'.cell? ⟨bE, 3, none⟩ = some (.slice vE.A vE.ll vE.cap) ∧ w'.cell? ⟨bE, 4, none⟩ = some (.int .i64 vE.p) ∧ w'.cell? ⟨bY, 0, none⟩ = some (.string vY.o) ∧ w'.cell? ⟨bY, 1, none⟩ = some (.string vY.nm) ∧ w'.cell? ⟨bY, 2, none⟩ = some (.int .i64 vY.n) ∧ w'.cell? ⟨bY, 3, none⟩ = some (.slice vY.A vY.ll vY.cap) ∧ w'.cell? ⟨bY, 4, none⟩ = some (.int .i64 vY.p) ∧ w'.cell? ⟨bA, 3, none⟩ = some (.slice (some ⟨g, 0, none⟩) 2 cap8) ∧ w'.cell? ⟨g, 3, none⟩ = some (.slice (some ⟨g0, 0, none⟩) 2 c0) ∧ w'.cell? ⟨g, 7, none⟩ = some (.int .i64 1) ∧ w'.cell? ⟨g0, 0, none⟩ = some (.string v0.o) ∧ w'.cell? ⟨g0, 1, none⟩ = some (.string v0.nm) ∧ w'.cell? ⟨g0, 2, none⟩ = some (.int .i64 v0.n) ∧ w'.cell? ⟨g0, 3, none⟩ = some (.slice v0.A v0.ll v0.cap) ∧ w'.cell? ⟨g0, 4, none⟩ = some (.int .i64 v0.p) ∧ w'.cell? ⟨g0, 5, none⟩ = some (.string v1.o) ∧ w'.cell? ⟨g0, 6, none⟩ = some (.string v1.nm) ∧ w'.cell? ⟨g0, 7, none⟩ = some (.int .i64 v1.n) ∧ w'.cell? ⟨g0, 8, none⟩ = some (.slice v1.A v1.ll v1.cap) ∧ w'.cell? ⟨g0, 9, none⟩ = some (.int .i64 v1.p) ∧ w'.cell? ⟨bB, 0, none⟩ = some (.string ⟨#[61, 62]⟩) ∧ w'.cell? ⟨bB, 3, none⟩ = some (.slice (some ⟨h, 0, none⟩) 2 cap9) ∧ w'.cell? ⟨h, 0, none⟩ = some (.string u0.o) ∧ w'.cell? ⟨h, 1, none⟩ = some (.string u0.nm) ∧ w'.cell? ⟨h, 2, none⟩ = some (.int .i64 u0.n) ∧ w'.cell? ⟨h, 3, none⟩ = some (.slice u0.A u0.ll u0.cap) ∧ w'.cell? ⟨h, 4, none⟩ = some (.int .i64 u0.p) ∧ w'.cell? ⟨h, 5, none⟩ = some (.string ⟨#[61, 62]⟩) ∧ w'.cell? ⟨h, 8, none⟩ = some (.slice (some ⟨h1, 0, none⟩) 2 c1) ∧ w'.cell? ⟨h1, 0, none⟩ = some (.string u1.o) ∧ w'.cell? ⟨h1, 1, none⟩ = some (.string u1.nm) ∧ w'.cell? ⟨h1, 2, none⟩ = some (.int .i64 u1.n) ∧ w'.cell? ⟨h1, 3, none⟩ = some (.slice u1.A u1.ll u1.cap) ∧ w'.cell? ⟨h1, 4, none⟩ = some (.int .i64 u1.p)) (exact lk.S) (first
    | (go_at_call 20; (with_reducible refine (lk.same1).mono ?_); rintro e wA ⟨rfl, lk⟩)
    | (go_at_call 20; (with_reducible refine (lk.same2).mono ?_); rintro e wA ⟨rfl, lk⟩)
    | (go_at_call 20; (with_reducible refine (lk.same3).mono ?_); rintro e wA ⟨rfl, lk⟩)
    | (go_at_call 20; (with_reducible refine (lk.same4).mono ?_); rintro e wA ⟨rfl, lk⟩))
  go_wp2
  go_ret
  exact ⟨rfl, lk.b⟩
theorem parens_yes (s t : ByteArray) (d : Int) (w : World) (hG : GlobT w) (hs : s.size ≤ 140737488355328) (ht : t.size ≤ 140737488355328) : Calls Tryz.prog 7 #[.string s, .string t, .int .i64 d] w (LawF w) := by
  cases h : skipC s t d with
  | true => exact parens_skip s t d w hG hs ht h
  | false =>
    simp only [skipC, Bool.or_eq_false_iff, decide_eq_false_iff_not] at h
    obtain ⟨⟨⟨⟨h1, h2⟩, h3⟩, h4⟩, h5⟩ := h
    obtain ⟨D, rfl⟩ : ∃ D : Nat, d = (D : Int) := ⟨d.toNat, by omega⟩
    have hx : Goes s t D := ⟨by omega, by omega, by omega, h4, h5⟩
    rcases fails_or s (D : Int) with hF | ⟨D', e, r, hD, _, _, hp⟩
    · exact parens_fail s t D w hG hx hF
    · obtain rfl : D = D' := by omega
      rcases fails_or t (D : Int) with hF | ⟨D', y, r', hD', _, _, hq⟩
      · exact parens_mid s t D w hG hx hp hF
      · obtain rfl : D = D' := by omega
        exact parens_ok s t D w hG hx hp hq
end Go.Proofs.YtbekheibdnkpdaaGreatDoor
