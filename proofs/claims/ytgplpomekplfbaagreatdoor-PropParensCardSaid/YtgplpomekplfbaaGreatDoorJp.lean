/-
  PropParens, walked: the way where both are read.
-/
import Derived.Test.YtgplpomekplfbaaGreatDoorJo
import Derived.Deep.RegionHeld3
namespace Go.Proofs.YtgplpomekplfbaaGreatDoor
open Go.RowKit Go.Sort

def andF (a b : Fo) (n : Nat) : Fo := .bin [38] (.bin [38] a b a.pos) (.leaf opTrue [] n) a.pos
def untF (a b : Fo) (n : Nat) : Fo := .bin [85] a (.bin [85] b (.leaf opTrue [] n) b.pos) a.pos
/-- One with two kids, in memory. -/
theorem kid2 {w : World} {S : Nat → Prop} {op : List UInt8} {a b : Fo} {q : Nat} {v : FV} (h : FS w 42 S (.bin op a b q) v.c) :
    v.o = ⟨op.toArray⟩ ∧ v.ll = 2 ∧ ∃ g v0 v1, v.A = some ⟨g, 0, none⟩ ∧ At4 w g 0 v0 a S ∧ At4 w g 4 v1 b S := by
  have ho := h.opn
  obtain ⟨hK, hl, _⟩ := h.kr
  obtain ⟨g, v0, hA, hk⟩ := hK.at4 0 (by simp [Fo.kids])
  obtain ⟨g', v1, hA', hk'⟩ := hK.at4 1 (by simp [Fo.kids])
  have e : g' = g := by rw [hA] at hA'; simpa using hA'.symm
  subst e
  exact ⟨ho, hl, g', v0, v1, hA, hk, hk'⟩
/-- What the last tests read. -/
structure MemF (w W : World) (bE bY bA bB g g0 h h1 : Nat) (vE vY vA vm v0 v1 vB vu u0 u1 : FV) (f y a b i j : Fo) (n m : Nat) (SE SY SA SB : Nat → Prop) (BL : Option Addr) (L : List (List UInt8)) : Prop where
  qE : At4 W bE 0 vE f SE
  qY : At4 W bY 0 vY y SY
  qX : At4 W bA 0 vA (andF a b n) SA
  qXM : At4 W g 0 vm (.bin [38] a b a.pos) SA
  qX0 : At4 W g0 0 v0 a SA
  qX1 : At4 W g0 4 v1 b SA
  qZ : At4 W bB 0 vB (untF i j m) SB
  qZ0 : At4 W h 0 u0 i SB
  qZM : At4 W h 4 vu (.bin [85] j (.leaf opTrue [] m) j.pos) SB
  qZ1 : At4 W h1 0 u1 j SB
  qB : Below w.heap.size w W
  fA : vA.o = ⟨#[38]⟩ ∧ vA.A = some ⟨g, 0, none⟩ ∧ vA.ll = 2
  fm : vm.o = ⟨#[38]⟩ ∧ vm.A = some ⟨g0, 0, none⟩ ∧ vm.ll = 2
  fB : vB.o = ⟨#[85]⟩ ∧ vB.A = some ⟨h, 0, none⟩ ∧ vB.ll = 2
  fu : vu.o = ⟨#[85]⟩ ∧ vu.A = some ⟨h1, 0, none⟩ ∧ vu.ll = 2
  ea : a.bare = f.bare
  eb : b.bare = y.bare
  ei : i.bare = f.bare
  ej : j.bare = y.bare
  okA : OkF (andF a b n)
  okB : OkF (untF i j m)
  sz : f.size + y.size ≤ 1002
  qL : RS W BL L
section
variable {w W W' : World} {bE bY bA bB g g0 h h1 : Nat} {vE vY vA vm v0 v1 vB vu u0 u1 : FV} {f y a b i j : Fo} {n m : Nat} {SE SY SA SB : Nat → Prop} {BL : Option Addr} {L : List (List UInt8)}
theorem MemF.below (m' : MemF w W bE bY bA bB g g0 h h1 vE vY vA vm v0 v1 vB vu u0 u1 f y a b i j n m SE SY SA SB BL L) (hb : Below W.heap.size W W') : MemF w W' bE bY bA bB g g0 h h1 vE vY vA vm v0 v1 vB vu u0 u1 f y a b i j n m SE SY SA SB BL L := ⟨m'.qE.below hb, m'.qY.below hb, m'.qX.below hb, m'.qXM.below hb, m'.qX0.below hb, m'.qX1.below hb, m'.qZ.below hb, m'.qZ0.below hb, m'.qZM.below hb, m'.qZ1.below hb, m'.qB.trans (hb.mono m'.qB.size), m'.fA, m'.fm, m'.fB, m'.fu, m'.ea, m'.eb, m'.ei, m'.ej, m'.okA, m'.okB, m'.sz, m'.qL.below hb⟩
theorem MemF.drew (m' : MemF w W bE bY bA bB g g0 h h1 vE vY vA vm v0 v1 vB vu u0 u1 f y a b i j n m SE SY SA SB BL L) : MemF w W.drew bE bY bA bB g g0 h h1 vE vY vA vm v0 v1 vB vu u0 u1 f y a b i j n m SE SY SA SB BL L := m'.below (Below.refl _ _).drew
theorem MemF.S (m' : MemF w W bE bY bA bB g g0 h h1 vE vY vA vm v0 v1 vB vu u0 u1 f y a b i j n m SE SY SA SB BL L) : (fun w' : World => w'.cell? ⟨bE, 0, none⟩ = some (.string vE.o) ∧ w'.cell? ⟨bE, 1, none⟩ = some (.string vE.nm) ∧ w'.cell? ⟨bE, 2, none⟩ = some (.slice vE.A vE.ll vE.cap) ∧ w'.cell? ⟨bE, 3, none⟩ = some (.int .i64 vE.p) ∧ w'.cell? ⟨bY, 0, none⟩ = some (.string vY.o) ∧ w'.cell? ⟨bY, 1, none⟩ = some (.string vY.nm) ∧ w'.cell? ⟨bY, 2, none⟩ = some (.slice vY.A vY.ll vY.cap) ∧ w'.cell? ⟨bY, 3, none⟩ = some (.int .i64 vY.p) ∧ w'.cell? ⟨bA, 0, none⟩ = some (.string ⟨#[38]⟩) ∧ w'.cell? ⟨bA, 1, none⟩ = some (.string vA.nm) ∧ w'.cell? ⟨bA, 2, none⟩ = some (.slice (some ⟨g, 0, none⟩) 2 vA.cap) ∧ w'.cell? ⟨bA, 3, none⟩ = some (.int .i64 vA.p) ∧ w'.cell? ⟨g, 0, none⟩ = some (.string ⟨#[38]⟩) ∧ w'.cell? ⟨g, 1, none⟩ = some (.string vm.nm) ∧ w'.cell? ⟨g, 2, none⟩ = some (.slice (some ⟨g0, 0, none⟩) 2 vm.cap) ∧ w'.cell? ⟨g, 3, none⟩ = some (.int .i64 vm.p) ∧ w'.cell? ⟨g0, 0, none⟩ = some (.string v0.o) ∧ w'.cell? ⟨g0, 1, none⟩ = some (.string v0.nm) ∧ w'.cell? ⟨g0, 2, none⟩ = some (.slice v0.A v0.ll v0.cap) ∧ w'.cell? ⟨g0, 3, none⟩ = some (.int .i64 v0.p) ∧ w'.cell? ⟨g0, 4, none⟩ = some (.string v1.o) ∧ w'.cell? ⟨g0, 5, none⟩ = some (.string v1.nm) ∧ w'.cell? ⟨g0, 6, none⟩ = some (.slice v1.A v1.ll v1.cap) ∧ w'.cell? ⟨g0, 7, none⟩ = some (.int .i64 v1.p) ∧ w'.cell? ⟨bB, 0, none⟩ = some (.string ⟨#[85]⟩) ∧ w'.cell? ⟨bB, 1, none⟩ = some (.string vB.nm) ∧ w'.cell? ⟨bB, 2, none⟩ = some (.slice (some ⟨h, 0, none⟩) 2 vB.cap) ∧ w'.cell? ⟨bB, 3, none⟩ = some (.int .i64 vB.p) ∧ w'.cell? ⟨h, 0, none⟩ = some (.string u0.o) ∧ w'.cell? ⟨h, 1, none⟩ = some (.string u0.nm) ∧ w'.cell? ⟨h, 2, none⟩ = some (.slice u0.A u0.ll u0.cap) ∧ w'.cell? ⟨h, 3, none⟩ = some (.int .i64 u0.p) ∧ w'.cell? ⟨h, 4, none⟩ = some (.string ⟨#[85]⟩) ∧ w'.cell? ⟨h, 5, none⟩ = some (.string vu.nm) ∧ w'.cell? ⟨h, 6, none⟩ = some (.slice (some ⟨h1, 0, none⟩) 2 vu.cap) ∧ w'.cell? ⟨h, 7, none⟩ = some (.int .i64 vu.p) ∧ w'.cell? ⟨h1, 0, none⟩ = some (.string u1.o) ∧ w'.cell? ⟨h1, 1, none⟩ = some (.string u1.nm) ∧ w'.cell? ⟨h1, 2, none⟩ = some (.slice u1.A u1.ll u1.cap) ∧ w'.cell? ⟨h1, 3, none⟩ = some (.int .i64 u1.p)) W := by
  obtain ⟨_, e0, e1, e2, e3, _⟩ := m'.qE
  obtain ⟨_, y0, y1, y2, y3, _⟩ := m'.qY
  obtain ⟨_, a0, a1, a2, a3, _⟩ := m'.qX
  obtain ⟨_, b0, b1, b2, b3, _⟩ := m'.qXM
  obtain ⟨_, c0, c1, c2, c3, _⟩ := m'.qX0
  obtain ⟨_, d0, d1, d2, d3, _⟩ := m'.qX1
  obtain ⟨_, z0, z1, z2, z3, _⟩ := m'.qZ
  obtain ⟨_, p0, p1, p2, p3, _⟩ := m'.qZ0
  obtain ⟨_, q0, q1, q2, q3, _⟩ := m'.qZM
  obtain ⟨_, r0, r1, r2, r3, _⟩ := m'.qZ1
  rw [m'.fA.1] at a0; rw [m'.fA.2.1, m'.fA.2.2] at a2
  rw [m'.fm.1] at b0; rw [m'.fm.2.1, m'.fm.2.2] at b2
  rw [m'.fB.1] at z0; rw [m'.fB.2.1, m'.fB.2.2] at z2
  rw [m'.fu.1] at q0; rw [m'.fu.2.1, m'.fu.2.2] at q2
  exact ⟨e0, e1, e2, e3, y0, y1, y2, y3, a0, a1, a2, a3, b0, b1, b2, b3, c0, c1, c2, c3, d0, d1, d2, d3, z0, z1, z2, z3, p0, p1, p2, p3, q0, q1, q2, q3, r0, r1, r2, r3⟩
theorem MemF.xfs (m' : MemF w W bE bY bA bB g g0 h h1 vE vY vA vm v0 v1 vB vu u0 u1 f y a b i j n m SE SY SA SB BL L) : FS W 42 SA (andF a b n) (FV.c ⟨⟨#[38]⟩, vA.nm, some ⟨g, 0, none⟩, 2, vA.cap, vA.p⟩) := by
  have h := m'.qX.fs
  unfold FV.c at h ⊢
  rw [m'.fA.1, m'.fA.2.1, m'.fA.2.2] at h
  exact h
theorem MemF.zfs (m' : MemF w W bE bY bA bB g g0 h h1 vE vY vA vm v0 v1 vB vu u0 u1 f y a b i j n m SE SY SA SB BL L) : FS W 42 SB (untF i j m) (FV.c ⟨⟨#[85]⟩, vB.nm, some ⟨h, 0, none⟩, 2, vB.cap, vB.p⟩) := by
  have h := m'.qZ.fs
  unfold FV.c at h ⊢
  rw [m'.fB.1, m'.fB.2.1, m'.fB.2.2] at h
  exact h
theorem MemF.bareA (m' : MemF w W bE bY bA bB g g0 h h1 vE vY vA vm v0 v1 vB vu u0 u1 f y a b i j n m SE SY SA SB BL L) : (andF a b n).size = f.size + y.size + 3 ∧ lbs (andF a b n) = lbs f ++ lbs y := by
  have h1 : a.size = f.size := by rw [← fsize_bare a, m'.ea, fsize_bare]
  have h2 : b.size = y.size := by rw [← fsize_bare b, m'.eb, fsize_bare]
  refine ⟨by simp only [andF, Fo.size, h1, h2], ?_⟩
  simp only [andF, lbs, lbs_same m'.ea, lbs_same m'.eb]
  rw [if_neg (by decide), List.append_nil]
theorem MemF.bareB (m' : MemF w W bE bY bA bB g g0 h h1 vE vY vA vm v0 v1 vB vu u0 u1 f y a b i j n m SE SY SA SB BL L) : (untF i j m).size = f.size + y.size + 3 ∧ lbs (untF i j m) = lbs f ++ lbs y := by
  have h1 : i.size = f.size := by rw [← fsize_bare i, m'.ei, fsize_bare]
  have h2 : j.size = y.size := by rw [← fsize_bare j, m'.ej, fsize_bare]
  refine ⟨by simp only [untF, Fo.size, h1, h2]; omega, ?_⟩
  simp only [untF, lbs, lbs_same m'.ei, lbs_same m'.ej]
  rw [if_neg (by decide), List.append_nil]
def MemP (w : World) (bE bY bA bB g g0 h h1 : Nat) (vE vY vA vm v0 v1 vB vu u0 u1 : FV) (f y a b i j : Fo) (n m : Nat) (SE SY SA SB : Nat → Prop) (BL : Option Addr) (L : List (List UInt8)) (r : Value) (e : Ending) (w' : World) : Prop := e = .returned r ∧ MemF w w' bE bY bA bB g g0 h h1 vE vY vA vm v0 v1 vB vu u0 u1 f y a b i j n m SE SY SA SB BL L
theorem MemF.same1 (m' : MemF w W bE bY bA bB g g0 h h1 vE vY vA vm v0 v1 vB vu u0 u1 f y a b i j n m SE SY SA SB BL L) : Calls Tryz.prog 15 #[.agg #[.string v0.o, .string v0.nm, .slice v0.A v0.ll v0.cap, .int .i64 v0.p], .agg #[.string vE.o, .string vE.nm, .slice vE.A vE.ll vE.cap, .int .i64 vE.p]] W (MemP w bE bY bA bB g g0 h h1 vE vY vA vm v0 v1 vB vu u0 u1 f y a b i j n m SE SY SA SB BL L (.bool true)) :=
  (fsame_any a f W _ _ _ _ m'.qX0.fs m'.qE.fs).mono fun _ _ ⟨h1, h2⟩ => ⟨by rw [h1, decide_eq_true m'.ea], m'.below h2⟩
theorem MemF.same2 (m' : MemF w W bE bY bA bB g g0 h h1 vE vY vA vm v0 v1 vB vu u0 u1 f y a b i j n m SE SY SA SB BL L) : Calls Tryz.prog 15 #[.agg #[.string v1.o, .string v1.nm, .slice v1.A v1.ll v1.cap, .int .i64 v1.p], .agg #[.string vY.o, .string vY.nm, .slice vY.A vY.ll vY.cap, .int .i64 vY.p]] W (MemP w bE bY bA bB g g0 h h1 vE vY vA vm v0 v1 vB vu u0 u1 f y a b i j n m SE SY SA SB BL L (.bool true)) :=
  (fsame_any b y W _ _ _ _ m'.qX1.fs m'.qY.fs).mono fun _ _ ⟨h1, h2⟩ => ⟨by rw [h1, decide_eq_true m'.eb], m'.below h2⟩
theorem MemF.same3 (m' : MemF w W bE bY bA bB g g0 h h1 vE vY vA vm v0 v1 vB vu u0 u1 f y a b i j n m SE SY SA SB BL L) : Calls Tryz.prog 15 #[.agg #[.string u0.o, .string u0.nm, .slice u0.A u0.ll u0.cap, .int .i64 u0.p], .agg #[.string vE.o, .string vE.nm, .slice vE.A vE.ll vE.cap, .int .i64 vE.p]] W (MemP w bE bY bA bB g g0 h h1 vE vY vA vm v0 v1 vB vu u0 u1 f y a b i j n m SE SY SA SB BL L (.bool true)) :=
  (fsame_any i f W _ _ _ _ m'.qZ0.fs m'.qE.fs).mono fun _ _ ⟨h1, h2⟩ => ⟨by rw [h1, decide_eq_true m'.ei], m'.below h2⟩
theorem MemF.same4 (m' : MemF w W bE bY bA bB g g0 h h1 vE vY vA vm v0 v1 vB vu u0 u1 f y a b i j n m SE SY SA SB BL L) : Calls Tryz.prog 15 #[.agg #[.string u1.o, .string u1.nm, .slice u1.A u1.ll u1.cap, .int .i64 u1.p], .agg #[.string vY.o, .string vY.nm, .slice vY.A vY.ll vY.cap, .int .i64 vY.p]] W (MemP w bE bY bA bB g g0 h h1 vE vY vA vm v0 v1 vB vu u0 u1 f y a b i j n m SE SY SA SB BL L (.bool true)) :=
  (fsame_any j y W _ _ _ _ m'.qZ1.fs m'.qY.fs).mono fun _ _ ⟨h1, h2⟩ => ⟨by rw [h1, decide_eq_true m'.ej], m'.below h2⟩
theorem MemF.sizeA (m' : MemF w W bE bY bA bB g g0 h h1 vE vY vA vm v0 v1 vB vu u0 u1 f y a b i j n m SE SY SA SB BL L) : Calls Tryz.prog 20 #[.agg #[.string ⟨#[38]⟩, .string vA.nm, .slice (some ⟨g, 0, none⟩) 2 vA.cap, .int .i64 vA.p]] W (MemP w bE bY bA bB g g0 h h1 vE vY vA vm v0 v1 vB vu u0 u1 f y a b i j n m SE SY SA SB BL L (.int .i64 ((f.size : Int) + (y.size : Int) + 3))) :=
  (psize_any W m'.xfs).mono fun _ _ ⟨h1, h2⟩ => ⟨by rw [h1, m'.bareA.1, Nat.min_eq_left (by have := m'.sz; omega)]; rfl, m'.below h2⟩
theorem MemF.sizeE (m' : MemF w W bE bY bA bB g g0 h h1 vE vY vA vm v0 v1 vB vu u0 u1 f y a b i j n m SE SY SA SB BL L) : Calls Tryz.prog 20 #[.agg #[.string vE.o, .string vE.nm, .slice vE.A vE.ll vE.cap, .int .i64 vE.p]] W (MemP w bE bY bA bB g g0 h h1 vE vY vA vm v0 v1 vB vu u0 u1 f y a b i j n m SE SY SA SB BL L (.int .i64 (f.size : Int))) :=
  (psize_any W m'.qE.fs).mono fun _ _ ⟨h1, h2⟩ => ⟨by rw [h1, Nat.min_eq_left (by have := m'.sz; omega)], m'.below h2⟩
theorem MemF.sizeY (m' : MemF w W bE bY bA bB g g0 h h1 vE vY vA vm v0 v1 vB vu u0 u1 f y a b i j n m SE SY SA SB BL L) : Calls Tryz.prog 20 #[.agg #[.string vY.o, .string vY.nm, .slice vY.A vY.ll vY.cap, .int .i64 vY.p]] W (MemP w bE bY bA bB g g0 h h1 vE vY vA vm v0 v1 vB vu u0 u1 f y a b i j n m SE SY SA SB BL L (.int .i64 (y.size : Int))) :=
  (psize_any W m'.qY.fs).mono fun _ _ ⟨h1, h2⟩ => ⟨by rw [h1, Nat.min_eq_left (by have := m'.sz; omega)], m'.below h2⟩
theorem MemF.withL (m' : MemF w W bE bY bA bB g g0 h h1 vE vY vA vm v0 v1 vB vu u0 u1 f y a b i j n m SE SY SA SB BL L) {B : Option Addr} {K : List (List UInt8)} (hk : RS W B K) : MemF w W bE bY bA bB g g0 h h1 vE vY vA vm v0 v1 vB vu u0 u1 f y a b i j n m SE SY SA SB B K := ⟨m'.qE, m'.qY, m'.qX, m'.qXM, m'.qX0, m'.qX1, m'.qZ, m'.qZ0, m'.qZM, m'.qZ1, m'.qB, m'.fA, m'.fm, m'.fB, m'.fu, m'.ea, m'.eb, m'.ei, m'.ej, m'.okA, m'.okB, m'.sz, hk⟩
def LabP (w : World) (bE bY bA bB g g0 h h1 : Nat) (vE vY vA vm v0 v1 vB vu u0 u1 : FV) (f y a b i j : Fo) (n m : Nat) (SE SY SA SB : Nat → Prop) (BL : Option Addr) (L : List (List UInt8)) (e : Ending) (w' : World) : Prop := ∃ B cB, e = .returned (.slice B (lbK (lbs f ++ lbs y)).length cB) ∧ RS w' B (lbK (lbs f ++ lbs y)) ∧ (lbK (lbs f ++ lbs y)).Pairwise (fun p q => p < q) ∧ (lbK (lbs f ++ lbs y)).length ≤ 100000 ∧ MemF w w' bE bY bA bB g g0 h h1 vE vY vA vm v0 v1 vB vu u0 u1 f y a b i j n m SE SY SA SB BL L
theorem MemF.labA (m' : MemF w W bE bY bA bB g g0 h h1 vE vY vA vm v0 v1 vB vu u0 u1 f y a b i j n m SE SY SA SB BL L) : Calls Tryz.prog 19 #[.agg #[.string ⟨#[38]⟩, .string vA.nm, .slice (some ⟨g, 0, none⟩) 2 vA.cap, .int .i64 vA.p]] W (LabP w bE bY bA bB g g0 h h1 vE vY vA vm v0 v1 vB vu u0 u1 f y a b i j n m SE SY SA SB BL L) := by
  have h := plabels_any W m'.okA (by rw [m'.bareA.1]; have := m'.sz; omega) m'.xfs
  rw [m'.bareA.2] at h
  refine h.mono fun e w' hq => ?_
  obtain ⟨v, k1, k2, k3, k6, k4⟩ := hq
  obtain ⟨B, cB, rfl, k5⟩ := rs_row k2
  exact ⟨B, cB, k1, k5, k3, k6, m'.below k4⟩
def LabQ (w : World) (bE bY bA bB g g0 h h1 : Nat) (vE vY vA vm v0 v1 vB vu u0 u1 : FV) (f y a b i j : Fo) (n m : Nat) (SE SY SA SB : Nat → Prop) (BL : Option Addr) (L : List (List UInt8)) (e : Ending) (w' : World) : Prop := ∃ B cB, e = .returned (.slice B L.length cB) ∧ RS w' B L ∧ MemF w w' bE bY bA bB g g0 h h1 vE vY vA vm v0 v1 vB vu u0 u1 f y a b i j n m SE SY SA SB BL L
theorem MemF.labB (m' : MemF w W bE bY bA bB g g0 h h1 vE vY vA vm v0 v1 vB vu u0 u1 f y a b i j n m SE SY SA SB BL L) (hL : L = lbK (lbs f ++ lbs y)) : Calls Tryz.prog 19 #[.agg #[.string ⟨#[85]⟩, .string vB.nm, .slice (some ⟨h, 0, none⟩) 2 vB.cap, .int .i64 vB.p]] W (LabQ w bE bY bA bB g g0 h h1 vE vY vA vm v0 v1 vB vu u0 u1 f y a b i j n m SE SY SA SB BL L) := by
  have h := plabels_any W m'.okB (by rw [m'.bareB.1]; have := m'.sz; omega) m'.zfs
  rw [m'.bareB.2, ← hL] at h
  refine h.mono fun e w' hq => ?_
  obtain ⟨v, k1, k2, k3, k6, k4⟩ := hq
  obtain ⟨B, cB, rfl, k5⟩ := rs_row k2
  exact ⟨B, cB, k1, k5, m'.below k4⟩
theorem MemF.texts (m' : MemF w W bE bY bA bB g g0 h h1 vE vY vA vm v0 v1 vB vu u0 u1 f y a b i j n m SE SY SA SB BL L) {B : Option Addr} {cB cL : Nat} (k1 : RS W B L) (hl : L.length ≤ 100000) : Calls Tryz.prog 21 #[.slice B L.length cB, .slice BL L.length cL] W (MemP w bE bY bA bB g g0 h h1 vE vY vA vm v0 v1 vB vu u0 u1 f y a b i j n m SE SY SA SB BL L (.bool true)) :=
  (ptexts_any W k1 m'.qL (by omega)).mono fun _ _ ⟨k3, k4⟩ => ⟨by rw [k3, decide_eq_true rfl], m'.below k4⟩
end
set_option maxHeartbeats 8000000 in
set_option maxRecDepth 100000 in
theorem pparens_ok (s t : ByteArray) (D : Nat) (w : World) (hG : GlobS w) (hx : GoesF s t D) {f0 y0 : Fo} (hp : parseF D s.data.toList = .ok f0) (hq : parseF D t.data.toList = .ok y0) : Calls Tryz.prog 6 #[.string s, .string t, .int .i64 (D : Int)] w (LawF w) := by
  have H0 := Lib.hid (palive_yes w hG)
  have hl := hx.len
  have hd1 := hx.d1
  have hd60 := hx.d60
  have H1 := Lib.hid (pquiet_any s (by omega))
  rw [hx.cs] at H1
  have H2 := Lib.hid (pquiet_any t (by omega))
  rw [hx.ct] at H2
  have g1 : decide (1000 < (s.size : Int) + (t.size : Int)) = false := by simp; omega
  have g2 : decide ((D : Int) < 1) = false := by simp; omega
  have g2' : decide (D < 1) = false := by simp; omega
  have g3 : decide (60 < (D : Int)) = false := by simp; omega
  have g3' : decide (60 < D) = false := by simp; omega
  have HG := Lib.hid hG
  have hsl' : s.data.toList.length = s.size := by simp
  have htl' : t.data.toList.length = t.size := by simp
  obtain ⟨a, b, n, hpa, hba, hbb⟩ := paren_and (by omega) hx.cs hx.ct hp hq
  obtain ⟨i, j, m, hpi, hbi, hbj⟩ := paren_until (by omega) hx.cs hx.ct hp hq
  have H5 := Lib.hid (fun (W : World) (hW : GlobS W) => pparse_any (s := t) W hW (by omega) hx.d1 (by omega))
  rw [hq] at H5
  have H6 := Lib.hid (fun (W : World) (hW : GlobS W) => pparse_any (s := ⟨#[40]⟩ ++ s ++ ⟨#[41, 32, 38, 32, 40]⟩ ++ t ++ ⟨#[41, 32, 38, 32, 116, 114, 117, 101]⟩) (D := D + 1) W hW (by simp only [ByteArray.size_append]; show 1 + s.size + 5 + t.size + 8 ≤ _; omega) (by omega) (by omega))
  have q6 : (⟨#[40]⟩ ++ s ++ ⟨#[41, 32, 38, 32, 40]⟩ ++ t ++ ⟨#[41, 32, 38, 32, 116, 114, 117, 101]⟩ : ByteArray).data.toList = 40 :: (s.data.toList ++ 41 :: 32 :: 38 :: 32 :: 40 :: (t.data.toList ++ 41 :: 32 :: 38 :: 32 :: opTrue)) := by simp; rfl
  have okA := (parse_okf (by rw [← q6]; simp only [Array.length_toList]; simp only [ByteArray.size_data, ByteArray.size_append]; show 1 + s.size + 5 + t.size + 8 ≤ _; omega) hpa).1
  rw [q6, hpa] at H6
  have H7 := Lib.hid (fun (W : World) (hW : GlobS W) => pparse_any (s := ⟨#[40]⟩ ++ s ++ ⟨#[41, 32, 85, 32, 40]⟩ ++ t ++ ⟨#[41, 32, 85, 32, 116, 114, 117, 101]⟩) (D := D + 3) W hW (by simp only [ByteArray.size_append]; show 1 + s.size + 5 + t.size + 8 ≤ _; omega) (by omega) (by omega))
  have q7 : (⟨#[40]⟩ ++ s ++ ⟨#[41, 32, 85, 32, 40]⟩ ++ t ++ ⟨#[41, 32, 85, 32, 116, 114, 117, 101]⟩ : ByteArray).data.toList = 40 :: (s.data.toList ++ 41 :: 32 :: 85 :: 32 :: 40 :: (t.data.toList ++ 41 :: 32 :: 85 :: 32 :: opTrue)) := by simp; rfl
  have okB := (parse_okf (by rw [← q7]; simp only [Array.length_toList]; simp only [ByteArray.size_data, ByteArray.size_append]; show 1 + s.size + 5 + t.size + 8 ≤ _; omega) hpi).1
  rw [q7, hpi] at H7
  have sE := (parse_okf (by omega) hp).2
  have sY := (parse_okf (by omega) hq).2
  have HQ := Lib.hid (show (a.bare = f0.bare ∧ b.bare = y0.bare ∧ i.bare = f0.bare ∧ j.bare = y0.bare) ∧ OkF (andF a b n) ∧ OkF (untF i j m) ∧ f0.size + y0.size ≤ 1002 from ⟨⟨hba, hbb, hbi, hbj⟩, okA, okB, by omega⟩)
  clear hba hbb hbi hbj hpa hpi okA okB sE sY q6 q7
  have hsl : s.data.toList.length = s.size := by simp
  have htl : t.data.toList.length = t.size := by simp
  obtain ⟨x0, hpx, hbx⟩ := paren_sameF (by omega) hx.cs hp
  have H3 := Lib.hid (fun (W : World) (hW : GlobS W) => pparse_any (s := s) W hW (by omega) hx.d1 (by omega))
  rw [hp] at H3
  have H4 := Lib.hid (fun (W : World) (hW : GlobS W) => pparse_any (s := ⟨#[40]⟩ ++ s ++ ⟨#[41]⟩) (D := D + 1) W hW (by simp only [ByteArray.size_append]; show 1 + s.size + 1 ≤ _; omega) (by omega) (by omega))
  rw [show (⟨#[40]⟩ ++ s ++ ⟨#[41]⟩ : ByteArray).data.toList = 40 :: (s.data.toList ++ [41]) by simp, hpx] at H4
  have HBX := Lib.hid hbx
  clear hbx hpx hsl htl
  clear hG hp hq hsl' htl'
  clear hx
  go_enter Tryz.func6, Tryz.ntmps6
  go_wp2_with fail
  with_reducible refine (H0.out).mono ?_
  rintro e w1 ⟨rfl, hb1⟩
  have HB1 := Lib.hid hb1
  clear hb1
  go_wp2_with fail
  with_reducible refine (H1.out _).mono ?_
  rintro e w2 ⟨rfl, rfl⟩
  go_wp2_with fail
  with_reducible refine (H2.out _).mono ?_
  rintro e w2 ⟨rfl, rfl⟩
  go_wp2_with fail
  refine (H3.out _ (HG.out.below HB1.out)).mono ?_
  rintro e w3 ⟨v3, rfl, hC, hb3⟩
  have HB3 := Lib.hid (HB1.out.trans (hb3.mono HB1.out.size))
  have HC3 := Lib.hid (show FS w3 42 _ f0 v3.c from hC)
  clear hb3 hC
  go_wp2_with fail
  refine calls_gen (P := fun W => At4 W w3.heap.size 0 v3 f0 (fun j => j < w3.heap.size) ∧ Below w.heap.size w W) ⟨at4_new (HC3.out.wide (fun j _ hj => hj.2)), HB3.out.alloc HB3.out.size _⟩ ?_
  rintro W ⟨hE, hB⟩
  refine (H4.out _ (HG.out.below hB)).mono ?_
  rintro e w4 ⟨v4, rfl, hC, hb4⟩
  have HE4 := Lib.hid (hE.below hb4)
  have HB4 := Lib.hid (hB.trans (hb4.mono hB.size))
  have HC4 := Lib.hid (show FS w4 42 _ x0 v4.c from hC)
  clear hE hB hb4 hC HC3 HB3
  have ⟨hlE, hE0, hE1, hE2, hE3, _⟩ := HE4.out
  simp only [Nat.zero_add] at hE1 hE2 hE3
  go_wp2_with fail
  refine (fsame_any f0 x0 _ _ _ _ _ (HE4.out.fs.alloc _) (HC4.out.alloc _)).mono ?_
  rintro e w6 ⟨rfl, hb6⟩
  have hba := (Below.refl w4.heap.size w4).alloc (Nat.le_refl _) (.cells #[.string v4.o, .string v4.nm, .slice v4.A v4.ll v4.cap, .int .i64 v4.p] 42)
  have HE6 := Lib.hid ((HE4.out.below hba).below hb6)
  have HB6 := Lib.hid ((HB4.out.alloc HB4.out.size _).trans (hb6.mono (by simp; have := HB4.out.size; omega)))
  rw [decide_eq_true HBX.out.symm]
  clear hb6 hba hlE hE0 hE1 hE2 hE3 HE4 HB4 HC4
  go_wp2_with fail
  refine (H5.out _ (HG.out.below HB6.out)).mono ?_
  rintro e w7 ⟨v7, rfl, hC, hb7⟩
  have HE7 := Lib.hid (HE6.out.below hb7)
  have HB7 := Lib.hid (HB6.out.trans (hb7.mono HB6.out.size))
  have HC7 := Lib.hid (show FS w7 42 _ y0 v7.c from hC)
  clear hb7 hC HE6 HB6
  go_wp2_with fail
  refine calls_gen (P := fun W => At4 W w3.heap.size 0 v3 f0 (fun j => j < w3.heap.size) ∧ At4 W w7.heap.size 0 v7 y0 (fun j => j < w7.heap.size) ∧ Below w.heap.size w W) ⟨HE7.out.alloc _, at4_new (HC7.out.wide (fun j _ hj => hj.2)), HB7.out.alloc HB7.out.size _⟩ ?_
  rintro W ⟨hE, hY, hB⟩
  refine (H6.out _ (HG.out.below hB)).mono ?_
  rintro e w8 ⟨v8, rfl, hC, hb8⟩
  have HE8 := Lib.hid (hE.below hb8)
  have HY8 := Lib.hid (hY.below hb8)
  have HB8 := Lib.hid (hB.trans (hb8.mono hB.size))
  have HC8 := Lib.hid (show FS w8 42 _ (andF a b n) v8.c from hC)
  clear hE hY hB hb8 hC HE7 HB7 HC7
  go_wp2_with fail
  refine calls_gen (P := fun W => At4 W w3.heap.size 0 v3 f0 (fun j => j < w3.heap.size) ∧ At4 W w7.heap.size 0 v7 y0 (fun j => j < w7.heap.size) ∧ At4 W w8.heap.size 0 v8 (andF a b n) (fun j => j < w8.heap.size) ∧ Below w.heap.size w W) ⟨HE8.out.alloc _, HY8.out.alloc _, at4_new (HC8.out.wide (fun j _ hj => hj.2)), HB8.out.alloc HB8.out.size _⟩ ?_
  rintro W9 ⟨hE, hY, hX, hB⟩
  refine (H7.out _ (HG.out.below hB)).mono ?_
  rintro e w9 ⟨v9, rfl, hC, hb9⟩
  have hC9 : FS w9 42 (fun j => j < w9.heap.size) (untF i j m) v9.c := FS.wide (fun j _ hj => hj.2) (show FS w9 42 _ (untF i j m) v9.c from hC)
  obtain ⟨ho8, hl8, g, vm, vt, hA8, hM, _⟩ := kid2 (hX.below hb9).fs
  obtain ⟨hom, hlm, g0, v0, v1, hAm, hV0, hV1⟩ := kid2 hM.fs
  obtain ⟨ho9, hl9, h, u0, vu, hA9, hU0, hUM⟩ := kid2 hC9
  obtain ⟨hou, hlu, h1, u1, ut, hAu, hU1, _⟩ := kid2 hUM.fs
  obtain ⟨kb, k1, k2⟩ := HQ.out
  have lk0 : MemF w (w9.alloc (.cells v9.c.toArray 42)) w3.heap.size w7.heap.size w8.heap.size w9.heap.size g g0 h h1 v3 v7 v8 vm v0 v1 v9 vu u0 u1 f0 y0 a b i j n m (fun j => j < w3.heap.size) (fun j => j < w7.heap.size) (fun j => j < w8.heap.size) (fun j => j < w9.heap.size) none [] :=
    ⟨(hE.below hb9).alloc _, (hY.below hb9).alloc _, (hX.below hb9).alloc _, hM.alloc _, hV0.alloc _, hV1.alloc _, at4_new hC9, hU0.alloc _, hUM.alloc _, hU1.alloc _, (hB.trans (hb9.mono hB.size)).alloc (Nat.le_trans hB.size hb9.size) _, ⟨ho8, hA8, hl8⟩, ⟨hom, hAm, hlm⟩, ⟨ho9, hA9, hl9⟩, ⟨hou, hAu, hlu⟩, kb.1, kb.2.1, kb.2.2.1, kb.2.2.2, k1, k2.1, k2.2, fun i hi => absurd hi (by simp)⟩
  rw [show v9.c.toArray = #[.string ⟨#[85]⟩, .string v9.nm, .slice (some ⟨h, 0, none⟩) 2 v9.cap, .int .i64 v9.p] by unfold FV.c; rw [ho9, hA9, hl9]] at lk0
  have LK := Lib.hid lk0
  clear lk0
  have ⟨x0l, c0, _, c2, _, _⟩ := hX.below hb9
  have ⟨gl, d0, _, _, _, _⟩ := hM
  have ⟨hl', e0, _, _, _, _⟩ := hUM
  rw [ho8] at c0
  rw [Nat.zero_add, hA8, hl8] at c2
  rw [hom] at d0
  rw [hou] at e0
  rw [ho9, hA9, hl9]
  clear hE hY hX hB hC hC9 hM hV0 hV1 hU0 hUM hU1 hb9 HE8 HY8 HB8 HC8 kb k1 k2 ho8 hl8 hA8 hom hlm hAm ho9 hl9 hA9 hou hlu hAu
  go_wp2_with fail
  clear x0l c0 c2 gl d0 hl' e0
  have lk := LK.out
  clear LK HG HBX HQ
  generalize w9.alloc (.cells #[.string ⟨#[85]⟩, .string v9.nm, .slice (some ⟨h, 0, none⟩) 2 v9.cap, .int .i64 v9.p] 42) = W10 at lk ⊢
  generalize w9.heap.size = bB at lk ⊢
  generalize w8.heap.size = bA at lk ⊢
  generalize w7.heap.size = bY at lk ⊢
  generalize w3.heap.size = bE at lk ⊢
  refine (lk.labA).mono ?_
  rintro e wL ⟨BL, cL, rfl, hRS, hasc, hlen, lk⟩
  obtain ⟨L, hL⟩ : ∃ L, L = lbK (lbs f0 ++ lbs y0) := ⟨_, rfl⟩
  rw [← hL] at hRS hasc hlen ⊢
  have HLK := Lib.hid (lk.withL hRS)
  have HRS := Lib.hid hRS
  have HASC := Lib.hid hasc
  have HL := Lib.hid hL
  clear lk hRS hasc hL
  go_wp2
  go_loopw [18] (fun i wr => ∃ k : Nat, i = .int .i64 ((k : Int) + 1) ∧ Below wL.heap.size wL wr) (fun i _ => L.length + 1 - (intOf i).toNat)
  case atStart => exact ⟨0, rfl, Below.refl _ _⟩
  case round =>
    obtain ⟨k, rfl, hb⟩ := hrel
    have HB := Lib.hid hb
    by_cases hlt : k + 1 < L.length
    · have r1 : decide ((k : Int) + 1 < (L.length : Int)) = true := by simp; omega
      have r2 : (k : Int) + 1 - 1 = (k : Int) := by omega
      obtain ⟨gL, hBL, hgl, a0⟩ := HRS.out.below hb k (by omega)
      obtain ⟨gL', hBL', _, a1⟩ := HRS.out.below hb (k + 1) hlt
      have e : gL' = gL := by rw [hBL] at hBL'; simpa using hBL'.symm
      subst e hBL
      clear hBL' hb
      unfold strV at a0 a1
      have rl : Op.bytesLess L[k] L[k + 1] = true := by
        rw [bytesLess_eq]
        simpa using List.pairwise_iff_getElem.1 HASC.out k (k + 1) (by omega) hlt (by omega)
      obtain ⟨o, hoo⟩ : ∃ o, o = (⟨L[k].toArray⟩ : ByteArray) := ⟨_, rfl⟩
      obtain ⟨o', hoo'⟩ : ∃ o', o' = (⟨L[k + 1].toArray⟩ : ByteArray) := ⟨_, rfl⟩
      have rl2 : Op.bytesLess o.toList o'.toList = true := by rw [hoo, hoo', ByteArray.toList_eq, ByteArray.toList_eq]; exact rl
      rw [← hoo] at a0
      rw [← hoo'] at a1
      clear hoo hoo' rl
      go_wp2_with fail
      go_quiet (fail)
      go_wp2
      go_roundw
      case rel => exact ⟨k + 1, by go_num, below_drewN HB.out _⟩
      case measure => simp [intOf]; omega
    · have r1 : decide ((k : Int) + 1 < (L.length : Int)) = false := by simp; omega
      clear hb
      have lk := (HLK.out.below HB.out).drew
      have hz := lk.sz
      have z1 : min ((f0.size : Int) + (y0.size : Int) + 3) 4097 = (f0.size : Int) + (y0.size : Int) + 3 := by omega
      have z2 : IntKind.i64.wrap ((f0.size : Int) + (y0.size : Int)) = (f0.size : Int) + (y0.size : Int) := IntWalk.i64_in _ (by omega)
      have z3 : IntKind.i64.wrap ((f0.size : Int) + (y0.size : Int) + 3) = (f0.size : Int) + (y0.size : Int) + 3 := IntWalk.i64_in _ (by omega)
      clear HLK HRS HB HASC
      go_wp2_with fail
      go_region_held3 (fun w' => w'.cell? ⟨bE, 0, none⟩ = some (.string v3.o) ∧ w'.cell? ⟨bE, 1, none⟩ = some (.string v3.nm) ∧ w'.cell? ⟨bE, 2, none⟩ = some (.slice v3.A v3.ll v3.cap) ∧ w'.cell? ⟨bE, 3, none⟩ = some (.int .i64 v3.p) ∧ w'.cell? ⟨bY, 0, none⟩ = some (.string v7.o) ∧ w'.cell? ⟨bY, 1, none⟩ = some (.string v7.nm) ∧ w'.cell? ⟨bY, 2, none⟩ = some (.slice v7.A v7.ll v7.cap) ∧ w'.cell? ⟨bY, 3, none⟩ = some (.int .i64 v7.p) ∧ w'.cell? ⟨bA, 0, none⟩ = some (.string ⟨#[38]⟩) ∧ w'.cell? ⟨bA, 1, none⟩ = some (.string v8.nm) ∧ w'.cell? ⟨bA, 2, none⟩ = some (.slice (some ⟨g, 0, none⟩) 2 v8.cap) ∧ w'.cell? ⟨bA, 3, none⟩ = some (.int .i64 v8.p) ∧ w'.cell? ⟨g, 0, none⟩ = some (.string ⟨#[38]⟩) ∧ w'.cell? ⟨g, 1, none⟩ = some (.string vm.nm) ∧ w'.cell? ⟨g, 2, none⟩ = some (.slice (some ⟨g0, 0, none⟩) 2 vm.cap) ∧ w'.cell? ⟨g, 3, none⟩ = some (.int .i64 vm.p) ∧ w'.cell? ⟨g0, 0, none⟩ = some (.string v0.o) ∧ w'.cell? ⟨g0, 1, none⟩ = some (.string v0.nm) ∧ w'.cell? ⟨g0, 2, none⟩ = some (.slice v0.A v0.ll v0.cap) ∧ w'.cell? ⟨g0, 3, none⟩ = some (.int .i64 v0.p) ∧ w'.cell? ⟨g0, 4, none⟩ = some (.string v1.o) ∧ w'.cell? ⟨g0, 5, none⟩ = some (.string v1.nm) ∧ w'.cell? ⟨g0, 6, none⟩ = some (.slice v1.A v1.ll v1.cap) ∧ w'.cell? ⟨g0, 7, none⟩ = some (.int .i64 v1.p) ∧ w'.cell? ⟨bB, 0, none⟩ = some (.string ⟨#[85]⟩) ∧ w'.cell? ⟨bB, 1, none⟩ = some (.string v9.nm) ∧ w'.cell? ⟨bB, 2, none⟩ = some (.slice (some ⟨h, 0, none⟩) 2 v9.cap) ∧ w'.cell? ⟨bB, 3, none⟩ = some (.int .i64 v9.p) ∧ w'.cell? ⟨h, 0, none⟩ = some (.string u0.o) ∧ w'.cell? ⟨h, 1, none⟩ = some (.string u0.nm) ∧ w'.cell? ⟨h, 2, none⟩ = some (.slice u0.A u0.ll u0.cap) ∧ w'.cell? ⟨h, 3, none⟩ = some (.int .i64 u0.p) ∧ w'.cell? ⟨h, 4, none⟩ = some (.string ⟨#[85]⟩) ∧ w'.cell? ⟨h, 5, none⟩ = some (.string vu.nm) ∧ w'.cell? ⟨h, 6, none⟩ = some (.slice (some ⟨h1, 0, none⟩) 2 vu.cap) ∧ w'.cell? ⟨h, 7, none⟩ = some (.int .i64 vu.p) ∧ w'.cell? ⟨h1, 0, none⟩ = some (.string u1.o) ∧ w'.cell? ⟨h1, 1, none⟩ = some (.string u1.nm) ∧ w'.cell? ⟨h1, 2, none⟩ = some (.slice u1.A u1.ll u1.cap) ∧ w'.cell? ⟨h1, 3, none⟩ = some (.int .i64 u1.p)) (exact lk.S) (first
        | (go_at_call 15; (with_reducible refine (lk.same1).mono ?_); rintro e wA ⟨rfl, lk⟩)
        | (go_at_call 15; (with_reducible refine (lk.same2).mono ?_); rintro e wA ⟨rfl, lk⟩)
        | (go_at_call 15; (with_reducible refine (lk.same3).mono ?_); rintro e wA ⟨rfl, lk⟩)
        | (go_at_call 15; (with_reducible refine (lk.same4).mono ?_); rintro e wA ⟨rfl, lk⟩)
        | (go_at_call 20; (with_reducible refine (lk.sizeA).mono ?_); rintro e wA ⟨rfl, lk⟩)
        | (go_at_call 20; (with_reducible refine (lk.sizeE).mono ?_); rintro e wA ⟨rfl, lk⟩)
        | (go_at_call 20; (with_reducible refine (lk.sizeY).mono ?_); rintro e wA ⟨rfl, lk⟩)
        | (go_at_call 19; (with_reducible refine (lk.labB HL.out).mono ?_); rintro e wA ⟨B2, c2, rfl, hRS2, lk⟩)
        | (go_at_call 21; (with_reducible refine (lk.texts hRS2 hlen).mono ?_); rintro e wA ⟨rfl, lk⟩))
      go_wp2
      go_ret
      exact ⟨rfl, lk.qB⟩
end Go.Proofs.YtgplpomekplfbaaGreatDoor
