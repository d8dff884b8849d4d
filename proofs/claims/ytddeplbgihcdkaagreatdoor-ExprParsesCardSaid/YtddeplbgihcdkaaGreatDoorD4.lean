/-
  The document's text of an expression: walked.
-/
import Derived.Test.YtddeplbgihcdkaaGreatDoorD2
import Derived.Test.YtddeplbgihcdkaaGreatDoorD3
import Derived.Test.YtddeplbgihcdkaaGreatDoorKV
import Derived.Deep.RegionHeld3
import Derived.IntWalk
namespace Go.Proofs.YtddeplbgihcdkaaGreatDoor
open Go.RowKit Go.Sort

/-- What Print tells of the document's expression. -/
def PrC (x : Ex) : Prop := ∀ (w : World) (S : Nat → Prop) (c : List Value), HS w 70 S x c → (shw x).length ≤ 1000000 → Calls Tryz.prog 36 #[.agg c.toArray] w (StP (shw x) w)
theorem ret_str {s : ByteArray} {l : List UInt8} (h : s.data.toList = l) : Ending.returned (.string s) = .returned (strV l) := by rw [strV_eq h]
set_option maxHeartbeats 1000000 in
theorem rkid_any {x : Ex} (ih : PrC x) {w : World} {S : Nat → Prop} {o nm : ByteArray} {n p : Int} {A : Option Addr} {ll cap : Nat} (hH : HS w 70 S x (exC o nm n A ll cap p)) (hl : (shw x).length ≤ 1000000) (r : Nat) :
    Calls Tryz.prog 76 #[.agg #[.string o, .string nm, .int .i64 n, .slice A ll cap, .int .i64 p], .int .i64 (r : Int)] w (StP (parX (decide (rk x.op < r)) (shw x)) w) := by
  have ho : o.data.toList = x.op := by rw [hH.opn]
  have H1 := Lib.hid (rrank_any o (w.alloc (.cells #[.string o, .string nm, .int .i64 n, .slice A ll cap, .int .i64 p] 70)))
  rw [ho] at H1
  have H2 := Lib.hid (fun (W : World) (hb : Below w.heap.size w W) => ih W S _ (hH.below hb) hl)
  obtain ⟨tb, htb⟩ : ∃ tb : ByteArray, tb = ⟨(shw x).toArray⟩ := ⟨_, rfl⟩
  have HTB := Lib.hid (show tb.data.toList = shw x by rw [htb])
  have hts : tb.size ≤ 1000000 := by rw [← size_list, HTB.out]; exact hl
  have HSV := Lib.hid (show strV (shw x) = .string tb by rw [htb]; rfl)
  have HB0 := Lib.hid ((Below.refl w.heap.size w).alloc (Nat.le_refl _) (.cells #[.string o, .string nm, .int .i64 n, .slice A ll cap, .int .i64 p] 70))
  clear ih ho hH htb hl
  by_cases hr : rk x.op < r
  · have g1 : decide ((rk x.op : Int) < (r : Int)) = true := by simp; omega
    have g2 : decide (rk x.op < r) = true := by simpa using hr
    rw [g2]
    clear hr
    go_enter Tryz.func76, Tryz.ntmps76
    go_wp2_with fail
    refine (H1.out).mono ?_
    rintro e w1 ⟨rfl, hb1⟩
    have HB1 := Lib.hid (HB0.out.trans (hb1.mono HB0.out.size))
    have hbx : BoxR w1 w.heap.size (.string o) (.string nm) (.int .i64 n) (.slice A ll cap) (.int .i64 p) := (hb1.block w.heap.size (by simp)).trans (heap_alloc_new w _)
    obtain ⟨b0, b1, b2, b3, b4⟩ := hbx.cells
    have hbl := hbx.lt
    clear hb1 hbx
    go_wp2_with fail
    refine (H2.out w1 HB1.out).mono ?_
    rintro e w2 ⟨rfl, hb2⟩
    have HB2 := Lib.hid (HB1.out.trans (hb2.mono HB1.out.size))
    rw [HSV.out]
    clear hb2
    go_wp2
    go_ret
    exact ⟨ret_str (by simp [HTB.out, parX]), HB2.out⟩
  · have g1 : decide ((rk x.op : Int) < (r : Int)) = false := by simp; omega
    have g2 : decide (rk x.op < r) = false := by simpa using hr
    rw [g2]
    clear hr
    go_enter Tryz.func76, Tryz.ntmps76
    go_wp2_with fail
    refine (H1.out).mono ?_
    rintro e w1 ⟨rfl, hb1⟩
    have HB1 := Lib.hid (HB0.out.trans (hb1.mono HB0.out.size))
    have hbx : BoxR w1 w.heap.size (.string o) (.string nm) (.int .i64 n) (.slice A ll cap) (.int .i64 p) := (hb1.block w.heap.size (by simp)).trans (heap_alloc_new w _)
    obtain ⟨b0, b1, b2, b3, b4⟩ := hbx.cells
    have hbl := hbx.lt
    clear hb1 hbx
    go_wp2_with fail
    refine (H2.out w1 HB1.out).mono ?_
    rintro e w2 ⟨rfl, hb2⟩
    have HB2 := Lib.hid (HB1.out.trans (hb2.mono HB1.out.size))
    rw [HSV.out]
    clear hb2
    go_wp2
    go_ret
    exact ⟨ret_str (by simp [HTB.out, parX]), HB2.out⟩
/-- An expression of the document's at a place. -/
def AtR (W : World) (g i : Nat) (v : XV) (x : Ex) (S : Nat → Prop) : Prop :=
  g < W.heap.size ∧ W.cell? ⟨g, i, none⟩ = some (.string v.o) ∧ W.cell? ⟨g, i + 1, none⟩ = some (.string v.nm) ∧ W.cell? ⟨g, i + 2, none⟩ = some (.int .i64 v.n) ∧ W.cell? ⟨g, i + 3, none⟩ = some (.slice v.A v.ll v.cap) ∧ W.cell? ⟨g, i + 4, none⟩ = some (.int .i64 v.p) ∧ HS W 70 S x (exC v.o v.nm v.n v.A v.ll v.cap v.p)
theorem AtR.below {W W' : World} {g i : Nat} {v : XV} {x : Ex} {S : Nat → Prop} (h : AtR W g i v x S) (hb : Below W.heap.size W W') : AtR W' g i v x S := by
  obtain ⟨h1, a0, a1, a2, a3, a4, hH⟩ := h
  exact ⟨Nat.lt_of_lt_of_le h1 hb.size, (hb.cell h1).trans a0, (hb.cell h1).trans a1, (hb.cell h1).trans a2, (hb.cell h1).trans a3, (hb.cell h1).trans a4, hH.below hb⟩
theorem kr_atR {W : World} {S : Nat → Prop} {g : Nat} {ks : List Ex} (h : KR W 70 S (some ⟨g, 0, none⟩) ks) (i : Nat) (hi : i < ks.length) : ∃ v, AtR W g (i * 5) v ks[i] S := by
  obtain ⟨g', o, nm, n, B, l, cap, p, h1, h2, h3, c0, c1, c2, c3, c4⟩ := h i hi
  obtain rfl : g' = g := by injection h1 with h1; injection h1 with h1; exact h1.symm
  exact ⟨⟨o, nm, n, B, l, cap, p⟩, h2, c0, c1, c2, c3, c4, h3⟩
/-- What a region over two kids reads. -/
structure PL2 (w W : World) (bx g : Nat) (o nm : ByteArray) (cap : Nat) (n p : Int) (va vb : XV) (a b : Ex) (S : Nat → Prop) : Prop where
  bx : BoxR W bx (.string o) (.string nm) (.int .i64 n) (.slice (some ⟨g, 0, none⟩) 2 cap) (.int .i64 p)
  a : AtR W g 0 va a S
  b : AtR W g 5 vb b S
  w : Below w.heap.size w W
section
variable {w W W' : World} {bx g : Nat} {o nm : ByteArray} {cap : Nat} {n p : Int} {va vb : XV} {a b : Ex} {S : Nat → Prop}
theorem PL2.below (m : PL2 w W bx g o nm cap n p va vb a b S) (hb : Below W.heap.size W W') : PL2 w W' bx g o nm cap n p va vb a b S := ⟨m.bx.below hb, m.a.below hb, m.b.below hb, m.w.trans (hb.mono m.w.size)⟩
theorem PL2.drew (m : PL2 w W bx g o nm cap n p va vb a b S) : PL2 w W.drew bx g o nm cap n p va vb a b S := m.below (Below.refl _ _).drew
theorem PL2.get (m : PL2 w W bx g o nm cap n p va vb a b S) : (fun w' : World => w'.cell? ⟨bx, 0, none⟩ = some (.string o) ∧ w'.cell? ⟨bx, 3, none⟩ = some (.slice (some ⟨g, 0, none⟩) 2 cap) ∧ w'.cell? ⟨g, 0, none⟩ = some (.string va.o) ∧ w'.cell? ⟨g, 1, none⟩ = some (.string va.nm) ∧ w'.cell? ⟨g, 2, none⟩ = some (.int .i64 va.n) ∧ w'.cell? ⟨g, 3, none⟩ = some (.slice va.A va.ll va.cap) ∧ w'.cell? ⟨g, 4, none⟩ = some (.int .i64 va.p) ∧ w'.cell? ⟨g, 5, none⟩ = some (.string vb.o) ∧ w'.cell? ⟨g, 6, none⟩ = some (.string vb.nm) ∧ w'.cell? ⟨g, 7, none⟩ = some (.int .i64 vb.n) ∧ w'.cell? ⟨g, 8, none⟩ = some (.slice vb.A vb.ll vb.cap) ∧ w'.cell? ⟨g, 9, none⟩ = some (.int .i64 vb.p)) W := by
  obtain ⟨_, e0, e1, e2, e3, e4, _⟩ := m.a
  obtain ⟨_, y0, y1, y2, y3, y4, _⟩ := m.b
  obtain ⟨b0, _, _, b3, _⟩ := m.bx.cells
  exact ⟨b0, b3, e0, e1, e2, e3, e4, y0, y1, y2, y3, y4⟩
def PL2P (w : World) (bx g : Nat) (o nm : ByteArray) (cap : Nat) (n p : Int) (va vb : XV) (a b : Ex) (S : Nat → Prop) (t : ByteArray) (e : Ending) (w' : World) : Prop := e = .returned (.string t) ∧ PL2 w w' bx g o nm cap n p va vb a b S
theorem PL2.kid1 (m : PL2 w W bx g o nm cap n p va vb a b S) (ih : PrC a) (hl : (shw a).length ≤ 1000000) (r : Nat) (z : Int) (hz : z = (r : Int)) {t : ByteArray} (ht : t.data.toList = parX (decide (rk a.op < r)) (shw a)) : Calls Tryz.prog 76 #[.agg #[.string va.o, .string va.nm, .int .i64 va.n, .slice va.A va.ll va.cap, .int .i64 va.p], .int .i64 z] W (PL2P w bx g o nm cap n p va vb a b S t) :=
  hz ▸ (rkid_any ih m.a.2.2.2.2.2.2 hl r).mono fun _ _ ⟨h1, h2⟩ => ⟨by rw [h1, strV_eq ht], m.below h2⟩
theorem PL2.kid2 (m : PL2 w W bx g o nm cap n p va vb a b S) (ih : PrC b) (hl : (shw b).length ≤ 1000000) (r : Nat) (z : Int) (hz : z = (r : Int)) {t : ByteArray} (ht : t.data.toList = parX (decide (rk b.op < r)) (shw b)) : Calls Tryz.prog 76 #[.agg #[.string vb.o, .string vb.nm, .int .i64 vb.n, .slice vb.A vb.ll vb.cap, .int .i64 vb.p], .int .i64 z] W (PL2P w bx g o nm cap n p va vb a b S t) :=
  hz ▸ (rkid_any ih m.b.2.2.2.2.2.2 hl r).mono fun _ _ ⟨h1, h2⟩ => ⟨by rw [h1, strV_eq ht], m.below h2⟩
end
end Go.Proofs.YtddeplbgihcdkaaGreatDoor
