/-
  The document's text of any expression: walked.
-/
import Derived.Test.YtddeplbgihcdkaaGreatDoorD6
namespace Go.Proofs.YtddeplbgihcdkaaGreatDoor
open Go.RowKit Go.Sort

def BX (w : World) (o nm : ByteArray) (n : Int) (A : Option Addr) (l cap : Nat) (p : Int) : World := w.alloc (.cells #[.string o, .string nm, .int .i64 n, .slice A l cap, .int .i64 p] 70)
theorem bx_below (w : World) (o nm : ByteArray) (n : Int) (A : Option Addr) (l cap : Nat) (p : Int) : Below w.heap.size w (BX w o nm n A l cap p) := (Below.refl _ _).alloc (Nat.le_refl _) _
theorem bx_box (w : World) (o nm : ByteArray) (n : Int) (A : Option Addr) (l cap : Nat) (p : Int) : BoxR (BX w o nm n A l cap p) w.heap.size (.string o) (.string nm) (.int .i64 n) (.slice A l cap) (.int .i64 p) := heap_alloc_new w _
set_option maxHeartbeats 1000000 in
set_option maxRecDepth 100000 in
theorem pr_num (n p : Nat) (hn : n < 9223372036854775808) : PrC (.leaf opNum [] n p) := by
  intro w S c hH hl
  obtain rfl : c = _ := hH
  have hs : shw (.leaf opNum [] n p) = dgs n := rfl
  rw [hs]
  change Calls Tryz.prog 36 #[.agg #[.string ⟨#[110, 117, 109]⟩, .string ⟨#[]⟩, .int .i64 (n : Int), .slice none 0 0, .int .i64 (p : Int)]] w _
  have H1 := Lib.hid (rrank_any ⟨#[110, 117, 109]⟩ (w.alloc (.cells #[.string ⟨#[110, 117, 109]⟩, .string ⟨#[]⟩, .int .i64 (n : Int), .slice none 0 0, .int .i64 (p : Int)] 70)))
  have e1 : rk (⟨#[110, 117, 109]⟩ : ByteArray).data.toList = 9 := by decide
  rw [e1] at H1
  have HB0 := Lib.hid (bx_below w ⟨#[110, 117, 109]⟩ ⟨#[]⟩ (n : Int) none 0 0 (p : Int))
  have HX0 := Lib.hid (bx_box w ⟨#[110, 117, 109]⟩ ⟨#[]⟩ (n : Int) none 0 0 (p : Int))
  unfold BX at HB0 HX0
  have H2 := Lib.hid (digits_any n hn)
  clear hs e1 hl
  go_enter Tryz.func36, Tryz.ntmps36
  go_wp2_with fail
  refine (H1.out).mono ?_
  rintro e w1 ⟨rfl, hb1⟩
  have HB1 := Lib.hid (HB0.out.trans (hb1.mono HB0.out.size))
  have hx := HX0.out.below hb1
  obtain ⟨b0, b1, b2, b3, b4⟩ := hx.cells
  have hbl := hx.lt
  clear hb1 hx
  go_wp2_with fail
  refine (H2.out w1).mono ?_
  rintro e w2 ⟨rfl, hb2⟩
  have HB2 := Lib.hid (HB1.out.trans (hb2.mono HB1.out.size))
  clear hb2
  obtain ⟨tb, htb⟩ : ∃ tb : ByteArray, tb.data.toList = dgs n := ⟨⟨(dgs n).toArray⟩, rfl⟩
  have HT := Lib.hid htb
  rw [← strV_eq htb]
  clear htb
  go_wp2
  go_ret
  exact ⟨ret_str HT.out, HB2.out⟩
set_option maxHeartbeats 1000000 in
set_option maxRecDepth 100000 in
theorem pr_name (nm : List UInt8) (p : Nat) : PrC (.leaf opName nm 0 p) := by
  intro w S c hH hl
  obtain rfl : c = _ := hH
  have hs : shw (.leaf opName nm 0 p) = nm := by simp [shw, opName, opNum]
  rw [hs]
  change Calls Tryz.prog 36 #[.agg #[.string ⟨#[110, 97, 109, 101]⟩, .string ⟨nm.toArray⟩, .int .i64 0, .slice none 0 0, .int .i64 (p : Int)]] w _
  have H1 := Lib.hid (rrank_any ⟨#[110, 97, 109, 101]⟩ (w.alloc (.cells #[.string ⟨#[110, 97, 109, 101]⟩, .string ⟨nm.toArray⟩, .int .i64 0, .slice none 0 0, .int .i64 (p : Int)] 70)))
  have e1 : rk (⟨#[110, 97, 109, 101]⟩ : ByteArray).data.toList = 9 := by decide
  rw [e1] at H1
  have HB0 := Lib.hid (bx_below w ⟨#[110, 97, 109, 101]⟩ ⟨nm.toArray⟩ 0 none 0 0 (p : Int))
  have HX0 := Lib.hid (bx_box w ⟨#[110, 97, 109, 101]⟩ ⟨nm.toArray⟩ 0 none 0 0 (p : Int))
  unfold BX at HB0 HX0
  have HNM := Lib.hid (show (⟨nm.toArray⟩ : ByteArray).data.toList = nm from rfl)
  clear hs e1 hl
  generalize (⟨nm.toArray⟩ : ByteArray) = nb at *
  go_enter Tryz.func36, Tryz.ntmps36
  go_wp2_with fail
  refine (H1.out).mono ?_
  rintro e w1 ⟨rfl, hb1⟩
  have HB1 := Lib.hid (HB0.out.trans (hb1.mono HB0.out.size))
  have hx := HX0.out.below hb1
  obtain ⟨b0, b1, b2, b3, b4⟩ := hx.cells
  have hbl := hx.lt
  clear hb1 hx
  go_wp2
  go_ret
  exact ⟨ret_str HNM.out, HB1.out⟩
set_option maxHeartbeats 1000000 in
set_option maxRecDepth 100000 in
theorem pr_word (op : List UInt8) (p : Nat) (ho : op = opTrue ∨ op = opFalse) : PrC (.leaf op [] 0 p) := by
  intro w S c hH hl
  obtain rfl : c = _ := hH
  have hs : shw (.leaf op [] 0 p) = op := by rcases ho with rfl | rfl <;> rfl
  rw [hs]
  have hr : rk op = 9 := by rcases ho with rfl | rfl <;> rfl
  have ho1 : op ≠ opNum := by rcases ho with rfl | rfl <;> decide
  have ho2 : op ≠ opName := by rcases ho with rfl | rfl <;> decide
  have g1 : ((⟨op.toArray⟩ : ByteArray).toList == [110, 117, 109]) = false := bytes_neD ho1
  have g2 : ((⟨op.toArray⟩ : ByteArray).toList == [110, 97, 109, 101]) = false := bytes_neD ho2
  change Calls Tryz.prog 36 #[.agg #[.string ⟨op.toArray⟩, .string ⟨#[]⟩, .int .i64 0, .slice none 0 0, .int .i64 (p : Int)]] w _
  have H1 := Lib.hid (rrank_any ⟨op.toArray⟩ (w.alloc (.cells #[.string ⟨op.toArray⟩, .string ⟨#[]⟩, .int .i64 0, .slice none 0 0, .int .i64 (p : Int)] 70)))
  have e1 : rk (⟨op.toArray⟩ : ByteArray).data.toList = 9 := hr
  rw [e1] at H1
  have HB0 := Lib.hid (bx_below w ⟨op.toArray⟩ ⟨#[]⟩ 0 none 0 0 (p : Int))
  have HX0 := Lib.hid (bx_box w ⟨op.toArray⟩ ⟨#[]⟩ 0 none 0 0 (p : Int))
  unfold BX at HB0 HX0
  have HNM := Lib.hid (show (⟨op.toArray⟩ : ByteArray).data.toList = op from rfl)
  clear hs e1 hl ho1 ho2 hr ho
  generalize (⟨op.toArray⟩ : ByteArray) = nb at *
  go_enter Tryz.func36, Tryz.ntmps36
  go_wp2_with fail
  refine (H1.out).mono ?_
  rintro e w1 ⟨rfl, hb1⟩
  have HB1 := Lib.hid (HB0.out.trans (hb1.mono HB0.out.size))
  have hx := HX0.out.below hb1
  obtain ⟨b0, b1, b2, b3, b4⟩ := hx.cells
  have hbl := hx.lt
  clear hb1 hx
  go_wp2
  go_ret
  exact ⟨ret_str HNM.out, HB1.out⟩
set_option maxHeartbeats 2000000 in
set_option maxRecDepth 100000 in
theorem pr_not {a : Ex} {q : Nat} (ha : PrC a) : PrC (.un [33] a q) := by
  intro w S c hH hl
  obtain ⟨A, cap, rfl, hk⟩ := hH.view
  obtain ⟨g, _, _, _, _, _, _, _, rfl, _⟩ := hk 0 (by simp [Ex.kids])
  obtain ⟨va, hva⟩ := kr_atR hk 0 (by simp [Ex.kids])
  have hsh : shw (.un [33] a q) = 33 :: parX (decide (rk a.op < 4)) (shw a) := rfl
  have hla : (shw a).length ≤ 1000000 := by rw [hsh, List.length_cons] at hl; have := par_geD (decide (rk a.op < 4)) (shw a); omega
  obtain ⟨ta, hta, hta2⟩ := str_of (parX (decide (rk a.op < 4)) (shw a)) 1000002 (par_lenD _ hla)
  change Calls Tryz.prog 36 #[.agg #[.string ⟨#[33]⟩, .string ⟨([] : List UInt8).toArray⟩, .int .i64 ((0 : Nat) : Int), .slice (some ⟨g, 0, none⟩) 1 cap, .int .i64 (q : Int)]] w _
  have H1 := Lib.hid (rrank_any ⟨#[33]⟩ (w.alloc (.cells #[.string ⟨#[33]⟩, .string ⟨([] : List UInt8).toArray⟩, .int .i64 ((0 : Nat) : Int), .slice (some ⟨g, 0, none⟩) 1 cap, .int .i64 (q : Int)] 70)))
  have e1 : rk (⟨#[33]⟩ : ByteArray).data.toList = 4 := by decide
  rw [e1] at H1
  have HB0 := Lib.hid (bx_below w ⟨#[33]⟩ ⟨([] : List UInt8).toArray⟩ ((0 : Nat) : Int) (some ⟨g, 0, none⟩) 1 cap (q : Int))
  have HX0 := Lib.hid (bx_box w ⟨#[33]⟩ ⟨([] : List UInt8).toArray⟩ ((0 : Nat) : Int) (some ⟨g, 0, none⟩) 1 cap (q : Int))
  unfold BX at HB0 HX0
  have HV := Lib.hid hva
  have HSH := Lib.hid hsh
  have HTA := Lib.hid hta
  have HLA := Lib.hid hla
  have HIA := Lib.hid ha
  clear hH hk hva hsh hta hla ha e1 hl
  generalize (⟨([] : List UInt8).toArray⟩ : ByteArray) = nm at *
  generalize ((0 : Nat) : Int) = n0 at *
  generalize (q : Int) = q0 at *
  go_enter Tryz.func36, Tryz.ntmps36
  go_wp2_with fail
  refine (H1.out).mono ?_
  rintro e w1 ⟨rfl, hb1⟩
  have HB1 := Lib.hid (HB0.out.trans (hb1.mono HB0.out.size))
  have hx := HX0.out.below hb1
  have hV1 := HV.out.below (HB0.out.trans (hb1.mono HB0.out.size))
  obtain ⟨b0, b1, b2, b3, b4⟩ := hx.cells
  have hbl := hx.lt
  have HV1 := Lib.hid hV1
  obtain ⟨hgl, e0, e1, e2, e3, e4, _⟩ := hV1
  clear hb1 hx
  go_wp2_with fail
  refine (rkid_any HIA.out HV1.out.2.2.2.2.2.2 HLA.out 4).mono ?_
  rintro e w2 ⟨rfl, hb2⟩
  have HB2 := Lib.hid (HB1.out.trans (hb2.mono HB1.out.size))
  rw [← strV_eq HTA.out]
  clear hb2
  go_wp2
  go_ret
  exact ⟨ret_str (by rw [HSH.out]; simp [HTA.out]), HB2.out⟩
set_option maxHeartbeats 2000000 in
set_option maxRecDepth 100000 in
theorem pr_neg {a : Ex} {q : Nat} (ha : PrC a) : PrC (.un opNeg a q) := by
  intro w S c hH hl
  obtain ⟨A, cap, rfl, hk⟩ := hH.view
  obtain ⟨g, _, _, _, _, _, _, _, rfl, _⟩ := hk 0 (by simp [Ex.kids])
  obtain ⟨va, hva⟩ := kr_atR hk 0 (by simp [Ex.kids])
  have hsh : shw (.un opNeg a q) = 45 :: parX (decide (rk a.op < 8)) (shw a) := rfl
  have hla : (shw a).length ≤ 1000000 := by rw [hsh, List.length_cons] at hl; have := par_geD (decide (rk a.op < 8)) (shw a); omega
  obtain ⟨ta, hta, hta2⟩ := str_of (parX (decide (rk a.op < 8)) (shw a)) 1000002 (par_lenD _ hla)
  change Calls Tryz.prog 36 #[.agg #[.string ⟨#[110, 101, 103]⟩, .string ⟨([] : List UInt8).toArray⟩, .int .i64 ((0 : Nat) : Int), .slice (some ⟨g, 0, none⟩) 1 cap, .int .i64 (q : Int)]] w _
  have H1 := Lib.hid (rrank_any ⟨#[110, 101, 103]⟩ (w.alloc (.cells #[.string ⟨#[110, 101, 103]⟩, .string ⟨([] : List UInt8).toArray⟩, .int .i64 ((0 : Nat) : Int), .slice (some ⟨g, 0, none⟩) 1 cap, .int .i64 (q : Int)] 70)))
  have e1 : rk (⟨#[110, 101, 103]⟩ : ByteArray).data.toList = 8 := by decide
  rw [e1] at H1
  have HB0 := Lib.hid (bx_below w ⟨#[110, 101, 103]⟩ ⟨([] : List UInt8).toArray⟩ ((0 : Nat) : Int) (some ⟨g, 0, none⟩) 1 cap (q : Int))
  have HX0 := Lib.hid (bx_box w ⟨#[110, 101, 103]⟩ ⟨([] : List UInt8).toArray⟩ ((0 : Nat) : Int) (some ⟨g, 0, none⟩) 1 cap (q : Int))
  unfold BX at HB0 HX0
  have HV := Lib.hid hva
  have HSH := Lib.hid hsh
  have HTA := Lib.hid hta
  have HLA := Lib.hid hla
  have HIA := Lib.hid ha
  clear hH hk hva hsh hta hla ha e1 hl
  generalize (⟨([] : List UInt8).toArray⟩ : ByteArray) = nm at *
  generalize ((0 : Nat) : Int) = n0 at *
  generalize (q : Int) = q0 at *
  go_enter Tryz.func36, Tryz.ntmps36
  go_wp2_with fail
  refine (H1.out).mono ?_
  rintro e w1 ⟨rfl, hb1⟩
  have HB1 := Lib.hid (HB0.out.trans (hb1.mono HB0.out.size))
  have hx := HX0.out.below hb1
  have hV1 := HV.out.below (HB0.out.trans (hb1.mono HB0.out.size))
  obtain ⟨b0, b1, b2, b3, b4⟩ := hx.cells
  have hbl := hx.lt
  have HV1 := Lib.hid hV1
  obtain ⟨hgl, e0, e1, e2, e3, e4, _⟩ := hV1
  clear hb1 hx
  go_wp2_with fail
  refine (rkid_any HIA.out HV1.out.2.2.2.2.2.2 HLA.out 8).mono ?_
  rintro e w2 ⟨rfl, hb2⟩
  have HB2 := Lib.hid (HB1.out.trans (hb2.mono HB1.out.size))
  rw [← strV_eq HTA.out]
  clear hb2
  go_wp2
  go_ret
  exact ⟨ret_str (by rw [HSH.out]; simp [HTA.out]), HB2.out⟩
/-- What a region over three kids reads. -/
structure PL3 (w W : World) (bx g : Nat) (o nm : ByteArray) (cap : Nat) (n p : Int) (va vb vc : XV) (a b c : Ex) (S : Nat → Prop) : Prop where
  bx : BoxR W bx (.string o) (.string nm) (.int .i64 n) (.slice (some ⟨g, 0, none⟩) 3 cap) (.int .i64 p)
  a : AtR W g 0 va a S
  b : AtR W g 5 vb b S
  c : AtR W g 10 vc c S
  w : Below w.heap.size w W
section
variable {w W W' : World} {bx g : Nat} {o nm : ByteArray} {cap : Nat} {n p : Int} {va vb vc : XV} {a b c : Ex} {S : Nat → Prop}
theorem PL3.below (m : PL3 w W bx g o nm cap n p va vb vc a b c S) (hb : Below W.heap.size W W') : PL3 w W' bx g o nm cap n p va vb vc a b c S := ⟨m.bx.below hb, m.a.below hb, m.b.below hb, m.c.below hb, m.w.trans (hb.mono m.w.size)⟩
theorem PL3.drew (m : PL3 w W bx g o nm cap n p va vb vc a b c S) : PL3 w W.drew bx g o nm cap n p va vb vc a b c S := m.below (Below.refl _ _).drew
theorem PL3.get (m : PL3 w W bx g o nm cap n p va vb vc a b c S) : (fun w' : World => w'.cell? ⟨bx, 3, none⟩ = some (.slice (some ⟨g, 0, none⟩) 3 cap) ∧ w'.cell? ⟨g, 0, none⟩ = some (.string va.o) ∧ w'.cell? ⟨g, 1, none⟩ = some (.string va.nm) ∧ w'.cell? ⟨g, 2, none⟩ = some (.int .i64 va.n) ∧ w'.cell? ⟨g, 3, none⟩ = some (.slice va.A va.ll va.cap) ∧ w'.cell? ⟨g, 4, none⟩ = some (.int .i64 va.p) ∧ w'.cell? ⟨g, 5, none⟩ = some (.string vb.o) ∧ w'.cell? ⟨g, 6, none⟩ = some (.string vb.nm) ∧ w'.cell? ⟨g, 7, none⟩ = some (.int .i64 vb.n) ∧ w'.cell? ⟨g, 8, none⟩ = some (.slice vb.A vb.ll vb.cap) ∧ w'.cell? ⟨g, 9, none⟩ = some (.int .i64 vb.p) ∧ w'.cell? ⟨g, 10, none⟩ = some (.string vc.o) ∧ w'.cell? ⟨g, 11, none⟩ = some (.string vc.nm) ∧ w'.cell? ⟨g, 12, none⟩ = some (.int .i64 vc.n) ∧ w'.cell? ⟨g, 13, none⟩ = some (.slice vc.A vc.ll vc.cap) ∧ w'.cell? ⟨g, 14, none⟩ = some (.int .i64 vc.p)) W := by
  obtain ⟨_, e0, e1, e2, e3, e4, _⟩ := m.a
  obtain ⟨_, y0, y1, y2, y3, y4, _⟩ := m.b
  obtain ⟨_, z0, z1, z2, z3, z4, _⟩ := m.c
  obtain ⟨b0, _, _, b3, _⟩ := m.bx.cells
  exact ⟨b3, e0, e1, e2, e3, e4, y0, y1, y2, y3, y4, z0, z1, z2, z3, z4⟩
def PL3P (w : World) (bx g : Nat) (o nm : ByteArray) (cap : Nat) (n p : Int) (va vb vc : XV) (a b c : Ex) (S : Nat → Prop) (t : ByteArray) (e : Ending) (w' : World) : Prop := e = .returned (.string t) ∧ PL3 w w' bx g o nm cap n p va vb vc a b c S
theorem PL3.kid1 (m : PL3 w W bx g o nm cap n p va vb vc a b c S) (ih : PrC a) (hl : (shw a).length ≤ 1000000) (r : Nat) (z : Int) (hz : z = (r : Int)) {t : ByteArray} (ht : t.data.toList = parX (decide (rk a.op < r)) (shw a)) : Calls Tryz.prog 76 #[.agg #[.string va.o, .string va.nm, .int .i64 va.n, .slice va.A va.ll va.cap, .int .i64 va.p], .int .i64 z] W (PL3P w bx g o nm cap n p va vb vc a b c S t) :=
  hz ▸ (rkid_any ih m.a.2.2.2.2.2.2 hl r).mono fun _ _ ⟨h1, h2⟩ => ⟨by rw [h1, strV_eq ht], m.below h2⟩
theorem PL3.pr2 (m : PL3 w W bx g o nm cap n p va vb vc a b c S) (ih : PrC b) (hl : (shw b).length ≤ 1000000) {t : ByteArray} (ht : t.data.toList = shw b) : Calls Tryz.prog 36 #[.agg #[.string vb.o, .string vb.nm, .int .i64 vb.n, .slice vb.A vb.ll vb.cap, .int .i64 vb.p]] W (PL3P w bx g o nm cap n p va vb vc a b c S t) :=
  (ih W S _ m.b.2.2.2.2.2.2 hl).mono fun _ _ ⟨h1, h2⟩ => ⟨by rw [h1, strV_eq ht], m.below h2⟩
theorem PL3.pr3 (m : PL3 w W bx g o nm cap n p va vb vc a b c S) (ih : PrC c) (hl : (shw c).length ≤ 1000000) {t : ByteArray} (ht : t.data.toList = shw c) : Calls Tryz.prog 36 #[.agg #[.string vc.o, .string vc.nm, .int .i64 vc.n, .slice vc.A vc.ll vc.cap, .int .i64 vc.p]] W (PL3P w bx g o nm cap n p va vb vc a b c S t) :=
  (ih W S _ m.c.2.2.2.2.2.2 hl).mono fun _ _ ⟨h1, h2⟩ => ⟨by rw [h1, strV_eq ht], m.below h2⟩
end
set_option maxHeartbeats 4000000 in
set_option maxRecDepth 100000 in
theorem pr_cond {a b d : Ex} {q : Nat} (ha : PrC a) (hb : PrC b) (hd : PrC d) : PrC (.cond a b d q) := by
  intro w S c hH hl
  obtain ⟨A, cap, rfl, hk⟩ := hH.view
  obtain ⟨g, _, _, _, _, _, _, _, rfl, _⟩ := hk 0 (by simp [Ex.kids])
  obtain ⟨va, hva⟩ := kr_atR hk 0 (by simp [Ex.kids])
  obtain ⟨vb, hvb⟩ := kr_atR hk 1 (by simp [Ex.kids])
  obtain ⟨vc, hvc⟩ := kr_atR hk 2 (by simp [Ex.kids])
  have hsh : shw (.cond a b d q) = parX (decide (rk a.op < 1)) (shw a) ++ (32 :: 63 :: 32 :: (shw b ++ (32 :: 58 :: 32 :: shw d))) := rfl
  have hall : (parX (decide (rk a.op < 1)) (shw a)).length + (shw b).length + (shw d).length ≤ 1000000 := by rw [hsh] at hl; simp only [List.length_append, List.length_cons] at hl; omega
  have hla : (shw a).length ≤ 1000000 := by have := par_geD (decide (rk a.op < 1)) (shw a); omega
  have hlb : (shw b).length ≤ 1000000 := by omega
  have hld : (shw d).length ≤ 1000000 := by omega
  obtain ⟨ta, hta, hta2⟩ := str_of (parX (decide (rk a.op < 1)) (shw a)) 1000002 (par_lenD _ hla)
  obtain ⟨tb, htb, htb2⟩ := str_of (shw b) 1000002 (by omega)
  obtain ⟨td, htd, htd2⟩ := str_of (shw d) 1000002 (by omega)
  change Calls Tryz.prog 36 #[.agg #[.string ⟨#[63]⟩, .string ⟨([] : List UInt8).toArray⟩, .int .i64 ((0 : Nat) : Int), .slice (some ⟨g, 0, none⟩) 3 cap, .int .i64 (q : Int)]] w _
  have H1 := Lib.hid (rrank_any ⟨#[63]⟩ (w.alloc (.cells #[.string ⟨#[63]⟩, .string ⟨([] : List UInt8).toArray⟩, .int .i64 ((0 : Nat) : Int), .slice (some ⟨g, 0, none⟩) 3 cap, .int .i64 (q : Int)] 70)))
  have e1 : rk (⟨#[63]⟩ : ByteArray).data.toList = 0 := by decide
  rw [e1] at H1
  have HSH := Lib.hid hsh
  have HTA := Lib.hid hta
  have HTB := Lib.hid htb
  have HTD := Lib.hid htd
  have HLA := Lib.hid hla
  have HLB := Lib.hid hlb
  have HLD := Lib.hid hld
  have HIA := Lib.hid ha
  have HIB := Lib.hid hb
  have HID := Lib.hid hd
  have hba := (Below.refl w.heap.size w).alloc (Nat.le_refl _) (.cells #[.string ⟨#[63]⟩, .string ⟨([] : List UInt8).toArray⟩, .int .i64 ((0 : Nat) : Int), .slice (some ⟨g, 0, none⟩) 3 cap, .int .i64 (q : Int)] 70)
  have HPL := Lib.hid (show PL3 w (w.alloc (.cells #[.string ⟨#[63]⟩, .string ⟨([] : List UInt8).toArray⟩, .int .i64 ((0 : Nat) : Int), .slice (some ⟨g, 0, none⟩) 3 cap, .int .i64 (q : Int)] 70)) w.heap.size g ⟨#[63]⟩ ⟨([] : List UInt8).toArray⟩ cap ((0 : Nat) : Int) (q : Int) va vb vc a b d S from ⟨heap_alloc_new w _, hva.below hba, hvb.below hba, hvc.below hba, hba⟩)
  clear hH hk hva hvb hvc hsh hta htb htd hla hlb hld hall ha hb hd hba e1 hl
  generalize (⟨([] : List UInt8).toArray⟩ : ByteArray) = nm at *
  generalize ((0 : Nat) : Int) = n0 at *
  generalize (q : Int) = q0 at *
  go_enter Tryz.func36, Tryz.ntmps36
  go_wp2_with fail
  refine (H1.out).mono ?_
  rintro e w1 ⟨rfl, hb1⟩
  have LK := Lib.hid (HPL.out.below hb1)
  obtain ⟨b0, b1, b2, b3, b4⟩ := LK.out.bx.cells
  have hbl := LK.out.bx.lt
  clear hb1 HPL
  go_wp2_with fail
  have k0 : ¬ 9223372036854775807 < ta.size + 3 := by omega
  have k1 : ¬ 9223372036854775807 < ta.size + 3 + tb.size := by omega
  have k2 : ¬ 9223372036854775807 < ta.size + 3 + tb.size + 3 := by omega
  have k3 : ¬ 9223372036854775807 < ta.size + 3 + tb.size + 3 + td.size := by omega
  have lk := LK.out.drew
  clear LK b0 b1 b2 b3 b4
  go_region_held3 (fun w' => w'.cell? ⟨w.heap.size, 3, none⟩ = some (.slice (some ⟨g, 0, none⟩) 3 cap) ∧ w'.cell? ⟨g, 0, none⟩ = some (.string va.o) ∧ w'.cell? ⟨g, 1, none⟩ = some (.string va.nm) ∧ w'.cell? ⟨g, 2, none⟩ = some (.int .i64 va.n) ∧ w'.cell? ⟨g, 3, none⟩ = some (.slice va.A va.ll va.cap) ∧ w'.cell? ⟨g, 4, none⟩ = some (.int .i64 va.p) ∧ w'.cell? ⟨g, 5, none⟩ = some (.string vb.o) ∧ w'.cell? ⟨g, 6, none⟩ = some (.string vb.nm) ∧ w'.cell? ⟨g, 7, none⟩ = some (.int .i64 vb.n) ∧ w'.cell? ⟨g, 8, none⟩ = some (.slice vb.A vb.ll vb.cap) ∧ w'.cell? ⟨g, 9, none⟩ = some (.int .i64 vb.p) ∧ w'.cell? ⟨g, 10, none⟩ = some (.string vc.o) ∧ w'.cell? ⟨g, 11, none⟩ = some (.string vc.nm) ∧ w'.cell? ⟨g, 12, none⟩ = some (.int .i64 vc.n) ∧ w'.cell? ⟨g, 13, none⟩ = some (.slice vc.A vc.ll vc.cap) ∧ w'.cell? ⟨g, 14, none⟩ = some (.int .i64 vc.p)) (exact lk.get) (first
    | (go_at_call 76; (with_reducible refine (lk.kid1 HIA.out HLA.out 1 1 (by decide) HTA.out).mono ?_); rintro e wA ⟨rfl, lk⟩)
    | (go_at_call 36; (with_reducible refine (lk.pr2 HIB.out HLB.out HTB.out).mono ?_); rintro e wA ⟨rfl, lk⟩)
    | (go_at_call 36; (with_reducible refine (lk.pr3 HID.out HLD.out HTD.out).mono ?_); rintro e wA ⟨rfl, lk⟩))
  all_goals go_wp2
  all_goals go_ret
  all_goals exact ⟨ret_str (by rw [HSH.out]; simp [HTA.out, HTB.out, HTD.out]), lk.w⟩
theorem pr_bin {op : List UInt8} {a b : Ex} {q : Nat} (h : rk op = 1 ∨ rk op = 2 ∨ rk op = 3 ∨ rk op = 5 ∨ rk op = 6 ∨ rk op = 7) (ha : PrC a) (hb : PrC b) : PrC (.bin op a b q) := by
  rcases h with h | h | h | h | h | h
  · exact pr_1 h ha hb
  · exact pr_2 h ha hb
  · exact pr_3 h ha hb
  · exact pr_5 h ha hb
  · exact pr_6 h ha hb
  · exact pr_7 h ha hb
theorem pr_any : ∀ x : Ex, Ok x → PrC x
  | .leaf op nm n p, h => by
    rcases h with ⟨rfl, rfl, h⟩ | ⟨rfl, rfl, _⟩ | ⟨h, rfl, rfl⟩
    · exact pr_num n p h
    · exact pr_name nm p
    · exact pr_word op p h
  | .un op a p, h => by
    rcases h.1 with rfl | rfl
    · exact pr_not (pr_any a h.2)
    · exact pr_neg (pr_any a h.2)
  | .bin op a b p, h => pr_bin h.1 (pr_any a h.2.1) (pr_any b h.2.2)
  | .cond a b c p, h => pr_cond (pr_any a h.1) (pr_any b h.2.1) (pr_any c h.2.2)
end Go.Proofs.YtddeplbgihcdkaaGreatDoor
