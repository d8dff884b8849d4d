/-
  alive, walked.
-/
import Derived.Test.YtjhicgllofjpoaaGreatDoorJl
import Derived.Test.YtjhicgllofjpoaaGreatDoorJh
import Derived.Test.YtjhicgllofjpoaaGreatDoorLC
namespace Go.Proofs.YtjhicgllofjpoaaGreatDoor
open Go.RowKit Go.Maps Go.Sort

/-- A formula at a place. -/
def At4 (W : World) (g i : Nat) (v : FV) (x : Fo) (S : Nat → Prop) : Prop :=
  g < W.heap.size ∧ W.cell? ⟨g, i, none⟩ = some (.string v.o) ∧ W.cell? ⟨g, i + 1, none⟩ = some (.string v.nm) ∧ W.cell? ⟨g, i + 2, none⟩ = some (.slice v.A v.ll v.cap) ∧ W.cell? ⟨g, i + 3, none⟩ = some (.int .i64 v.p) ∧ FS W 25 S x v.c
section
variable {W W' : World}
theorem At4.below {g i : Nat} {v : FV} {x : Fo} {S : Nat → Prop} (h : At4 W g i v x S) (hb : Below W.heap.size W W') : At4 W' g i v x S := by
  obtain ⟨h1, a0, a1, a2, a3, hH⟩ := h
  exact ⟨Nat.lt_of_lt_of_le h1 hb.size, (hb.cell h1).trans a0, (hb.cell h1).trans a1, (hb.cell h1).trans a2, (hb.cell h1).trans a3, hH.below hb⟩
theorem At4.alloc {g i : Nat} {v : FV} {x : Fo} {S : Nat → Prop} (h : At4 W g i v x S) (o : Obj) : At4 (W.alloc o) g i v x S := h.below ((Below.refl _ _).alloc (Nat.le_refl _) _)
theorem At4.fs {g i : Nat} {v : FV} {x : Fo} {S : Nat → Prop} (h : At4 W g i v x S) : FS W 25 S x v.c := h.2.2.2.2.2
theorem at4_new {v : FV} {x : Fo} {S : Nat → Prop} (h : FS W 25 S x v.c) : At4 (W.alloc (.cells v.c.toArray 25)) W.heap.size 0 v x S := by
  have hB := Bx.new W 25 v.c
  exact ⟨hB.lt, hB.cell 0, hB.cell 1, hB.cell 2, hB.cell 3, h.alloc _⟩
theorem FK.at4 {S : Nat → Prop} {A : Option Addr} {ks : List Fo} (h : FK W 25 S A ks) (i : Nat) (hi : i < ks.length) : ∃ g v, A = some ⟨g, 0, none⟩ ∧ At4 W g (i * 4) v ks[i] S := by
  obtain ⟨g, v, h1, h2, h3, c0, c1, c2, c3⟩ := h i hi
  exact ⟨g, v, h1, h2, c0, c1, c2, c3, h3⟩
end
def fA : Fo := .un [71] (.bin [61, 62] (.leaf opLab [97] 3) (.un [70] (.leaf opLab [98] 12) 10) 2) 0
theorem fA_ok : parseF 9 [71, 32, 40, 34, 97, 34, 32, 61, 62, 32, 70, 32, 34, 98, 34, 41] = .ok fA := by decide +kernel
theorem fA_er : parseF 9 [71] = .er 20 1 := by decide +kernel
theorem fA_okF : OkF fA := (parse_okf (by decide) fA_ok).1
theorem rs_ab (w : World) : RS (w.alloc (.cells #[.string ⟨#[97]⟩, .string ⟨#[98]⟩] 9)) (some ⟨w.heap.size, 0, none⟩) [[97], [98]] := by
  have hB := Bx.new w 9 [.string ⟨#[97]⟩, .string ⟨#[98]⟩]
  intro i hi
  refine ⟨w.heap.size, rfl, hB.lt, ?_⟩
  match i, hi with
  | 0, _ => exact hB.cell 0
  | 1, _ => exact hB.cell 1
set_option maxHeartbeats 2000000 in
set_option maxRecDepth 100000 in
theorem palive_yes (w : World) (hG : GlobS w) : Calls Tryz.prog 6 #[] w (LawF w) := by
  have H1 := Lib.hid (fun (W : World) (hW : GlobS W) => (pparse_any (s := ⟨#[71, 32, 40, 34, 97, 34, 32, 61, 62, 32, 70, 32, 34, 98, 34, 41]⟩) (D := 9) W hW (by decide) (by decide) (by decide)))
  have H2 := Lib.hid (fun (W : World) (hW : GlobS W) => (pparse_any (s := ⟨#[71]⟩) (D := 9) W hW (by decide) (by decide) (by decide)))
  have e1 : parseF 9 (⟨#[71, 32, 40, 34, 97, 34, 32, 61, 62, 32, 70, 32, 34, 98, 34, 41]⟩ : ByteArray).data.toList = .ok fA := fA_ok
  have e2 : parseF 9 (⟨#[71]⟩ : ByteArray).data.toList = .er 20 1 := fA_er
  rw [e1] at H1
  rw [e2] at H2
  have HG := Lib.hid hG
  clear hG e1 e2
  go_enter Tryz.func6, Tryz.ntmps6
  go_wp2_with fail
  refine (H1.out w HG.out).mono ?_
  rintro e w1 ⟨⟨o, nm, A, ll, cap, p⟩, rfl, hC, hb1⟩
  have HG1 := Lib.hid (HG.out.below hb1)
  have HB1 := Lib.hid hb1
  have HC1 := Lib.hid (show FS w1 25 _ fA (FV.c ⟨o, nm, A, ll, cap, p⟩) from hC)
  clear hC hb1
  go_wp2_with fail
  refine calls_gen (P := fun W => At4 W w1.heap.size 0 ⟨o, nm, A, ll, cap, p⟩ fA (Rg w.heap.size w1.heap.size) ∧ GlobS W ∧ Below w.heap.size w W) ⟨at4_new HC1.out, HG1.out.below ((Below.refl _ _).alloc (Nat.le_refl _) _), HB1.out.alloc HB1.out.size _⟩ ?_
  rintro W ⟨hE, hG, hB⟩
  refine (H2.out W hG).mono ?_
  rintro e w2 ⟨b, rfl, hA, hb2⟩
  have hE2 := hE.below hb2
  have HE2 := Lib.hid hE2
  obtain ⟨hl, b0, b1, b2, b3, hF⟩ := hE2
  obtain ⟨hK, hll, -⟩ := hF.kr
  have ho := hF.opn
  obtain ⟨g, v1, hA1, hk⟩ := hK.at4 0 (by decide)
  simp only [Nat.zero_add] at b0 b1 b2 b3
  have hll2 : ll = 1 := hll
  subst hll2
  have hA2 : A = some ⟨g, 0, none⟩ := hA1
  subst hA2
  obtain ⟨hgl, d0, -, -, -, hF1⟩ := hk
  have ho1 := hF1.opn
  simp only [Nat.zero_mul] at d0
  obtain ⟨o1, hoo1⟩ : ∃ o1, o1 = v1.o := ⟨_, rfl⟩
  rw [← hoo1] at d0
  have q1 : (o.toList == [71]) = true := by rw [show o = ⟨#[71]⟩ from ho, ByteArray.toList_eq]; rfl
  have q2 : (o1.toList == [61, 62]) = true := by rw [hoo1, show v1.o = ⟨#[61, 62]⟩ from ho1, ByteArray.toList_eq]; rfl
  have HG2 := Lib.hid (hG.below hb2)
  have HB2 := Lib.hid (hB.trans (hb2.mono hB.size))
  have HA2 := Lib.hid hA
  clear hK hF hF1 hoo1 ho ho1 hE hG hB hA hb2 hll hA1
  go_wp2_with fail
  refine calls_gen (P := fun W3 => At4 W3 w1.heap.size 0 ⟨o, nm, some ⟨g, 0, none⟩, 1, cap, p⟩ fA (Rg w.heap.size w1.heap.size) ∧ GlobS W3 ∧ AtE W3 b 1 20 ∧ Below w.heap.size w W3) ⟨HE2.out.alloc _, HG2.out.below ((Below.refl _ _).alloc (Nat.le_refl _) _), HA2.out.below ((Below.refl _ _).alloc (Nat.le_refl _) _), HB2.out.alloc HB2.out.size _⟩ ?_
  rintro W3 ⟨hE, hG, hA, hB⟩
  refine (num_at b 1 20 W3 hG.glob hA).mono ?_
  rintro e w4 ⟨rfl, hb4⟩
  have hE4 := hE.below hb4
  have HE4 := Lib.hid hE4
  have HB4 := Lib.hid (hB.trans (hb4.mono hB.size))
  obtain ⟨hl4, f0, f1, f2, f3, -⟩ := hE4
  simp only [Nat.zero_add] at f0 f1 f2 f3
  clear hE hG hA hB hb4 b0 b1 b2 b3 d0
  go_wp2_with fail
  refine (plabels_any w4 fA_okF (by decide) HE4.out.fs).mono ?_
  rintro e w5 ⟨v5, rfl, hrow, -, -, hb5⟩
  rw [show lbK (lbs fA) = [[97], [98]] from lbs_ab] at hrow
  obtain ⟨B, cB, rfl, hRS⟩ := rs_row hrow
  have HR := Lib.hid hRS
  have HB5 := Lib.hid (HB4.out.trans (hb5.mono HB4.out.size))
  clear hrow hRS hb5 f0 f1 f2 f3
  go_wp2_with fail
  refine (ptexts_any (la := [[97], [98]]) (lb := [[97], [98]]) (A := B) (B := some ⟨w5.heap.size, 0, none⟩) (c1 := cB) (c2 := 2) (w5.alloc (.cells #[.string ⟨#[97]⟩, .string ⟨#[98]⟩] 9)) (HR.out.below ((Below.refl _ _).alloc (Nat.le_refl _) _)) (rs_ab w5) (by decide)).mono ?_
  rintro e w6 ⟨rfl, hb6⟩
  have HB6 := Lib.hid ((HB5.out.alloc HB5.out.size (.cells #[.string ⟨#[97]⟩, .string ⟨#[98]⟩] 9)).trans (hb6.mono (by have := HB5.out.size; simp; omega)))
  clear hb6
  go_wp2
  go_ret
  exact ⟨rfl, HB6.out⟩
end Go.Proofs.YtjhicgllofjpoaaGreatDoor
