/-
  A level deeper, walked. Signs, two sides joined, what stands in parentheses, an atom, what has a sign ahead: walked.
-/
import Derived.Test.YtmgjpjjglghbaaaGreatDoorWA
namespace Go.Proofs.YtmgjpjjglghbaaaGreatDoor
section
open Go.RowKit
theorem AtE.far {w : World} {b : Nat} {p n : Int} (h : AtE w b p n) {a : Addr} (ha : b ≠ a.block) (u : Value) : AtE (w.setCell a u) b p n := h.keep (Below.heap_setCell w a u b ha)
theorem AtE.far5 {w : World} {b b' : Nat} {p n : Int} (h : AtE w b p n) (ha : b ≠ b') (x0 x1 x2 x3 x4 : Value) : AtE (((((w.setCell ⟨b', 0, none⟩ x0).setCell ⟨b', 1, none⟩ x1).setCell ⟨b', 2, none⟩ x2).setCell ⟨b', 3, none⟩ x3).setCell ⟨b', 4, none⟩ x4) b p n :=
  ((((h.far (a := ⟨b', 0, none⟩) ha _).far (a := ⟨b', 1, none⟩) ha _).far (a := ⟨b', 2, none⟩) ha _).far (a := ⟨b', 3, none⟩) ha _).far (a := ⟨b', 4, none⟩) ha _
theorem AtE.alloc {w : World} {b : Nat} {p n : Int} (h : AtE w b p n) (o : Obj) : AtE (w.alloc o) b p n := h.below ((Below.refl _ _).alloc (Nat.le_refl _) _)
theorem AtE.new {w : World} {b : Nat} (hb : b = w.heap.size) (p n : Int) : AtE (w.alloc (.cells #[.int .i64 p, .iface 78 (.int .i64 n)] 192)) b p n := by
  subst hb
  have h := heap_alloc_new w (.cells #[.int .i64 p, .iface 78 (.int .i64 n)] 192)
  exact ⟨(rd_cell h 0).trans rfl, (rd_cell h 1).trans rfl, ⟨_, h⟩⟩
end
section
open Go.RowKit

theorem heap_new_at {w : World} {k : Nat} (hk : k = w.heap.size) (o : Obj) : (w.alloc o).heap[k]? = some o := by subst hk; exact heap_alloc_new w o
section
variable {w : World} {e : TypeId} {S : Nat → Prop}
theorem HS.posn {x : Ex} {o nm : ByteArray} {n : Int} {A : Option Addr} {l cap : Nat} {p : Int} (h : HS w e S x (exC o nm n A l cap p)) : p = (x.pos : Int) ∧ o = ⟨x.op.toArray⟩ := by
  obtain ⟨_, _, _, _, _, h1⟩ := h.form
  simp only [exC, List.cons.injEq, Value.string.injEq, Value.int.injEq] at h1
  exact ⟨h1.2.2.2.2.1.2, h1.1⟩
end
theorem name_rk {us : List Tok} (h : Fine us) (h1 : (hd us).kind = 1) : 8 ≤ rk (hd us).text := by
  obtain ⟨c, r, h2, h3, _⟩ := h.name h1
  have hc : c.toNat = 95 ∨ (65 ≤ c.toNat ∧ c.toNat ≤ 90) ∨ (97 ≤ c.toNat ∧ c.toNat ≤ 122) := by
    simp [letterB] at h3; omega
  have hne : ∀ (d : UInt8) (l : List UInt8), (d.toNat ≠ 95 ∧ ¬ (65 ≤ d.toNat ∧ d.toNat ≤ 90) ∧ ¬ (97 ≤ d.toNat ∧ d.toNat ≤ 122)) → c :: r ≠ d :: l := by
    intro d l hd he
    injection he with he _
    subst he
    omega
  have n1 := hne 63 [] (by decide)
  have n2 := hne 61 [62] (by decide)
  have n3 := hne 124 [] (by decide)
  have n4 := hne 38 [] (by decide)
  have n5 := hne 33 [] (by decide)
  have n6 := hne 61 [] (by decide)
  have n7 := hne 33 [61] (by decide)
  have n8 := hne 60 [] (by decide)
  have n9 := hne 60 [61] (by decide)
  have na := hne 62 [] (by decide)
  have nb := hne 62 [61] (by decide)
  have nc := hne 43 [] (by decide)
  have nd := hne 45 [] (by decide)
  have ne := hne 42 [] (by decide)
  have nf : cmpB (c :: r) = false := by simp only [cmpB, beq_eq_false_iff_ne.2 n6, beq_eq_false_iff_ne.2 n7, beq_eq_false_iff_ne.2 n8, beq_eq_false_iff_ne.2 n9, beq_eq_false_iff_ne.2 na, beq_eq_false_iff_ne.2 nb]; rfl
  rw [h2, rk, if_neg n1, if_neg n2, if_neg n3, if_neg n4, if_neg n5, nf, if_neg (by simp), if_neg (by intro h; exact h.elim nc nd), if_neg ne]
  split <;> omega

end
end Go.Proofs.YtmgjpjjglghbaaaGreatDoor
