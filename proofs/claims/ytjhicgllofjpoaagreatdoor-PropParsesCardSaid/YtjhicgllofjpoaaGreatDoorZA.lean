/-
  The document's rank of an Op, walked. The document's formulas in memory; what its reader of formulas leaves. The document's reader of formulas: too deep, at an error, rank by rank, walked. The document's atoms and prefixes, walked; its reader of formulas at every level.
-/
import Derived.Test.YtjhicgllofjpoaaGreatDoorJB
import Derived.Test.YtjhicgllofjpoaaGreatDoorJC
import Derived.Test.YtjhicgllofjpoaaGreatDoorDD
import Derived.Test.YtjhicgllofjpoaaGreatDoorJA
import Derived.Deep.LoopGhost
namespace Go.Proofs.YtjhicgllofjpoaaGreatDoor
section
open Go.RowKit

theorem rfrank_any (s : ByteArray) (w : World) : Calls Tryz.prog 33 #[.string s] w (PkP s.data.toList w) := by
  rw [← ByteArray.toList_eq]
  by_cases h0 : s.toList = [61, 62]
  · have h := h0
    clear h0
    have g0 : (s.toList == [61, 62]) = true := by rw [h]; rfl
    have g1 : (s.toList == [124]) = false := by rw [h]; rfl
    have g2 : (s.toList == [38]) = false := by rw [h]; rfl
    have g3 : (s.toList == [85]) = false := by rw [h]; rfl
    have g4 : (s.toList == [87]) = false := by rw [h]; rfl
    have g5 : (s.toList == [82]) = false := by rw [h]; rfl
    have g6 : (s.toList == [33]) = false := by rw [h]; rfl
    have g7 : (s.toList == [88]) = false := by rw [h]; rfl
    have g8 : (s.toList == [70]) = false := by rw [h]; rfl
    have g9 : (s.toList == [71]) = false := by rw [h]; rfl
    have HK := Lib.hid (show pk s.toList = 0 by rw [h]; decide)
    clear h
    go_enter Tryz.func33, Tryz.ntmps33
    go_wp2
    go_ret
    exact ⟨by rw [HK.out]; rfl, rfl⟩
  by_cases h1 : s.toList = [124]
  · have h := h1
    clear h1 h0
    have g0 : (s.toList == [61, 62]) = false := by rw [h]; rfl
    have g1 : (s.toList == [124]) = true := by rw [h]; rfl
    have g2 : (s.toList == [38]) = false := by rw [h]; rfl
    have g3 : (s.toList == [85]) = false := by rw [h]; rfl
    have g4 : (s.toList == [87]) = false := by rw [h]; rfl
    have g5 : (s.toList == [82]) = false := by rw [h]; rfl
    have g6 : (s.toList == [33]) = false := by rw [h]; rfl
    have g7 : (s.toList == [88]) = false := by rw [h]; rfl
    have g8 : (s.toList == [70]) = false := by rw [h]; rfl
    have g9 : (s.toList == [71]) = false := by rw [h]; rfl
    have HK := Lib.hid (show pk s.toList = 1 by rw [h]; decide)
    clear h
    go_enter Tryz.func33, Tryz.ntmps33
    go_wp2
    go_ret
    exact ⟨by rw [HK.out]; rfl, rfl⟩
  by_cases h2 : s.toList = [38]
  · have h := h2
    clear h2 h1 h0
    have g0 : (s.toList == [61, 62]) = false := by rw [h]; rfl
    have g1 : (s.toList == [124]) = false := by rw [h]; rfl
    have g2 : (s.toList == [38]) = true := by rw [h]; rfl
    have g3 : (s.toList == [85]) = false := by rw [h]; rfl
    have g4 : (s.toList == [87]) = false := by rw [h]; rfl
    have g5 : (s.toList == [82]) = false := by rw [h]; rfl
    have g6 : (s.toList == [33]) = false := by rw [h]; rfl
    have g7 : (s.toList == [88]) = false := by rw [h]; rfl
    have g8 : (s.toList == [70]) = false := by rw [h]; rfl
    have g9 : (s.toList == [71]) = false := by rw [h]; rfl
    have HK := Lib.hid (show pk s.toList = 2 by rw [h]; decide)
    clear h
    go_enter Tryz.func33, Tryz.ntmps33
    go_wp2
    go_ret
    exact ⟨by rw [HK.out]; rfl, rfl⟩
  by_cases h3 : s.toList = [85]
  · have h := h3
    clear h3 h2 h1 h0
    have g0 : (s.toList == [61, 62]) = false := by rw [h]; rfl
    have g1 : (s.toList == [124]) = false := by rw [h]; rfl
    have g2 : (s.toList == [38]) = false := by rw [h]; rfl
    have g3 : (s.toList == [85]) = true := by rw [h]; rfl
    have g4 : (s.toList == [87]) = false := by rw [h]; rfl
    have g5 : (s.toList == [82]) = false := by rw [h]; rfl
    have g6 : (s.toList == [33]) = false := by rw [h]; rfl
    have g7 : (s.toList == [88]) = false := by rw [h]; rfl
    have g8 : (s.toList == [70]) = false := by rw [h]; rfl
    have g9 : (s.toList == [71]) = false := by rw [h]; rfl
    have HK := Lib.hid (show pk s.toList = 3 by rw [h]; decide)
    clear h
    go_enter Tryz.func33, Tryz.ntmps33
    go_wp2
    go_ret
    exact ⟨by rw [HK.out]; rfl, rfl⟩
  by_cases h4 : s.toList = [87]
  · have h := h4
    clear h4 h3 h2 h1 h0
    have g0 : (s.toList == [61, 62]) = false := by rw [h]; rfl
    have g1 : (s.toList == [124]) = false := by rw [h]; rfl
    have g2 : (s.toList == [38]) = false := by rw [h]; rfl
    have g3 : (s.toList == [85]) = false := by rw [h]; rfl
    have g4 : (s.toList == [87]) = true := by rw [h]; rfl
    have g5 : (s.toList == [82]) = false := by rw [h]; rfl
    have g6 : (s.toList == [33]) = false := by rw [h]; rfl
    have g7 : (s.toList == [88]) = false := by rw [h]; rfl
    have g8 : (s.toList == [70]) = false := by rw [h]; rfl
    have g9 : (s.toList == [71]) = false := by rw [h]; rfl
    have HK := Lib.hid (show pk s.toList = 3 by rw [h]; decide)
    clear h
    go_enter Tryz.func33, Tryz.ntmps33
    go_wp2
    go_ret
    exact ⟨by rw [HK.out]; rfl, rfl⟩
  by_cases h5 : s.toList = [82]
  · have h := h5
    clear h5 h4 h3 h2 h1 h0
    have g0 : (s.toList == [61, 62]) = false := by rw [h]; rfl
    have g1 : (s.toList == [124]) = false := by rw [h]; rfl
    have g2 : (s.toList == [38]) = false := by rw [h]; rfl
    have g3 : (s.toList == [85]) = false := by rw [h]; rfl
    have g4 : (s.toList == [87]) = false := by rw [h]; rfl
    have g5 : (s.toList == [82]) = true := by rw [h]; rfl
    have g6 : (s.toList == [33]) = false := by rw [h]; rfl
    have g7 : (s.toList == [88]) = false := by rw [h]; rfl
    have g8 : (s.toList == [70]) = false := by rw [h]; rfl
    have g9 : (s.toList == [71]) = false := by rw [h]; rfl
    have HK := Lib.hid (show pk s.toList = 3 by rw [h]; decide)
    clear h
    go_enter Tryz.func33, Tryz.ntmps33
    go_wp2
    go_ret
    exact ⟨by rw [HK.out]; rfl, rfl⟩
  by_cases h6 : s.toList = [33]
  · have h := h6
    clear h6 h5 h4 h3 h2 h1 h0
    have g0 : (s.toList == [61, 62]) = false := by rw [h]; rfl
    have g1 : (s.toList == [124]) = false := by rw [h]; rfl
    have g2 : (s.toList == [38]) = false := by rw [h]; rfl
    have g3 : (s.toList == [85]) = false := by rw [h]; rfl
    have g4 : (s.toList == [87]) = false := by rw [h]; rfl
    have g5 : (s.toList == [82]) = false := by rw [h]; rfl
    have g6 : (s.toList == [33]) = true := by rw [h]; rfl
    have g7 : (s.toList == [88]) = false := by rw [h]; rfl
    have g8 : (s.toList == [70]) = false := by rw [h]; rfl
    have g9 : (s.toList == [71]) = false := by rw [h]; rfl
    have HK := Lib.hid (show pk s.toList = 4 by rw [h]; decide)
    clear h
    go_enter Tryz.func33, Tryz.ntmps33
    go_wp2
    go_ret
    exact ⟨by rw [HK.out]; rfl, rfl⟩
  by_cases h7 : s.toList = [88]
  · have h := h7
    clear h7 h6 h5 h4 h3 h2 h1 h0
    have g0 : (s.toList == [61, 62]) = false := by rw [h]; rfl
    have g1 : (s.toList == [124]) = false := by rw [h]; rfl
    have g2 : (s.toList == [38]) = false := by rw [h]; rfl
    have g3 : (s.toList == [85]) = false := by rw [h]; rfl
    have g4 : (s.toList == [87]) = false := by rw [h]; rfl
    have g5 : (s.toList == [82]) = false := by rw [h]; rfl
    have g6 : (s.toList == [33]) = false := by rw [h]; rfl
    have g7 : (s.toList == [88]) = true := by rw [h]; rfl
    have g8 : (s.toList == [70]) = false := by rw [h]; rfl
    have g9 : (s.toList == [71]) = false := by rw [h]; rfl
    have HK := Lib.hid (show pk s.toList = 4 by rw [h]; decide)
    clear h
    go_enter Tryz.func33, Tryz.ntmps33
    go_wp2
    go_ret
    exact ⟨by rw [HK.out]; rfl, rfl⟩
  by_cases h8 : s.toList = [70]
  · have h := h8
    clear h8 h7 h6 h5 h4 h3 h2 h1 h0
    have g0 : (s.toList == [61, 62]) = false := by rw [h]; rfl
    have g1 : (s.toList == [124]) = false := by rw [h]; rfl
    have g2 : (s.toList == [38]) = false := by rw [h]; rfl
    have g3 : (s.toList == [85]) = false := by rw [h]; rfl
    have g4 : (s.toList == [87]) = false := by rw [h]; rfl
    have g5 : (s.toList == [82]) = false := by rw [h]; rfl
    have g6 : (s.toList == [33]) = false := by rw [h]; rfl
    have g7 : (s.toList == [88]) = false := by rw [h]; rfl
    have g8 : (s.toList == [70]) = true := by rw [h]; rfl
    have g9 : (s.toList == [71]) = false := by rw [h]; rfl
    have HK := Lib.hid (show pk s.toList = 4 by rw [h]; decide)
    clear h
    go_enter Tryz.func33, Tryz.ntmps33
    go_wp2
    go_ret
    exact ⟨by rw [HK.out]; rfl, rfl⟩
  by_cases h9 : s.toList = [71]
  · have h := h9
    clear h9 h8 h7 h6 h5 h4 h3 h2 h1 h0
    have g0 : (s.toList == [61, 62]) = false := by rw [h]; rfl
    have g1 : (s.toList == [124]) = false := by rw [h]; rfl
    have g2 : (s.toList == [38]) = false := by rw [h]; rfl
    have g3 : (s.toList == [85]) = false := by rw [h]; rfl
    have g4 : (s.toList == [87]) = false := by rw [h]; rfl
    have g5 : (s.toList == [82]) = false := by rw [h]; rfl
    have g6 : (s.toList == [33]) = false := by rw [h]; rfl
    have g7 : (s.toList == [88]) = false := by rw [h]; rfl
    have g8 : (s.toList == [70]) = false := by rw [h]; rfl
    have g9 : (s.toList == [71]) = true := by rw [h]; rfl
    have HK := Lib.hid (show pk s.toList = 4 by rw [h]; decide)
    clear h
    go_enter Tryz.func33, Tryz.ntmps33
    go_wp2
    go_ret
    exact ⟨by rw [HK.out]; rfl, rfl⟩
  have g0 : (s.toList == [61, 62]) = false := by rw [beq_eq_false_iff_ne]; exact h0
  have g1 : (s.toList == [124]) = false := by rw [beq_eq_false_iff_ne]; exact h1
  have g2 : (s.toList == [38]) = false := by rw [beq_eq_false_iff_ne]; exact h2
  have g3 : (s.toList == [85]) = false := by rw [beq_eq_false_iff_ne]; exact h3
  have g4 : (s.toList == [87]) = false := by rw [beq_eq_false_iff_ne]; exact h4
  have g5 : (s.toList == [82]) = false := by rw [beq_eq_false_iff_ne]; exact h5
  have g6 : (s.toList == [33]) = false := by rw [beq_eq_false_iff_ne]; exact h6
  have g7 : (s.toList == [88]) = false := by rw [beq_eq_false_iff_ne]; exact h7
  have g8 : (s.toList == [70]) = false := by rw [beq_eq_false_iff_ne]; exact h8
  have g9 : (s.toList == [71]) = false := by rw [beq_eq_false_iff_ne]; exact h9
  have HK := Lib.hid (show pk s.toList = 5 by simp [pk, h0, h1, h2, h3, h4, h5, h6, h7, h8, h9])
  clear h0 h1 h2 h3 h4 h5 h6 h7 h8 h9
  go_enter Tryz.func33, Tryz.ntmps33
  go_wp2
  go_ret
  exact ⟨by rw [HK.out]; rfl, rfl⟩
end
section
open Go.RowKit

/-- A formula of some type in memory, or none: then anything of that shape. -/
def FOT (e : TypeId) (w : World) (S : Nat → Prop) : Option Fo → FV → Prop
  | some x, v => FS w e S x v.c
  | none, _ => True
section
variable {e : TypeId} {b0 b1 d0 d1 : Nat} {S T : Nat → Prop} {w w' : World} {o : Option Fo} {v : FV}
theorem FOT.keepY (h : FOT e w S o v) (hk : ∀ (k : Nat) (cs : Array Value), S k → w.heap[k]? = some (.cells cs e (0, 0)) → w'.heap[k]? = w.heap[k]?) : FOT e w' S o v := by
  cases o with
  | none => trivial
  | some x => exact FS.keepY hk (show FS w e S x v.c from h)
theorem FOT.wide (h : FOT e w S o v) (hS : ∀ k, k < w.heap.size → S k → T k) : FOT e w T o v := by
  cases o with
  | none => trivial
  | some x => exact FS.wide hS (show FS w e S x v.c from h)
theorem FOT.mono (h : FOT e w (Rg b0 b1) o v) (h0 : d0 ≤ b0) (h1 : b1 ≤ d1) : FOT e w (Rg d0 d1) o v := h.wide fun _ _ hk => ⟨Nat.le_trans h0 hk.1, Nat.lt_of_lt_of_le hk.2 h1⟩
theorem FOT.below (h : FOT e w S o v) (hb : Below w.heap.size w w') : FOT e w' S o v := h.keepY fun k _ _ h1 => hb.block k (blk_lt h1)
theorem FOT.alloc (h : FOT e w S o v) (ob : Obj) : FOT e (w.alloc ob) S o v := h.below ((Below.refl _ _).alloc (Nat.le_refl _) _)
theorem FOT.drew (h : FOT e w S o v) : FOT e w.drew S o v := h.below (Below.refl _ _).drew
theorem FOT.fx {X : Nat → Prop} (h : FOT e w S o v) (hf : Fx X w w') (hx : ∀ k, S k → ¬ X k) : FOT e w' S o v := h.keepY fun k _ h0 h1 => hf.block k (blk_lt h1) (hx k h0)
theorem FOT.setS (h : FOT e w S o v) {q i : Nat} (hq : ¬ S q) (u : Value) : FOT e (w.setCell ⟨q, i, none⟩ u) S o v := h.keepY fun k _ h0 _ => Below.heap_setCell w ⟨q, i, none⟩ u k (by show k ≠ q; rintro rfl; exact hq h0)
theorem FOT.setL {q i : Nat} {us : List Value} (h : FOT e w S o v) (hq : ¬ S q) : FOT e (Go.Proofs.YtjhicgllofjpoaaGreatDoor.setL w q i us) S o v := h.keepY fun k _ h0 _ => setL_heap (by rintro rfl; exact hq h0) us w i
theorem FOT.setS4 {q : Nat} {x0 x1 x2 x3 : Value} (h : FOT e w S o v) (hq : ¬ S q) : FOT e ((((w.setCell ⟨q, 0, none⟩ x0).setCell ⟨q, 1, none⟩ x1).setCell ⟨q, 2, none⟩ x2).setCell ⟨q, 3, none⟩ x3) S o v := FOT.setL (us := [x0, x1, x2, x3]) (i := 0) h hq
theorem FOT.mv (q : Nat) (h : FOT e w S o v) : FOT e w S (mvO q o) { v with p := (q : Int) } := by
  cases o with
  | none => trivial
  | some x => exact FS.move q (show FS w e S x v.c from h)
end
def X1 (pb k : Nat) : Prop := k = pb
theorem Fx.ofFr1 {pb : Nat} {w w' : World} (h : Fr w.heap.size pb w w') : Fx (X1 pb) w w' := ⟨h.os, h.tape, h.output, h.size, fun k hk hn => h.block k hk hn⟩
section
variable {w w' : World} {pb D q : Nat} {st : St} {c0 c1 c2 c3 x0 x1 x2 x3 : Value}
theorem DS.setB {i : Nat} {t : TypeId} {cs : List Value} (h : DS w pb D st) (hb : Bx w q t cs) (h1 : t ≠ 68) (h2 : t ≠ 70) (u : Value) : DS (w.setCell ⟨q, i, none⟩ u) pb D st := by
  cases st with
  | good us => exact DR.set h hb h1 h2 u
  | bad c p => obtain ⟨h0, us, h⟩ := h; exact ⟨h0, us, h.set hb h1 h2 u⟩
theorem DS.setL {t : TypeId} (h1 : t ≠ 68) (h2 : t ≠ 70) : ∀ {us : List Value} {w : World} {cs : List Value} {i : Nat}, DS w pb D st → Bx w q t cs → DS (Go.Proofs.YtjhicgllofjpoaaGreatDoor.setL w q i us) pb D st
  | [], _, _, _, h, _ => h
  | u :: _, _, _, i, h, hb => (h.setB hb h1 h2 u).setL h1 h2 (hb.set i u)
theorem DS.setR (h : DS w pb D st) (hB : Bx w q 32 [c0, c1, c2, c3]) : DS ((((w.setCell ⟨q, 0, none⟩ x0).setCell ⟨q, 1, none⟩ x1).setCell ⟨q, 2, none⟩ x2).setCell ⟨q, 3, none⟩ x3) pb D st := DS.setL (us := [x0, x1, x2, x3]) (i := 0) (t := 32) (cs := [c0, c1, c2, c3]) (by decide) (by decide) h hB
end
/-- What a call of the document's reader leaves. -/
def DFP (pb D : Nat) (r : RF) (w : World) (e : Ending) (w' : World) : Prop :=
  ∃ v : FV, e = .returned (.agg #[.string v.o, .string v.nm, .slice v.A v.ll v.cap, .int .i64 v.p]) ∧ FOT 32 w' (Rg (w.heap.size + 1) w'.heap.size) r.1 v ∧ DS w' pb D r.2 ∧ Fx (X1 pb) w w'
/-- The document's reader from a rank on, at a level. -/
def RDC (k lev D : Nat) (F : St → RF) : Prop := ∀ (w : World) (pb : Nat) (st : St) (y z : Int), y = (k : Int) → z = (lev : Int) → DS w pb D st → Calls Tryz.prog 27 #[.pointer (some ⟨pb, 0, none⟩), .int .i64 y, .int .i64 z] w (DFP pb D (F st) w)
theorem sp_0 (t : Tok) : sp 0 t = isT t [61, 62] := by
  unfold sp isT
  congr 1
  by_cases h : t.text = [61, 62]
  · rw [h]; rfl
  · have h2 : pk t.text ≠ 0 := by
      unfold pk; rw [if_neg h]; repeat' split
      all_goals omega
    rw [beq_eq_false_iff_ne.2 h2, beq_eq_false_iff_ne.2 h]
theorem sp_1 (t : Tok) : sp 1 t = isT t [124] := by
  unfold sp isT
  congr 1
  by_cases h : t.text = [124]
  · rw [h]; rfl
  · have h2 : pk t.text ≠ 1 := by
      unfold pk; rw [if_neg h]; repeat' split
      all_goals omega
    rw [beq_eq_false_iff_ne.2 h2, beq_eq_false_iff_ne.2 h]
theorem sp_2 (t : Tok) : sp 2 t = isT t [38] := by
  unfold sp isT
  congr 1
  by_cases h : t.text = [38]
  · rw [h]; rfl
  · have h2 : pk t.text ≠ 2 := by
      unfold pk; rw [if_neg h]; repeat' split
      all_goals omega
    rw [beq_eq_false_iff_ne.2 h2, beq_eq_false_iff_ne.2 h]
theorem sp_3 (t : Tok) : sp 3 t = (isT t [85] || (isT t [87] || isT t [82])) := by
  unfold sp isT
  rw [← Bool.and_or_distrib_left, ← Bool.and_or_distrib_left]
  congr 1
  by_cases h : t.text = [85] ∨ t.text = [87] ∨ t.text = [82]
  · rcases h with h | h | h <;> rw [h] <;> rfl
  · have h2 : pk t.text ≠ 3 := by
      unfold pk; rw [if_neg h]; repeat' split
      all_goals omega
    simp only [not_or] at h
    rw [beq_eq_false_iff_ne.2 h2, beq_eq_false_iff_ne.2 h.1, beq_eq_false_iff_ne.2 h.2.1, beq_eq_false_iff_ne.2 h.2.2]; rfl
theorem sp_4 (t : Tok) : sp 4 t = (isT t [33] || (isT t [88] || (isT t [70] || isT t [71]))) := by
  unfold sp isT
  rw [← Bool.and_or_distrib_left, ← Bool.and_or_distrib_left, ← Bool.and_or_distrib_left]
  congr 1
  by_cases h : t.text = [33] ∨ t.text = [88] ∨ t.text = [70] ∨ t.text = [71]
  · rcases h with h | h | h | h <;> rw [h] <;> rfl
  · have h2 : pk t.text ≠ 4 := by
      unfold pk; rw [if_neg h]; repeat' split
      all_goals omega
    simp only [not_or] at h
    rw [beq_eq_false_iff_ne.2 h2, beq_eq_false_iff_ne.2 h.1, beq_eq_false_iff_ne.2 h.2.1, beq_eq_false_iff_ne.2 h.2.2.1, beq_eq_false_iff_ne.2 h.2.2.2]; rfl
end
section
open Go.RowKit Go.Sort

section
variable {w : World} {pb D : Nat} {us : List Tok}
def DpP (v : Bool) (w : World) (e : Ending) (w' : World) : Prop := e = .returned (.bool v) ∧ w = w'
theorem rfdeep_bad {c q : Nat} (h : DS w pb D (.bad c q)) (z : Int) : Calls Tryz.prog 49 #[.pointer (some ⟨pb, 0, none⟩), .int .i64 z] w (DpP true w) := by
  have hl := h.lt
  obtain ⟨e2, e3, _⟩ := h.cells
  have hc : c ≠ 0 := h.1
  replace e3 : w.cell? ⟨pb, 3, none⟩ = some (.int .i64 (c : Int)) := e3
  have g0 : ((c : Int) == 0) = false := by rw [beq_eq_false_iff_ne]; omega
  have g1 : ((c : Int) != 0) = true := by rw [bne_iff_ne]; omega
  clear h hc
  go_enter Tryz.func49, Tryz.ntmps49
  go_wp2
  go_ret
  exact ⟨rfl, rfl⟩
theorem rfdeep_ok (h : DS w pb D (.good us)) {lev : Nat} (hlev : lev ≤ D) : Calls Tryz.prog 49 #[.pointer (some ⟨pb, 0, none⟩), .int .i64 (lev : Int)] w (DpP false w) := by
  have hl := h.lt
  obtain ⟨e2, e3, _⟩ := h.cells
  replace e3 : w.cell? ⟨pb, 3, none⟩ = some (.int .i64 ((0 : Nat) : Int)) := e3
  have g1 : decide ((D : Int) < (lev : Int)) = false := by simp; omega
  have g2 : decide (D < lev) = false := by simp; omega
  clear h hlev
  go_enter Tryz.func49, Tryz.ntmps49
  go_wp2
  go_ret
  exact ⟨rfl, rfl⟩
theorem rfdeep_no (h : DS w pb D (.good us)) {lev : Nat} (hlev : D < lev) : Calls Tryz.prog 49 #[.pointer (some ⟨pb, 0, none⟩), .int .i64 (lev : Int)] w fun e w' => e = .returned (.bool true) ∧ DS w' pb D ((St.good us).fail 21) ∧ Fx (X1 pb) w w' := by
  have hl := h.lt
  obtain ⟨e2, e3, _⟩ := h.cells
  replace e3 : w.cell? ⟨pb, 3, none⟩ = some (.int .i64 ((0 : Nat) : Int)) := e3
  have g1 : decide ((D : Int) < (lev : Int)) = true := by simp; omega
  have g2 : decide (D < lev) = true := by simpa using hlev
  have H := Lib.hid (rfail_any h 21 (by decide) 21 rfl)
  clear h hlev
  go_enter Tryz.func49, Tryz.ntmps49
  go_wp2_with fail
  refine (H.out).mono ?_
  rintro e w1 ⟨rfl, hF1, hD1⟩
  unfold zeroE
  have hl1 := hD1.lt
  obtain ⟨y2, y3, _⟩ := hD1.cells
  replace y3 : w1.cell? ⟨pb, 3, none⟩ = some (.int .i64 21) := y3
  have HD1 := Lib.hid hD1
  have HF1 := Lib.hid (Fx.ofFr1 hF1)
  clear hD1 hF1
  go_wp2
  go_ret
  exact ⟨rfl, HD1.out, HF1.out⟩
end
section
variable {w W : World} {pb D : Nat} {st : St}
theorem x1_no {k : Nat} (h : pb < k) : ¬ X1 pb k := fun h' => by unfold X1 at h'; omega
set_option maxHeartbeats 1000000 in
theorem rfread_bad {c q : Nat} (y z : Int) (w : World) (h : DS w pb D (.bad c q)) : Calls Tryz.prog 27 #[.pointer (some ⟨pb, 0, none⟩), .int .i64 y, .int .i64 z] w (DFP pb D (none, .bad c q) w) := by
  have hl := h.lt
  have H := Lib.hid h
  clear h
  go_enter Tryz.func27, Tryz.ntmps27
  go_wp2_with fail
  refine calls_gen (P := fun W => DS W pb D (.bad c q) ∧ Bx W w.heap.size 32 zc4 ∧ Fx (X1 pb) w W) ⟨H.out.alloc _, Bx.new w 32 zc4, (Fx.refl _ _).alloc _⟩ ?_
  rintro W ⟨hM, hB, hF⟩
  refine (rfdeep_bad hM z).mono ?_
  rintro e w0 ⟨rfl, rfl⟩
  have HM := Lib.hid hM
  have HB := Lib.hid hB
  have HF := Lib.hid hF
  obtain ⟨b0, b1, b2, b3⟩ := Bx.cells4 hB
  obtain ⟨y0, y1, y2, y3⟩ := Bx.frozen4 hB
  have hbl := hB.lt
  clear hM hB hF
  go_wp2
  obtain ⟨d0, d1, d2, d3⟩ := (Bx.set4 (x0 := .string ⟨#[]⟩) (x1 := .string ⟨#[]⟩) (x2 := .slice none 0 0) (x3 := .int .i64 0) HB.out).cells4
  refine bodyPost_ret (v := .agg #[.string ⟨#[]⟩, .string ⟨#[]⟩, .slice none 0 0, .int .i64 0]) (by simp [results, Tryz.results27, go_sem, d0, d1, d2, d3]) rfl ⟨fv0, rfl, trivial, ?_, ?_⟩
  · exact HM.out.setR HB.out
  · exact HF.out.set4 (.inl (Nat.le_refl _))
set_option maxHeartbeats 1000000 in
theorem rfread_deep {us : List Tok} {lev : Nat} (hlev : D < lev) (y : Int) (w : World) (h : DS w pb D (.good us)) : Calls Tryz.prog 27 #[.pointer (some ⟨pb, 0, none⟩), .int .i64 y, .int .i64 (lev : Int)] w (DFP pb D (deepS (.good us)) w) := by
  have hl := h.lt
  have H := Lib.hid h
  have HL := Lib.hid hlev
  clear h hlev
  go_enter Tryz.func27, Tryz.ntmps27
  go_wp2_with fail
  refine calls_gen (P := fun W => DS W pb D (.good us) ∧ Bx W w.heap.size 32 zc4 ∧ Fx (X1 pb) w W) ⟨H.out.alloc _, Bx.new w 32 zc4, (Fx.refl _ _).alloc _⟩ ?_
  rintro W ⟨hM, hB, hF⟩
  refine (rfdeep_no hM HL.out).mono ?_
  rintro e w0 ⟨rfl, hM0, hF0⟩
  have hB0 := hB.fx hF0 (x1_no hl)
  have HM := Lib.hid hM0
  have HB := Lib.hid hB0
  have HF := Lib.hid (hF.trans hF0)
  obtain ⟨b0, b1, b2, b3⟩ := Bx.cells4 hB0
  obtain ⟨y0, y1, y2, y3⟩ := Bx.frozen4 hB0
  have hbl := hB0.lt
  clear hM hB hF hM0 hF0 hB0
  go_wp2
  obtain ⟨d0, d1, d2, d3⟩ := (Bx.set4 (x0 := .string ⟨#[]⟩) (x1 := .string ⟨#[]⟩) (x2 := .slice none 0 0) (x3 := .int .i64 0) HB.out).cells4
  refine bodyPost_ret (v := .agg #[.string ⟨#[]⟩, .string ⟨#[]⟩, .slice none 0 0, .int .i64 0]) (by simp [results, Tryz.results27, go_sem, d0, d1, d2, d3]) rfl ⟨fv0, rfl, trivial, ?_, ?_⟩
  · exact HM.out.setR HB.out
  · exact HF.out.set4 (.inl (Nat.le_refl _))
/-- The document's atoms, at a level. -/
def ONC (lev D : Nat) (F : St → RF) : Prop := ∀ (w : World) (pb : Nat) (us : List Tok), DS w pb D (.good us) → Calls Tryz.prog 50 #[.pointer (some ⟨pb, 0, none⟩), .int .i64 (lev : Int)] w (DFP pb D (F (.good us)) w)
set_option maxHeartbeats 1000000 in
theorem rfread_4 {us : List Tok} {lev : Nat} {F : St → RF} (hlev : lev ≤ D) (h1 : ONC lev D F) (w : World) (h : DS w pb D (.good us)) : Calls Tryz.prog 27 #[.pointer (some ⟨pb, 0, none⟩), .int .i64 4, .int .i64 (lev : Int)] w (DFP pb D (F (.good us)) w) := by
  have hl := h.lt
  have H := Lib.hid h
  have HL := Lib.hid hlev
  have H1 := Lib.hid h1
  clear h hlev h1
  go_enter Tryz.func27, Tryz.ntmps27
  go_wp2_with fail
  refine calls_gen (P := fun W => DS W pb D (.good us) ∧ Bx W w.heap.size 32 zc4 ∧ Fx (X1 pb) w W) ⟨H.out.alloc _, Bx.new w 32 zc4, (Fx.refl _ _).alloc _⟩ ?_
  rintro W ⟨hM, hB, hF⟩
  refine (rfdeep_ok hM HL.out).mono ?_
  rintro e w0 ⟨rfl, rfl⟩
  have hs := hB.lt
  have HM := Lib.hid hM
  have HB := Lib.hid hB
  have HF := Lib.hid hF
  clear hM hB hF
  go_wp2_with fail
  refine (H1.out W pb us HM.out).mono ?_
  rintro e w1 ⟨v, rfl, hO, hM1, hF1⟩
  have hB1 := HB.out.fx hF1 (x1_no hl)
  have HM1 := Lib.hid hM1
  have HO := Lib.hid hO
  have HB1 := Lib.hid hB1
  have HF1 := Lib.hid (HF.out.trans hF1)
  obtain ⟨b0, b1, b2, b3⟩ := Bx.cells4 hB1
  obtain ⟨y0, y1, y2, y3⟩ := Bx.frozen4 hB1
  have hbl := hB1.lt
  clear hM1 hF1 hB1 hO
  go_wp2
  obtain ⟨d0, d1, d2, d3⟩ := (Bx.set4 (x0 := .string v.o) (x1 := .string v.nm) (x2 := .slice v.A v.ll v.cap) (x3 := .int .i64 v.p) HB1.out).cells4
  refine bodyPost_ret (v := .agg #[.string v.o, .string v.nm, .slice v.A v.ll v.cap, .int .i64 v.p]) (by simp [results, Tryz.results27, go_sem, d0, d1, d2, d3]) rfl ⟨v, rfl, ?_, ?_, ?_⟩
  · exact (HO.out.setS4 (by unfold Rg; omega)).wide (fun j _ hj => ⟨by have := hj.1; omega, by have := hj.2; simpa using this⟩)
  · exact HM1.out.setR HB1.out
  · exact HF1.out.set4 (.inl (Nat.le_refl _))
/-- What lies behind a block, but for one. -/
def SX (lo b hi k : Nat) : Prop := lo ≤ k ∧ k < hi ∧ k ≠ b
theorem fot_bin {e : TypeId} {W : World} {S T : Nat → Prop} {o1 o2 : Option Fo} {v1 v2 : FV} (op : List UInt8) {g : Nat} (hg : g = W.heap.size) (h1 : FOT e W S o1 v1) (h2 : FOT e W S o2 v2) (hT : ∀ k, k < W.heap.size → S k → T k) (hTg : T g) :
    FOT e (W.alloc (.cells #[.string v1.o, .string v1.nm, .slice v1.A v1.ll v1.cap, .int .i64 v1.p, .string v2.o, .string v2.nm, .slice v2.A v2.ll v2.cap, .int .i64 v2.p] e)) T (binO op o1 o2) ⟨⟨op.toArray⟩, ⟨#[]⟩, some ⟨g, 0, none⟩, 2, 2, v1.p⟩ := by
  subst hg
  cases o1 with
  | none => cases o2 <;> trivial
  | some a =>
    cases o2 with
    | none => trivial
    | some b =>
      have hp : v1.p = (a.pos : Int) := FS.posn h1
      refine ⟨W.heap.size, 2, v1.c, v2.c, by simp [FV.c, strV, hp], ⟨hTg, _, heap_alloc_new W _, fun j u hu => by simpa [FV.c] using hu⟩, ?_, ?_⟩
      · exact FS.wide (fun k hk hS => by
          have hk' : k < W.heap.size ∨ k = W.heap.size := by simp at hk; omega
          rcases hk' with hk' | rfl
          · exact hT k hk' hS
          · exact hTg) (FS.alloc h1 _)
      · exact FS.wide (fun k hk hS => by
          have hk' : k < W.heap.size ∨ k = W.heap.size := by simp at hk; omega
          rcases hk' with hk' | rfl
          · exact hT k hk' hS
          · exact hTg) (FS.alloc h2 _)
/-- What the reader's loop keeps. -/
def RdRel (w : World) (pb D b7 : Nat) (T : RF → RF) (tot : RF) (gk : Nat) (wr : World) : Prop :=
  ∃ (r : RF) (v : FV), T r = tot ∧ gk = r.2.len ∧ DS wr pb D r.2 ∧ Bx wr w.heap.size 32 zc4 ∧ Bx wr b7 32 v.c ∧ FOT 32 wr (SX (w.heap.size + 1) b7 wr.heap.size) r.1 v ∧ Fx (X1 pb) w wr ∧ w.heap.size < b7
def rightT (k : Nat) (bh : St → RF) (r : RF) : RF := if sp k r.2.hd then (binO r.2.hd.text r.1 (bh r.2.tl).1, (bh r.2.tl).2) else r
def leftT (k : Nat) (rd : St → RF) (r : RF) : RF := leftF k rd r.2.len r
theorem rightT_no {k : Nat} {bh : St → RF} {r : RF} (h : sp k r.2.hd = false) : rightT k bh r = r := by unfold rightT; rw [if_neg (by rw [h]; simp)]
theorem leftT_no {k : Nat} {rd : St → RF} {r : RF} (h : sp k r.2.hd = false) : leftT k rd r = r := left_stop h
theorem rightT_yes {k : Nat} {bh : St → RF} {r : RF} (h : sp k r.2.hd = true) : rightT k bh r = (binO r.2.hd.text r.1 (bh r.2.tl).1, (bh r.2.tl).2) := by unfold rightT; rw [if_pos h]
theorem DS.tailS {us : List Tok} (h : DS w pb D (.good us)) (h0 : (hd us).kind ≠ 0) : ∃ k : Nat, w.cell? ⟨pb, 1, none⟩ = some (.int .i64 (k : Int)) ∧ k ≤ 65537 ∧ DS (w.setCell ⟨pb, 1, none⟩ (.int .i64 ((k : Int) + 1))) pb D (.good us.tail) := DR.tail h h0

set_option maxHeartbeats 8000000 in
set_option maxRecDepth 100000 in
theorem rfread_0 {us : List Tok} {lev : Nat} {F G : St → RF} (hlev : lev ≤ D) (hdm : D ≤ 64) (hF : RDC 1 lev D F) (hG : RDC 0 (lev + 1) D G) (w : World) (h : DS w pb D (.good us)) : Calls Tryz.prog 27 #[.pointer (some ⟨pb, 0, none⟩), .int .i64 0, .int .i64 (lev : Int)] w (DFP pb D (rightT 0 G (F (.good us))) w) := by
  have hl := h.lt
  have H := Lib.hid h
  have HL := Lib.hid hlev
  have HFF := Lib.hid hF
  have HGG := Lib.hid hG
  have hlm : lev ≤ 64 := by omega
  obtain ⟨tot, htot⟩ : ∃ tot, tot = rightT 0 G (F (.good us)) := ⟨_, rfl⟩
  rw [← htot]
  have HT := Lib.hid htot
  have hf1 := fieldr1
  clear h hlev hF hG htot
  go_enter Tryz.func27, Tryz.ntmps27
  go_wp2_with fail
  refine calls_gen (P := fun W => DS W pb D (.good us) ∧ Bx W w.heap.size 32 zc4 ∧ Fx (X1 pb) w W) ⟨H.out.alloc _, Bx.new w 32 zc4, (Fx.refl _ _).alloc _⟩ ?_
  rintro W ⟨hM, hB, hF⟩
  refine (rfdeep_ok hM HL.out).mono ?_
  rintro e w0 ⟨rfl, rfl⟩
  have hs := hB.lt
  have HM := Lib.hid hM
  have HB := Lib.hid hB
  have HF := Lib.hid hF
  clear hM hB hF
  go_wp2_with fail
  refine (HFF.out W pb _ _ _ (by decide) rfl HM.out).mono ?_
  rintro e w1 ⟨v1, rfl, hO, hM1, hF1⟩
  have hz1 := hF1.size
  have HR0 := Lib.hid (show RdRel w pb D w1.heap.size (rightT 0 G) tot (F (.good us)).2.len (w1.alloc (.cells #[.string v1.o, .string v1.nm, .slice v1.A v1.ll v1.cap, .int .i64 v1.p] 32)) from
    ⟨_, v1, HT.out.symm, rfl, hM1.alloc _, (HB.out.fx hF1 (x1_no hl)).alloc _, Bx.new w1 32 v1.c, (hO.alloc _).wide (fun j _ hj => ⟨by have := hj.1; omega, by have := hj.2; simp; omega, by have := hj.2; omega⟩), (HF.out.trans hF1).alloc _, by omega⟩)
  clear hM1 hF1 hO HM HB HF
  go_wp2
  go_loopg [] (F (.good us)).2.len (fun gk wr => RdRel w pb D w1.heap.size (rightT 0 G) tot gk wr)
  case atStart => exact HR0.out
  case round =>
    clear HR0
    obtain ⟨r, v, hT, rfl, hM, hB, hE, hO, hF, hlt⟩ := hrel
    have HTT := Lib.hid hT
    have hle := hM.lt
    have hlE := hE.lt
    have hlB := hB.lt
    obtain ⟨e0, e1, e2, e3⟩ := Bx.cells4 hE
    obtain ⟨t0, t1, t2, t3⟩ := Bx.frozen4 hE
    obtain ⟨x2, x3, _⟩ := hM.cells
    cases hst : r.2 with
    | bad c q =>
      rw [hst] at hM x3
      have hc : c ≠ 0 := hM.1
      replace x3 : wr.cell? ⟨pb, 3, none⟩ = some (.int .i64 (c : Int)) := x3
      have g0 : ((c : Int) == 0) = false := by rw [beq_eq_false_iff_ne]; omega
      have HQ := Lib.hid (show tot = r ∧ tot.2 = .bad c q by
        have : tot = r := by rw [← HTT.out]; exact rightT_no (by rw [hst]; exact sp_end rfl 0)
        exact ⟨this, by rw [this, hst]⟩)
      have HM2 := Lib.hid hM
      have HB2 := Lib.hid hB
      have HO2 := Lib.hid hO
      have HF2 := Lib.hid hF
      obtain ⟨b0, b1, b2, b3⟩ := Bx.cells4 hB
      obtain ⟨y0, y1, y2, y3⟩ := Bx.frozen4 hB
      clear hM hB hE hO hF hT hst hc
      go_wp2
      obtain ⟨d0, d1, d2, d3⟩ := (Bx.set4 (x0 := .string v.o) (x1 := .string v.nm) (x2 := .slice v.A v.ll v.cap) (x3 := .int .i64 v.p) HB2.out).cells4
      refine bodyPost_ret (v := .agg #[.string v.o, .string v.nm, .slice v.A v.ll v.cap, .int .i64 v.p]) (by simp [results, Tryz.results27, go_sem, d0, d1, d2, d3]) rfl ⟨v, rfl, ?_, ?_, ?_⟩
      · rw [HQ.out.1]; exact (HO2.out.setS4 (by unfold SX; omega)).wide (fun j _ hj => ⟨hj.1, by have := hj.2.1; simpa using this⟩)
      · rw [HQ.out.2]; exact HM2.out.setR HB2.out
      · exact HF2.out.set4 (.inl (Nat.le_refl _))
    | good us1 =>
      rw [hst] at hM x3
      replace x3 : wr.cell? ⟨pb, 3, none⟩ = some (.int .i64 ((0 : Nat) : Int)) := x3
      have HM2 := Lib.hid hM
      have HB2 := Lib.hid hB
      have HE2 := Lib.hid hE
      have HO2 := Lib.hid hO
      have HF2 := Lib.hid hF
      have HST := Lib.hid hst
      have hpn : pb < w.heap.size := hl
      clear hM hB hE hO hF hT hst
      go_wp2_with fail
      refine (rnow_any HM2.out).mono ?_
      rintro e w2 ⟨rfl, hb2⟩
      have HM3 := Lib.hid (HM2.out.below hb2)
      have HB3 := Lib.hid (HB2.out.below hb2)
      have HE3 := Lib.hid (HE2.out.below hb2)
      have HO3 := Lib.hid (HO2.out.below hb2)
      have HF3 := Lib.hid (HF2.out.on hb2)
      have hz2 := hb2.size
      clear hb2 HM2 HB2 HE2 HO2 HF2 x3 x2 e0 e1 e2 e3 t0 t1 t2 t3
      cases hi0 : isT (hd us1) [61, 62] with
      | true =>
        have HI0 := Lib.hid (show isT (hd us1) (⟨#[61, 62]⟩ : ByteArray).data.toList = true from hi0)
        have HSP := Lib.hid (show sp 0 (hd us1) = true by simp [sp_0, hi0])
        clear hi0
        go_wp2_with fail
        refine (ris_any HM3.out ⟨#[61, 62]⟩).mono ?_
        rintro e w3 ⟨rfl, hb3⟩
        rw [HI0.out]
        have HM4 := Lib.hid (HM3.out.below hb3)
        have HB4 := Lib.hid (HB3.out.below hb3)
        have HE4 := Lib.hid (HE3.out.below hb3)
        have HO4 := Lib.hid (HO3.out.below hb3)
        have HF4 := Lib.hid (HF3.out.on hb3)
        have hz3 := hb3.size
        clear hb3
        obtain ⟨kk, hk1, hk2, hTL⟩ := HM4.out.tailS (sp_kind HSP.out).1
        have fk := HM4.out.cells.2.2 1
        have hlk := HM4.out.lt
        have hne1 : w.heap.size ≠ pb := by omega
        have hne2 : w1.heap.size ≠ pb := by omega
        have MT := Lib.hid hTL
        have BT := Lib.hid (HB4.out.far (p := ⟨pb, 1, none⟩) hne1 (.int .i64 ((kk : Int) + 1)))
        have ET := Lib.hid (HE4.out.far (p := ⟨pb, 1, none⟩) hne2 (.int .i64 ((kk : Int) + 1)))
        have OT := Lib.hid (HO4.out.setS (q := pb) (i := 1) (by unfold SX; omega) (.int .i64 ((kk : Int) + 1)))
        have FT := Lib.hid (HF4.out.setCell (p := ⟨pb, 1, none⟩) (.inr rfl) (.int .i64 ((kk : Int) + 1)))
        clear hTL HM4 HB4 HE4 HO4 HF4
        go_wp2_with fail
        refine calls_gen (P := fun W => DS W pb D (.good us1.tail) ∧ Bx W w.heap.size 32 zc4 ∧ Bx W w1.heap.size 32 v.c ∧ FOT 32 W (SX (w.heap.size + 1) w1.heap.size W.heap.size) r.1 v ∧ Fx (X1 pb) w W) ⟨MT.out, BT.out, ET.out, OT.out.wide (fun j _ hj => ⟨hj.1, by have := hj.2.1; simp; omega, hj.2.2⟩), FT.out⟩ ?_
        clear hk1 fk hlk MT BT ET OT FT
        rintro WT ⟨hM, hB, hE, hO, hF⟩
        refine (HGG.out WT pb _ _ _ (by decide) (by push_cast; rfl) hM).mono ?_
        rintro e w9 ⟨v9, rfl, hO9, hM9, hF9⟩
        have hz9 := hF9.size
        have hlET := hE.lt
        have hzT := hF.size
        have HM9 := Lib.hid hM9
        have hB9 := hB.fx hF9 (x1_no hpn)
        have hE9 := hE.fx hF9 (x1_no (by omega))
        have HB9 := Lib.hid hB9
        have HE9 := Lib.hid hE9
        have HO9 := Lib.hid ((hO.fx hF9 (fun j hj => x1_no (by unfold SX at hj; omega))).wide (T := SX (w.heap.size + 1) w1.heap.size w9.heap.size) (fun j _ hj => ⟨hj.1, by have := hj.2.1; omega, hj.2.2⟩))
        have HP9 := Lib.hid (hO9.wide (T := SX (w.heap.size + 1) w1.heap.size w9.heap.size) (fun j _ hj => ⟨by have := hj.1; omega, hj.2, by have := hj.1; omega⟩))
        have HF9 := Lib.hid (hF.trans hF9)
        obtain ⟨e0, e1, e2, e3⟩ := Bx.cells4 hE9
        obtain ⟨t0, t1, t2, t3⟩ := Bx.frozen4 hE9
        have hlE9 := hE9.lt
        obtain ⟨b0, b1, b2, b3⟩ := Bx.cells4 hB9
        obtain ⟨y0, y1, y2, y3⟩ := Bx.frozen4 hB9
        have hlB9 := hB9.lt
        clear hM hB hE hO hF hO9 hM9 hF9 hB9 hE9
        have HN := Lib.hid (fot_bin (W := ((((w9.setCell ⟨w.heap.size, 0, none⟩ (.string ⟨(hd us1).text.toArray⟩)).setCell ⟨w.heap.size, 1, none⟩ (.string ⟨#[]⟩)).setCell ⟨w.heap.size, 2, none⟩ (.slice (some ⟨w9.heap.size + 1, 0, none⟩) 2 2)).setCell ⟨w.heap.size, 3, none⟩ (.int .i64 v.p)).alloc (.cells #[.string v9.o, .string v9.nm, .slice v9.A v9.ll v9.cap, .int .i64 v9.p] 32)) (T := SX (w.heap.size + 1) w1.heap.size (w9.heap.size + 2)) (hd us1).text (g := w9.heap.size + 1) (by simp) ((HO9.out.setS4 (by unfold SX; omega)).alloc (.cells #[.string v9.o, .string v9.nm, .slice v9.A v9.ll v9.cap, .int .i64 v9.p] 32)) ((HP9.out.setS4 (by unfold SX; omega)).alloc (.cells #[.string v9.o, .string v9.nm, .slice v9.A v9.ll v9.cap, .int .i64 v9.p] 32)) (fun j _ hj => ⟨hj.1, by have := hj.2.1; omega, hj.2.2⟩) ⟨by omega, by omega, by omega⟩)
        have HQ := Lib.hid (show tot = (binO (hd us1).text r.1 (G (.good us1.tail)).1, (G (.good us1.tail)).2) by rw [← HTT.out, rightT_yes (by rw [HST.out]; exact HSP.out), HST.out]; rfl)
        go_wp2
        obtain ⟨d0, d1, d2, d3⟩ := (((Bx.set4 (x0 := .string ⟨(hd us1).text.toArray⟩) (x1 := .string ⟨#[]⟩) (x2 := .slice (some ⟨w9.heap.size + 1, 0, none⟩) 2 2) (x3 := .int .i64 v.p) HB9.out).alloc (.cells #[.string v9.o, .string v9.nm, .slice v9.A v9.ll v9.cap, .int .i64 v9.p] 32)).alloc (.cells #[.string v.o, .string v.nm, .slice v.A v.ll v.cap, .int .i64 v.p, .string v9.o, .string v9.nm, .slice v9.A v9.ll v9.cap, .int .i64 v9.p] 32)).cells4
        rw [HQ.out]
        refine bodyPost_ret (v := .agg #[.string ⟨(hd us1).text.toArray⟩, .string ⟨#[]⟩, .slice (some ⟨w9.heap.size + 1, 0, none⟩) 2 2, .int .i64 v.p]) (by simp [results, Tryz.results27, go_sem, d0, d1, d2, d3]) rfl ⟨⟨⟨(hd us1).text.toArray⟩, ⟨#[]⟩, some ⟨w9.heap.size + 1, 0, none⟩, 2, 2, v.p⟩, rfl, ?_, ?_, ?_⟩
        · exact HN.out.wide (fun j _ hj => ⟨hj.1, by have := hj.2.1; simp; omega⟩)
        · exact ((HM9.out.setR HB9.out).alloc (.cells #[.string v9.o, .string v9.nm, .slice v9.A v9.ll v9.cap, .int .i64 v9.p] 32)).alloc (.cells #[.string v.o, .string v.nm, .slice v.A v.ll v.cap, .int .i64 v.p, .string v9.o, .string v9.nm, .slice v9.A v9.ll v9.cap, .int .i64 v9.p] 32)
        · exact ((HF9.out.set4 (.inl (Nat.le_refl _))).alloc (.cells #[.string v9.o, .string v9.nm, .slice v9.A v9.ll v9.cap, .int .i64 v9.p] 32)).alloc (.cells #[.string v.o, .string v.nm, .slice v.A v.ll v.cap, .int .i64 v.p, .string v9.o, .string v9.nm, .slice v9.A v9.ll v9.cap, .int .i64 v9.p] 32)
      | false =>
        have HI0 := Lib.hid (show isT (hd us1) (⟨#[61, 62]⟩ : ByteArray).data.toList = false from hi0)
        have HSP := Lib.hid (show sp 0 (hd us1) = false by simp [sp_0, hi0])
        clear hi0
        go_wp2_with fail
        refine (ris_any HM3.out ⟨#[61, 62]⟩).mono ?_
        rintro e w3 ⟨rfl, hb3⟩
        rw [HI0.out]
        have HM4 := Lib.hid (HM3.out.below hb3)
        have HB4 := Lib.hid (HB3.out.below hb3)
        have HE4 := Lib.hid (HE3.out.below hb3)
        have HO4 := Lib.hid (HO3.out.below hb3)
        have HF4 := Lib.hid (HF3.out.on hb3)
        have hz3 := hb3.size
        clear hb3
        have hle4 := HM4.out.lt
        obtain ⟨e0, e1, e2, e3⟩ := Bx.cells4 HE4.out
        have hlE2 := HE4.out.lt
        obtain ⟨b0, b1, b2, b3⟩ := Bx.cells4 HB4.out
        obtain ⟨y0, y1, y2, y3⟩ := Bx.frozen4 HB4.out
        have hlB2 := HB4.out.lt
        have HQ := Lib.hid (show tot = r ∧ tot.2 = .good us1 by
          have : tot = r := by rw [← HTT.out]; exact rightT_no (by rw [HST.out]; exact HSP.out)
          exact ⟨this, by rw [this, HST.out]⟩)
        go_wp2
        obtain ⟨d0, d1, d2, d3⟩ := (Bx.set4 (x0 := .string v.o) (x1 := .string v.nm) (x2 := .slice v.A v.ll v.cap) (x3 := .int .i64 v.p) HB4.out).cells4
        refine bodyPost_ret (v := .agg #[.string v.o, .string v.nm, .slice v.A v.ll v.cap, .int .i64 v.p]) (by simp [results, Tryz.results27, go_sem, d0, d1, d2, d3]) rfl ⟨v, rfl, ?_, ?_, ?_⟩
        · rw [HQ.out.1]; exact (HO4.out.setS4 (by unfold SX; omega)).wide (fun j _ hj => ⟨hj.1, by have := hj.2.1; simp; omega⟩)
        · rw [HQ.out.2]; exact HM4.out.setR HB4.out
        · exact HF4.out.set4 (.inl (Nat.le_refl _))

set_option maxHeartbeats 8000000 in
set_option maxRecDepth 100000 in
theorem rfread_1 {us : List Tok} {lev : Nat} {F : St → RF} (hlev : lev ≤ D) (hdm : D ≤ 64) (hF : RDC 2 lev D F) (hR : Rok F) (w : World) (h : DS w pb D (.good us)) : Calls Tryz.prog 27 #[.pointer (some ⟨pb, 0, none⟩), .int .i64 1, .int .i64 (lev : Int)] w (DFP pb D (leftT 1 F (F (.good us))) w) := by
  have hl := h.lt
  have H := Lib.hid h
  have HL := Lib.hid hlev
  have HFF := Lib.hid hF
  have HRK := Lib.hid hR
  have hlm : lev ≤ 64 := by omega
  obtain ⟨tot, htot⟩ : ∃ tot, tot = leftT 1 F (F (.good us)) := ⟨_, rfl⟩
  rw [← htot]
  have HT := Lib.hid htot
  have hf1 := fieldr1
  clear h hlev hF hR htot
  go_enter Tryz.func27, Tryz.ntmps27
  go_wp2_with fail
  refine calls_gen (P := fun W => DS W pb D (.good us) ∧ Bx W w.heap.size 32 zc4 ∧ Fx (X1 pb) w W) ⟨H.out.alloc _, Bx.new w 32 zc4, (Fx.refl _ _).alloc _⟩ ?_
  rintro W ⟨hM, hB, hF⟩
  refine (rfdeep_ok hM HL.out).mono ?_
  rintro e w0 ⟨rfl, rfl⟩
  have hs := hB.lt
  have HM := Lib.hid hM
  have HB := Lib.hid hB
  have HF := Lib.hid hF
  clear hM hB hF
  go_wp2_with fail
  refine (HFF.out W pb _ _ _ (by decide) rfl HM.out).mono ?_
  rintro e w1 ⟨v1, rfl, hO, hM1, hF1⟩
  have hz1 := hF1.size
  have HR0 := Lib.hid (show RdRel w pb D w1.heap.size (leftT 1 F) tot (F (.good us)).2.len (w1.alloc (.cells #[.string v1.o, .string v1.nm, .slice v1.A v1.ll v1.cap, .int .i64 v1.p] 32)) from
    ⟨_, v1, HT.out.symm, rfl, hM1.alloc _, (HB.out.fx hF1 (x1_no hl)).alloc _, Bx.new w1 32 v1.c, (hO.alloc _).wide (fun j _ hj => ⟨by have := hj.1; omega, by have := hj.2; simp; omega, by have := hj.2; omega⟩), (HF.out.trans hF1).alloc _, by omega⟩)
  clear hM1 hF1 hO HM HB HF
  go_wp2
  go_loopg [] (F (.good us)).2.len (fun gk wr => RdRel w pb D w1.heap.size (leftT 1 F) tot gk wr)
  case atStart => exact HR0.out
  case round =>
    clear HR0
    obtain ⟨r, v, hT, rfl, hM, hB, hE, hO, hF, hlt⟩ := hrel
    have HTT := Lib.hid hT
    have hle := hM.lt
    have hlE := hE.lt
    have hlB := hB.lt
    obtain ⟨e0, e1, e2, e3⟩ := Bx.cells4 hE
    obtain ⟨t0, t1, t2, t3⟩ := Bx.frozen4 hE
    obtain ⟨x2, x3, _⟩ := hM.cells
    cases hst : r.2 with
    | bad c q =>
      rw [hst] at hM x3
      have hc : c ≠ 0 := hM.1
      replace x3 : wr.cell? ⟨pb, 3, none⟩ = some (.int .i64 (c : Int)) := x3
      have g0 : ((c : Int) == 0) = false := by rw [beq_eq_false_iff_ne]; omega
      have HQ := Lib.hid (show tot = r ∧ tot.2 = .bad c q by
        have : tot = r := by rw [← HTT.out]; exact leftT_no (by rw [hst]; exact sp_end rfl 1)
        exact ⟨this, by rw [this, hst]⟩)
      have HM2 := Lib.hid hM
      have HB2 := Lib.hid hB
      have HO2 := Lib.hid hO
      have HF2 := Lib.hid hF
      obtain ⟨b0, b1, b2, b3⟩ := Bx.cells4 hB
      obtain ⟨y0, y1, y2, y3⟩ := Bx.frozen4 hB
      clear hM hB hE hO hF hT hst hc
      go_wp2
      obtain ⟨d0, d1, d2, d3⟩ := (Bx.set4 (x0 := .string v.o) (x1 := .string v.nm) (x2 := .slice v.A v.ll v.cap) (x3 := .int .i64 v.p) HB2.out).cells4
      refine bodyPost_ret (v := .agg #[.string v.o, .string v.nm, .slice v.A v.ll v.cap, .int .i64 v.p]) (by simp [results, Tryz.results27, go_sem, d0, d1, d2, d3]) rfl ⟨v, rfl, ?_, ?_, ?_⟩
      · rw [HQ.out.1]; exact (HO2.out.setS4 (by unfold SX; omega)).wide (fun j _ hj => ⟨hj.1, by have := hj.2.1; simpa using this⟩)
      · rw [HQ.out.2]; exact HM2.out.setR HB2.out
      · exact HF2.out.set4 (.inl (Nat.le_refl _))
    | good us1 =>
      rw [hst] at hM x3
      replace x3 : wr.cell? ⟨pb, 3, none⟩ = some (.int .i64 ((0 : Nat) : Int)) := x3
      have HM2 := Lib.hid hM
      have HB2 := Lib.hid hB
      have HE2 := Lib.hid hE
      have HO2 := Lib.hid hO
      have HF2 := Lib.hid hF
      have HST := Lib.hid hst
      have hpn : pb < w.heap.size := hl
      clear hM hB hE hO hF hT hst
      go_wp2_with fail
      refine (rnow_any HM2.out).mono ?_
      rintro e w2 ⟨rfl, hb2⟩
      have HM3 := Lib.hid (HM2.out.below hb2)
      have HB3 := Lib.hid (HB2.out.below hb2)
      have HE3 := Lib.hid (HE2.out.below hb2)
      have HO3 := Lib.hid (HO2.out.below hb2)
      have HF3 := Lib.hid (HF2.out.on hb2)
      have hz2 := hb2.size
      clear hb2 HM2 HB2 HE2 HO2 HF2 x3 x2 e0 e1 e2 e3 t0 t1 t2 t3
      cases hi0 : isT (hd us1) [124] with
      | true =>
        have HI0 := Lib.hid (show isT (hd us1) (⟨#[124]⟩ : ByteArray).data.toList = true from hi0)
        have HSP := Lib.hid (show sp 1 (hd us1) = true by simp [sp_1, hi0])
        clear hi0
        go_wp2_with fail
        refine (ris_any HM3.out ⟨#[124]⟩).mono ?_
        rintro e w3 ⟨rfl, hb3⟩
        rw [HI0.out]
        have HM4 := Lib.hid (HM3.out.below hb3)
        have HB4 := Lib.hid (HB3.out.below hb3)
        have HE4 := Lib.hid (HE3.out.below hb3)
        have HO4 := Lib.hid (HO3.out.below hb3)
        have HF4 := Lib.hid (HF3.out.on hb3)
        have hz3 := hb3.size
        clear hb3
        obtain ⟨kk, hk1, hk2, hTL⟩ := HM4.out.tailS (sp_kind HSP.out).1
        have fk := HM4.out.cells.2.2 1
        have hlk := HM4.out.lt
        have hne1 : w.heap.size ≠ pb := by omega
        have hne2 : w1.heap.size ≠ pb := by omega
        have MT := Lib.hid hTL
        have BT := Lib.hid (HB4.out.far (p := ⟨pb, 1, none⟩) hne1 (.int .i64 ((kk : Int) + 1)))
        have ET := Lib.hid (HE4.out.far (p := ⟨pb, 1, none⟩) hne2 (.int .i64 ((kk : Int) + 1)))
        have OT := Lib.hid (HO4.out.setS (q := pb) (i := 1) (by unfold SX; omega) (.int .i64 ((kk : Int) + 1)))
        have FT := Lib.hid (HF4.out.setCell (p := ⟨pb, 1, none⟩) (.inr rfl) (.int .i64 ((kk : Int) + 1)))
        clear hTL HM4 HB4 HE4 HO4 HF4
        go_wp2_with fail
        refine calls_gen (P := fun W => DS W pb D (.good us1.tail) ∧ Bx W w.heap.size 32 zc4 ∧ Bx W w1.heap.size 32 v.c ∧ FOT 32 W (SX (w.heap.size + 1) w1.heap.size W.heap.size) r.1 v ∧ Fx (X1 pb) w W) ⟨MT.out, BT.out, ET.out, OT.out.wide (fun j _ hj => ⟨hj.1, by have := hj.2.1; simp; omega, hj.2.2⟩), FT.out⟩ ?_
        clear hk1 fk hlk MT BT ET OT FT
        rintro WT ⟨hM, hB, hE, hO, hF⟩
        refine (HFF.out WT pb _ _ _ (by decide) rfl hM).mono ?_
        rintro e w9 ⟨v9, rfl, hO9, hM9, hF9⟩
        have hz9 := hF9.size
        have hlET := hE.lt
        have hzT := hF.size
        have HM9 := Lib.hid hM9
        have hB9 := hB.fx hF9 (x1_no hpn)
        have hE9 := hE.fx hF9 (x1_no (by omega))
        have HB9 := Lib.hid hB9
        have HE9 := Lib.hid hE9
        have HO9 := Lib.hid ((hO.fx hF9 (fun j hj => x1_no (by unfold SX at hj; omega))).wide (T := SX (w.heap.size + 1) w1.heap.size w9.heap.size) (fun j _ hj => ⟨hj.1, by have := hj.2.1; omega, hj.2.2⟩))
        have HP9 := Lib.hid (hO9.wide (T := SX (w.heap.size + 1) w1.heap.size w9.heap.size) (fun j _ hj => ⟨by have := hj.1; omega, hj.2, by have := hj.1; omega⟩))
        have HF9 := Lib.hid (hF.trans hF9)
        obtain ⟨e0, e1, e2, e3⟩ := Bx.cells4 hE9
        obtain ⟨t0, t1, t2, t3⟩ := Bx.frozen4 hE9
        have hlE9 := hE9.lt
        obtain ⟨b0, b1, b2, b3⟩ := Bx.cells4 hB9
        obtain ⟨y0, y1, y2, y3⟩ := Bx.frozen4 hB9
        have hlB9 := hB9.lt
        clear hM hB hE hO hF hO9 hM9 hF9 hB9 hE9
        have HN := Lib.hid (fot_bin (W := ((((w9.setCell ⟨w1.heap.size, 0, none⟩ (.string ⟨(hd us1).text.toArray⟩)).setCell ⟨w1.heap.size, 1, none⟩ (.string ⟨#[]⟩)).setCell ⟨w1.heap.size, 2, none⟩ (.slice (some ⟨w9.heap.size + 1, 0, none⟩) 2 2)).setCell ⟨w1.heap.size, 3, none⟩ (.int .i64 v.p)).alloc (.cells #[.string v9.o, .string v9.nm, .slice v9.A v9.ll v9.cap, .int .i64 v9.p] 32)) (T := SX (w.heap.size + 1) w1.heap.size (w9.heap.size + 2)) (hd us1).text (g := w9.heap.size + 1) (by simp) ((HO9.out.setS4 (by unfold SX; omega)).alloc (.cells #[.string v9.o, .string v9.nm, .slice v9.A v9.ll v9.cap, .int .i64 v9.p] 32)) ((HP9.out.setS4 (by unfold SX; omega)).alloc (.cells #[.string v9.o, .string v9.nm, .slice v9.A v9.ll v9.cap, .int .i64 v9.p] 32)) (fun j _ hj => ⟨hj.1, by have := hj.2.1; omega, hj.2.2⟩) ⟨by omega, by omega, by omega⟩)
        obtain ⟨g1, g2⟩ := left_go (k := 1) (r := r) HRK.out (by rw [HST.out]; exact HSP.out)
        rw [HST.out] at g1 g2
        have HLT := Lib.hid (show (F (.good us1.tail)).2.len < r.2.len by rw [HST.out]; exact g2)
        have HQ := Lib.hid (show leftT 1 F (binO (hd us1).text r.1 (F (.good us1.tail)).1, (F (.good us1.tail)).2) = tot by rw [← HTT.out]; unfold leftT; rw [HST.out]; exact g1.symm)
        clear g1 g2
        have HR9 := Lib.hid (show RdRel w pb D w1.heap.size (leftT 1 F) tot (F (.good us1.tail)).2.len ((((((w9.setCell ⟨w1.heap.size, 0, none⟩ (.string ⟨(hd us1).text.toArray⟩)).setCell ⟨w1.heap.size, 1, none⟩ (.string ⟨#[]⟩)).setCell ⟨w1.heap.size, 2, none⟩ (.slice (some ⟨w9.heap.size + 1, 0, none⟩) 2 2)).setCell ⟨w1.heap.size, 3, none⟩ (.int .i64 v.p)).alloc (.cells #[.string v9.o, .string v9.nm, .slice v9.A v9.ll v9.cap, .int .i64 v9.p] 32)).alloc (.cells #[.string v.o, .string v.nm, .slice v.A v.ll v.cap, .int .i64 v.p, .string v9.o, .string v9.nm, .slice v9.A v9.ll v9.cap, .int .i64 v9.p] 32)) from
          ⟨_, ⟨⟨(hd us1).text.toArray⟩, ⟨#[]⟩, some ⟨w9.heap.size + 1, 0, none⟩, 2, 2, v.p⟩, HQ.out, rfl, ((HM9.out.setR HE9.out).alloc (.cells #[.string v9.o, .string v9.nm, .slice v9.A v9.ll v9.cap, .int .i64 v9.p] 32)).alloc (.cells #[.string v.o, .string v.nm, .slice v.A v.ll v.cap, .int .i64 v.p, .string v9.o, .string v9.nm, .slice v9.A v9.ll v9.cap, .int .i64 v9.p] 32), ((HB9.out.far4 (by omega)).alloc (.cells #[.string v9.o, .string v9.nm, .slice v9.A v9.ll v9.cap, .int .i64 v9.p] 32)).alloc (.cells #[.string v.o, .string v.nm, .slice v.A v.ll v.cap, .int .i64 v.p, .string v9.o, .string v9.nm, .slice v9.A v9.ll v9.cap, .int .i64 v9.p] 32), ((Bx.set4 HE9.out).alloc (.cells #[.string v9.o, .string v9.nm, .slice v9.A v9.ll v9.cap, .int .i64 v9.p] 32)).alloc (.cells #[.string v.o, .string v.nm, .slice v.A v.ll v.cap, .int .i64 v.p, .string v9.o, .string v9.nm, .slice v9.A v9.ll v9.cap, .int .i64 v9.p] 32), HN.out.wide (fun j _ hj => ⟨hj.1, by have := hj.2.1; simp; omega, hj.2.2⟩), ((HF9.out.set4 (.inl (by omega))).alloc (.cells #[.string v9.o, .string v9.nm, .slice v9.A v9.ll v9.cap, .int .i64 v9.p] 32)).alloc (.cells #[.string v.o, .string v.nm, .slice v.A v.ll v.cap, .int .i64 v.p, .string v9.o, .string v9.nm, .slice v9.A v9.ll v9.cap, .int .i64 v9.p] 32), hlt⟩)
        go_wp2
        go_roundg (F (.good us1.tail)).2.len
        case measure => exact HLT.out
        case rel => exact HR9.out
      | false =>
        have HI0 := Lib.hid (show isT (hd us1) (⟨#[124]⟩ : ByteArray).data.toList = false from hi0)
        have HSP := Lib.hid (show sp 1 (hd us1) = false by simp [sp_1, hi0])
        clear hi0
        go_wp2_with fail
        refine (ris_any HM3.out ⟨#[124]⟩).mono ?_
        rintro e w3 ⟨rfl, hb3⟩
        rw [HI0.out]
        have HM4 := Lib.hid (HM3.out.below hb3)
        have HB4 := Lib.hid (HB3.out.below hb3)
        have HE4 := Lib.hid (HE3.out.below hb3)
        have HO4 := Lib.hid (HO3.out.below hb3)
        have HF4 := Lib.hid (HF3.out.on hb3)
        have hz3 := hb3.size
        clear hb3
        have hle4 := HM4.out.lt
        obtain ⟨e0, e1, e2, e3⟩ := Bx.cells4 HE4.out
        have hlE2 := HE4.out.lt
        obtain ⟨b0, b1, b2, b3⟩ := Bx.cells4 HB4.out
        obtain ⟨y0, y1, y2, y3⟩ := Bx.frozen4 HB4.out
        have hlB2 := HB4.out.lt
        have HQ := Lib.hid (show tot = r ∧ tot.2 = .good us1 by
          have : tot = r := by rw [← HTT.out]; exact leftT_no (by rw [HST.out]; exact HSP.out)
          exact ⟨this, by rw [this, HST.out]⟩)
        go_wp2
        obtain ⟨d0, d1, d2, d3⟩ := (Bx.set4 (x0 := .string v.o) (x1 := .string v.nm) (x2 := .slice v.A v.ll v.cap) (x3 := .int .i64 v.p) HB4.out).cells4
        refine bodyPost_ret (v := .agg #[.string v.o, .string v.nm, .slice v.A v.ll v.cap, .int .i64 v.p]) (by simp [results, Tryz.results27, go_sem, d0, d1, d2, d3]) rfl ⟨v, rfl, ?_, ?_, ?_⟩
        · rw [HQ.out.1]; exact (HO4.out.setS4 (by unfold SX; omega)).wide (fun j _ hj => ⟨hj.1, by have := hj.2.1; simp; omega⟩)
        · rw [HQ.out.2]; exact HM4.out.setR HB4.out
        · exact HF4.out.set4 (.inl (Nat.le_refl _))

set_option maxHeartbeats 8000000 in
set_option maxRecDepth 100000 in
theorem rfread_2 {us : List Tok} {lev : Nat} {F : St → RF} (hlev : lev ≤ D) (hdm : D ≤ 64) (hF : RDC 3 lev D F) (hR : Rok F) (w : World) (h : DS w pb D (.good us)) : Calls Tryz.prog 27 #[.pointer (some ⟨pb, 0, none⟩), .int .i64 2, .int .i64 (lev : Int)] w (DFP pb D (leftT 2 F (F (.good us))) w) := by
  have hl := h.lt
  have H := Lib.hid h
  have HL := Lib.hid hlev
  have HFF := Lib.hid hF
  have HRK := Lib.hid hR
  have hlm : lev ≤ 64 := by omega
  obtain ⟨tot, htot⟩ : ∃ tot, tot = leftT 2 F (F (.good us)) := ⟨_, rfl⟩
  rw [← htot]
  have HT := Lib.hid htot
  have hf1 := fieldr1
  clear h hlev hF hR htot
  go_enter Tryz.func27, Tryz.ntmps27
  go_wp2_with fail
  refine calls_gen (P := fun W => DS W pb D (.good us) ∧ Bx W w.heap.size 32 zc4 ∧ Fx (X1 pb) w W) ⟨H.out.alloc _, Bx.new w 32 zc4, (Fx.refl _ _).alloc _⟩ ?_
  rintro W ⟨hM, hB, hF⟩
  refine (rfdeep_ok hM HL.out).mono ?_
  rintro e w0 ⟨rfl, rfl⟩
  have hs := hB.lt
  have HM := Lib.hid hM
  have HB := Lib.hid hB
  have HF := Lib.hid hF
  clear hM hB hF
  go_wp2_with fail
  refine (HFF.out W pb _ _ _ (by decide) rfl HM.out).mono ?_
  rintro e w1 ⟨v1, rfl, hO, hM1, hF1⟩
  have hz1 := hF1.size
  have HR0 := Lib.hid (show RdRel w pb D w1.heap.size (leftT 2 F) tot (F (.good us)).2.len (w1.alloc (.cells #[.string v1.o, .string v1.nm, .slice v1.A v1.ll v1.cap, .int .i64 v1.p] 32)) from
    ⟨_, v1, HT.out.symm, rfl, hM1.alloc _, (HB.out.fx hF1 (x1_no hl)).alloc _, Bx.new w1 32 v1.c, (hO.alloc _).wide (fun j _ hj => ⟨by have := hj.1; omega, by have := hj.2; simp; omega, by have := hj.2; omega⟩), (HF.out.trans hF1).alloc _, by omega⟩)
  clear hM1 hF1 hO HM HB HF
  go_wp2
  go_loopg [] (F (.good us)).2.len (fun gk wr => RdRel w pb D w1.heap.size (leftT 2 F) tot gk wr)
  case atStart => exact HR0.out
  case round =>
    clear HR0
    obtain ⟨r, v, hT, rfl, hM, hB, hE, hO, hF, hlt⟩ := hrel
    have HTT := Lib.hid hT
    have hle := hM.lt
    have hlE := hE.lt
    have hlB := hB.lt
    obtain ⟨e0, e1, e2, e3⟩ := Bx.cells4 hE
    obtain ⟨t0, t1, t2, t3⟩ := Bx.frozen4 hE
    obtain ⟨x2, x3, _⟩ := hM.cells
    cases hst : r.2 with
    | bad c q =>
      rw [hst] at hM x3
      have hc : c ≠ 0 := hM.1
      replace x3 : wr.cell? ⟨pb, 3, none⟩ = some (.int .i64 (c : Int)) := x3
      have g0 : ((c : Int) == 0) = false := by rw [beq_eq_false_iff_ne]; omega
      have HQ := Lib.hid (show tot = r ∧ tot.2 = .bad c q by
        have : tot = r := by rw [← HTT.out]; exact leftT_no (by rw [hst]; exact sp_end rfl 2)
        exact ⟨this, by rw [this, hst]⟩)
      have HM2 := Lib.hid hM
      have HB2 := Lib.hid hB
      have HO2 := Lib.hid hO
      have HF2 := Lib.hid hF
      obtain ⟨b0, b1, b2, b3⟩ := Bx.cells4 hB
      obtain ⟨y0, y1, y2, y3⟩ := Bx.frozen4 hB
      clear hM hB hE hO hF hT hst hc
      go_wp2
      obtain ⟨d0, d1, d2, d3⟩ := (Bx.set4 (x0 := .string v.o) (x1 := .string v.nm) (x2 := .slice v.A v.ll v.cap) (x3 := .int .i64 v.p) HB2.out).cells4
      refine bodyPost_ret (v := .agg #[.string v.o, .string v.nm, .slice v.A v.ll v.cap, .int .i64 v.p]) (by simp [results, Tryz.results27, go_sem, d0, d1, d2, d3]) rfl ⟨v, rfl, ?_, ?_, ?_⟩
      · rw [HQ.out.1]; exact (HO2.out.setS4 (by unfold SX; omega)).wide (fun j _ hj => ⟨hj.1, by have := hj.2.1; simpa using this⟩)
      · rw [HQ.out.2]; exact HM2.out.setR HB2.out
      · exact HF2.out.set4 (.inl (Nat.le_refl _))
    | good us1 =>
      rw [hst] at hM x3
      replace x3 : wr.cell? ⟨pb, 3, none⟩ = some (.int .i64 ((0 : Nat) : Int)) := x3
      have HM2 := Lib.hid hM
      have HB2 := Lib.hid hB
      have HE2 := Lib.hid hE
      have HO2 := Lib.hid hO
      have HF2 := Lib.hid hF
      have HST := Lib.hid hst
      have hpn : pb < w.heap.size := hl
      clear hM hB hE hO hF hT hst
      go_wp2_with fail
      refine (rnow_any HM2.out).mono ?_
      rintro e w2 ⟨rfl, hb2⟩
      have HM3 := Lib.hid (HM2.out.below hb2)
      have HB3 := Lib.hid (HB2.out.below hb2)
      have HE3 := Lib.hid (HE2.out.below hb2)
      have HO3 := Lib.hid (HO2.out.below hb2)
      have HF3 := Lib.hid (HF2.out.on hb2)
      have hz2 := hb2.size
      clear hb2 HM2 HB2 HE2 HO2 HF2 x3 x2 e0 e1 e2 e3 t0 t1 t2 t3
      cases hi0 : isT (hd us1) [38] with
      | true =>
        have HI0 := Lib.hid (show isT (hd us1) (⟨#[38]⟩ : ByteArray).data.toList = true from hi0)
        have HSP := Lib.hid (show sp 2 (hd us1) = true by simp [sp_2, hi0])
        clear hi0
        go_wp2_with fail
        refine (ris_any HM3.out ⟨#[38]⟩).mono ?_
        rintro e w3 ⟨rfl, hb3⟩
        rw [HI0.out]
        have HM4 := Lib.hid (HM3.out.below hb3)
        have HB4 := Lib.hid (HB3.out.below hb3)
        have HE4 := Lib.hid (HE3.out.below hb3)
        have HO4 := Lib.hid (HO3.out.below hb3)
        have HF4 := Lib.hid (HF3.out.on hb3)
        have hz3 := hb3.size
        clear hb3
        obtain ⟨kk, hk1, hk2, hTL⟩ := HM4.out.tailS (sp_kind HSP.out).1
        have fk := HM4.out.cells.2.2 1
        have hlk := HM4.out.lt
        have hne1 : w.heap.size ≠ pb := by omega
        have hne2 : w1.heap.size ≠ pb := by omega
        have MT := Lib.hid hTL
        have BT := Lib.hid (HB4.out.far (p := ⟨pb, 1, none⟩) hne1 (.int .i64 ((kk : Int) + 1)))
        have ET := Lib.hid (HE4.out.far (p := ⟨pb, 1, none⟩) hne2 (.int .i64 ((kk : Int) + 1)))
        have OT := Lib.hid (HO4.out.setS (q := pb) (i := 1) (by unfold SX; omega) (.int .i64 ((kk : Int) + 1)))
        have FT := Lib.hid (HF4.out.setCell (p := ⟨pb, 1, none⟩) (.inr rfl) (.int .i64 ((kk : Int) + 1)))
        clear hTL HM4 HB4 HE4 HO4 HF4
        go_wp2_with fail
        refine calls_gen (P := fun W => DS W pb D (.good us1.tail) ∧ Bx W w.heap.size 32 zc4 ∧ Bx W w1.heap.size 32 v.c ∧ FOT 32 W (SX (w.heap.size + 1) w1.heap.size W.heap.size) r.1 v ∧ Fx (X1 pb) w W) ⟨MT.out, BT.out, ET.out, OT.out.wide (fun j _ hj => ⟨hj.1, by have := hj.2.1; simp; omega, hj.2.2⟩), FT.out⟩ ?_
        clear hk1 fk hlk MT BT ET OT FT
        rintro WT ⟨hM, hB, hE, hO, hF⟩
        refine (HFF.out WT pb _ _ _ (by decide) rfl hM).mono ?_
        rintro e w9 ⟨v9, rfl, hO9, hM9, hF9⟩
        have hz9 := hF9.size
        have hlET := hE.lt
        have hzT := hF.size
        have HM9 := Lib.hid hM9
        have hB9 := hB.fx hF9 (x1_no hpn)
        have hE9 := hE.fx hF9 (x1_no (by omega))
        have HB9 := Lib.hid hB9
        have HE9 := Lib.hid hE9
        have HO9 := Lib.hid ((hO.fx hF9 (fun j hj => x1_no (by unfold SX at hj; omega))).wide (T := SX (w.heap.size + 1) w1.heap.size w9.heap.size) (fun j _ hj => ⟨hj.1, by have := hj.2.1; omega, hj.2.2⟩))
        have HP9 := Lib.hid (hO9.wide (T := SX (w.heap.size + 1) w1.heap.size w9.heap.size) (fun j _ hj => ⟨by have := hj.1; omega, hj.2, by have := hj.1; omega⟩))
        have HF9 := Lib.hid (hF.trans hF9)
        obtain ⟨e0, e1, e2, e3⟩ := Bx.cells4 hE9
        obtain ⟨t0, t1, t2, t3⟩ := Bx.frozen4 hE9
        have hlE9 := hE9.lt
        obtain ⟨b0, b1, b2, b3⟩ := Bx.cells4 hB9
        obtain ⟨y0, y1, y2, y3⟩ := Bx.frozen4 hB9
        have hlB9 := hB9.lt
        clear hM hB hE hO hF hO9 hM9 hF9 hB9 hE9
        have HN := Lib.hid (fot_bin (W := ((((w9.setCell ⟨w1.heap.size, 0, none⟩ (.string ⟨(hd us1).text.toArray⟩)).setCell ⟨w1.heap.size, 1, none⟩ (.string ⟨#[]⟩)).setCell ⟨w1.heap.size, 2, none⟩ (.slice (some ⟨w9.heap.size + 1, 0, none⟩) 2 2)).setCell ⟨w1.heap.size, 3, none⟩ (.int .i64 v.p)).alloc (.cells #[.string v9.o, .string v9.nm, .slice v9.A v9.ll v9.cap, .int .i64 v9.p] 32)) (T := SX (w.heap.size + 1) w1.heap.size (w9.heap.size + 2)) (hd us1).text (g := w9.heap.size + 1) (by simp) ((HO9.out.setS4 (by unfold SX; omega)).alloc (.cells #[.string v9.o, .string v9.nm, .slice v9.A v9.ll v9.cap, .int .i64 v9.p] 32)) ((HP9.out.setS4 (by unfold SX; omega)).alloc (.cells #[.string v9.o, .string v9.nm, .slice v9.A v9.ll v9.cap, .int .i64 v9.p] 32)) (fun j _ hj => ⟨hj.1, by have := hj.2.1; omega, hj.2.2⟩) ⟨by omega, by omega, by omega⟩)
        obtain ⟨g1, g2⟩ := left_go (k := 2) (r := r) HRK.out (by rw [HST.out]; exact HSP.out)
        rw [HST.out] at g1 g2
        have HLT := Lib.hid (show (F (.good us1.tail)).2.len < r.2.len by rw [HST.out]; exact g2)
        have HQ := Lib.hid (show leftT 2 F (binO (hd us1).text r.1 (F (.good us1.tail)).1, (F (.good us1.tail)).2) = tot by rw [← HTT.out]; unfold leftT; rw [HST.out]; exact g1.symm)
        clear g1 g2
        have HR9 := Lib.hid (show RdRel w pb D w1.heap.size (leftT 2 F) tot (F (.good us1.tail)).2.len ((((((w9.setCell ⟨w1.heap.size, 0, none⟩ (.string ⟨(hd us1).text.toArray⟩)).setCell ⟨w1.heap.size, 1, none⟩ (.string ⟨#[]⟩)).setCell ⟨w1.heap.size, 2, none⟩ (.slice (some ⟨w9.heap.size + 1, 0, none⟩) 2 2)).setCell ⟨w1.heap.size, 3, none⟩ (.int .i64 v.p)).alloc (.cells #[.string v9.o, .string v9.nm, .slice v9.A v9.ll v9.cap, .int .i64 v9.p] 32)).alloc (.cells #[.string v.o, .string v.nm, .slice v.A v.ll v.cap, .int .i64 v.p, .string v9.o, .string v9.nm, .slice v9.A v9.ll v9.cap, .int .i64 v9.p] 32)) from
          ⟨_, ⟨⟨(hd us1).text.toArray⟩, ⟨#[]⟩, some ⟨w9.heap.size + 1, 0, none⟩, 2, 2, v.p⟩, HQ.out, rfl, ((HM9.out.setR HE9.out).alloc (.cells #[.string v9.o, .string v9.nm, .slice v9.A v9.ll v9.cap, .int .i64 v9.p] 32)).alloc (.cells #[.string v.o, .string v.nm, .slice v.A v.ll v.cap, .int .i64 v.p, .string v9.o, .string v9.nm, .slice v9.A v9.ll v9.cap, .int .i64 v9.p] 32), ((HB9.out.far4 (by omega)).alloc (.cells #[.string v9.o, .string v9.nm, .slice v9.A v9.ll v9.cap, .int .i64 v9.p] 32)).alloc (.cells #[.string v.o, .string v.nm, .slice v.A v.ll v.cap, .int .i64 v.p, .string v9.o, .string v9.nm, .slice v9.A v9.ll v9.cap, .int .i64 v9.p] 32), ((Bx.set4 HE9.out).alloc (.cells #[.string v9.o, .string v9.nm, .slice v9.A v9.ll v9.cap, .int .i64 v9.p] 32)).alloc (.cells #[.string v.o, .string v.nm, .slice v.A v.ll v.cap, .int .i64 v.p, .string v9.o, .string v9.nm, .slice v9.A v9.ll v9.cap, .int .i64 v9.p] 32), HN.out.wide (fun j _ hj => ⟨hj.1, by have := hj.2.1; simp; omega, hj.2.2⟩), ((HF9.out.set4 (.inl (by omega))).alloc (.cells #[.string v9.o, .string v9.nm, .slice v9.A v9.ll v9.cap, .int .i64 v9.p] 32)).alloc (.cells #[.string v.o, .string v.nm, .slice v.A v.ll v.cap, .int .i64 v.p, .string v9.o, .string v9.nm, .slice v9.A v9.ll v9.cap, .int .i64 v9.p] 32), hlt⟩)
        go_wp2
        go_roundg (F (.good us1.tail)).2.len
        case measure => exact HLT.out
        case rel => exact HR9.out
      | false =>
        have HI0 := Lib.hid (show isT (hd us1) (⟨#[38]⟩ : ByteArray).data.toList = false from hi0)
        have HSP := Lib.hid (show sp 2 (hd us1) = false by simp [sp_2, hi0])
        clear hi0
        go_wp2_with fail
        refine (ris_any HM3.out ⟨#[38]⟩).mono ?_
        rintro e w3 ⟨rfl, hb3⟩
        rw [HI0.out]
        have HM4 := Lib.hid (HM3.out.below hb3)
        have HB4 := Lib.hid (HB3.out.below hb3)
        have HE4 := Lib.hid (HE3.out.below hb3)
        have HO4 := Lib.hid (HO3.out.below hb3)
        have HF4 := Lib.hid (HF3.out.on hb3)
        have hz3 := hb3.size
        clear hb3
        have hle4 := HM4.out.lt
        obtain ⟨e0, e1, e2, e3⟩ := Bx.cells4 HE4.out
        have hlE2 := HE4.out.lt
        obtain ⟨b0, b1, b2, b3⟩ := Bx.cells4 HB4.out
        obtain ⟨y0, y1, y2, y3⟩ := Bx.frozen4 HB4.out
        have hlB2 := HB4.out.lt
        have HQ := Lib.hid (show tot = r ∧ tot.2 = .good us1 by
          have : tot = r := by rw [← HTT.out]; exact leftT_no (by rw [HST.out]; exact HSP.out)
          exact ⟨this, by rw [this, HST.out]⟩)
        go_wp2
        obtain ⟨d0, d1, d2, d3⟩ := (Bx.set4 (x0 := .string v.o) (x1 := .string v.nm) (x2 := .slice v.A v.ll v.cap) (x3 := .int .i64 v.p) HB4.out).cells4
        refine bodyPost_ret (v := .agg #[.string v.o, .string v.nm, .slice v.A v.ll v.cap, .int .i64 v.p]) (by simp [results, Tryz.results27, go_sem, d0, d1, d2, d3]) rfl ⟨v, rfl, ?_, ?_, ?_⟩
        · rw [HQ.out.1]; exact (HO4.out.setS4 (by unfold SX; omega)).wide (fun j _ hj => ⟨hj.1, by have := hj.2.1; simp; omega⟩)
        · rw [HQ.out.2]; exact HM4.out.setR HB4.out
        · exact HF4.out.set4 (.inl (Nat.le_refl _))

set_option maxHeartbeats 8000000 in
set_option maxRecDepth 100000 in
theorem rfread_3 {us : List Tok} {lev : Nat} {F G : St → RF} (hlev : lev ≤ D) (hdm : D ≤ 64) (hF : RDC 4 lev D F) (hG : RDC 3 (lev + 1) D G) (w : World) (h : DS w pb D (.good us)) : Calls Tryz.prog 27 #[.pointer (some ⟨pb, 0, none⟩), .int .i64 3, .int .i64 (lev : Int)] w (DFP pb D (rightT 3 G (F (.good us))) w) := by
  have hl := h.lt
  have H := Lib.hid h
  have HL := Lib.hid hlev
  have HFF := Lib.hid hF
  have HGG := Lib.hid hG
  have hlm : lev ≤ 64 := by omega
  obtain ⟨tot, htot⟩ : ∃ tot, tot = rightT 3 G (F (.good us)) := ⟨_, rfl⟩
  rw [← htot]
  have HT := Lib.hid htot
  have hf1 := fieldr1
  clear h hlev hF hG htot
  go_enter Tryz.func27, Tryz.ntmps27
  go_wp2_with fail
  refine calls_gen (P := fun W => DS W pb D (.good us) ∧ Bx W w.heap.size 32 zc4 ∧ Fx (X1 pb) w W) ⟨H.out.alloc _, Bx.new w 32 zc4, (Fx.refl _ _).alloc _⟩ ?_
  rintro W ⟨hM, hB, hF⟩
  refine (rfdeep_ok hM HL.out).mono ?_
  rintro e w0 ⟨rfl, rfl⟩
  have hs := hB.lt
  have HM := Lib.hid hM
  have HB := Lib.hid hB
  have HF := Lib.hid hF
  clear hM hB hF
  go_wp2_with fail
  refine (HFF.out W pb _ _ _ (by decide) rfl HM.out).mono ?_
  rintro e w1 ⟨v1, rfl, hO, hM1, hF1⟩
  have hz1 := hF1.size
  have HR0 := Lib.hid (show RdRel w pb D w1.heap.size (rightT 3 G) tot (F (.good us)).2.len (w1.alloc (.cells #[.string v1.o, .string v1.nm, .slice v1.A v1.ll v1.cap, .int .i64 v1.p] 32)) from
    ⟨_, v1, HT.out.symm, rfl, hM1.alloc _, (HB.out.fx hF1 (x1_no hl)).alloc _, Bx.new w1 32 v1.c, (hO.alloc _).wide (fun j _ hj => ⟨by have := hj.1; omega, by have := hj.2; simp; omega, by have := hj.2; omega⟩), (HF.out.trans hF1).alloc _, by omega⟩)
  clear hM1 hF1 hO HM HB HF
  go_wp2
  go_loopg [] (F (.good us)).2.len (fun gk wr => RdRel w pb D w1.heap.size (rightT 3 G) tot gk wr)
  case atStart => exact HR0.out
  case round =>
    clear HR0
    obtain ⟨r, v, hT, rfl, hM, hB, hE, hO, hF, hlt⟩ := hrel
    have HTT := Lib.hid hT
    have hle := hM.lt
    have hlE := hE.lt
    have hlB := hB.lt
    obtain ⟨e0, e1, e2, e3⟩ := Bx.cells4 hE
    obtain ⟨t0, t1, t2, t3⟩ := Bx.frozen4 hE
    obtain ⟨x2, x3, _⟩ := hM.cells
    cases hst : r.2 with
    | bad c q =>
      rw [hst] at hM x3
      have hc : c ≠ 0 := hM.1
      replace x3 : wr.cell? ⟨pb, 3, none⟩ = some (.int .i64 (c : Int)) := x3
      have g0 : ((c : Int) == 0) = false := by rw [beq_eq_false_iff_ne]; omega
      have HQ := Lib.hid (show tot = r ∧ tot.2 = .bad c q by
        have : tot = r := by rw [← HTT.out]; exact rightT_no (by rw [hst]; exact sp_end rfl 3)
        exact ⟨this, by rw [this, hst]⟩)
      have HM2 := Lib.hid hM
      have HB2 := Lib.hid hB
      have HO2 := Lib.hid hO
      have HF2 := Lib.hid hF
      obtain ⟨b0, b1, b2, b3⟩ := Bx.cells4 hB
      obtain ⟨y0, y1, y2, y3⟩ := Bx.frozen4 hB
      clear hM hB hE hO hF hT hst hc
      go_wp2
      obtain ⟨d0, d1, d2, d3⟩ := (Bx.set4 (x0 := .string v.o) (x1 := .string v.nm) (x2 := .slice v.A v.ll v.cap) (x3 := .int .i64 v.p) HB2.out).cells4
      refine bodyPost_ret (v := .agg #[.string v.o, .string v.nm, .slice v.A v.ll v.cap, .int .i64 v.p]) (by simp [results, Tryz.results27, go_sem, d0, d1, d2, d3]) rfl ⟨v, rfl, ?_, ?_, ?_⟩
      · rw [HQ.out.1]; exact (HO2.out.setS4 (by unfold SX; omega)).wide (fun j _ hj => ⟨hj.1, by have := hj.2.1; simpa using this⟩)
      · rw [HQ.out.2]; exact HM2.out.setR HB2.out
      · exact HF2.out.set4 (.inl (Nat.le_refl _))
    | good us1 =>
      rw [hst] at hM x3
      replace x3 : wr.cell? ⟨pb, 3, none⟩ = some (.int .i64 ((0 : Nat) : Int)) := x3
      have HM2 := Lib.hid hM
      have HB2 := Lib.hid hB
      have HE2 := Lib.hid hE
      have HO2 := Lib.hid hO
      have HF2 := Lib.hid hF
      have HST := Lib.hid hst
      have hpn : pb < w.heap.size := hl
      clear hM hB hE hO hF hT hst
      go_wp2_with fail
      refine (rnow_any HM2.out).mono ?_
      rintro e w2 ⟨rfl, hb2⟩
      have HM3 := Lib.hid (HM2.out.below hb2)
      have HB3 := Lib.hid (HB2.out.below hb2)
      have HE3 := Lib.hid (HE2.out.below hb2)
      have HO3 := Lib.hid (HO2.out.below hb2)
      have HF3 := Lib.hid (HF2.out.on hb2)
      have hz2 := hb2.size
      clear hb2 HM2 HB2 HE2 HO2 HF2 x3 x2 e0 e1 e2 e3 t0 t1 t2 t3
      cases hi0 : isT (hd us1) [85] with
      | true =>
        have HI0 := Lib.hid (show isT (hd us1) (⟨#[85]⟩ : ByteArray).data.toList = true from hi0)
        have HSP := Lib.hid (show sp 3 (hd us1) = true by rw [sp_3]; simp [hi0])
        clear hi0
        go_wp2_with fail
        refine (ris_any HM3.out ⟨#[85]⟩).mono ?_
        rintro e w3 ⟨rfl, hb3⟩
        rw [HI0.out]
        have HM4 := Lib.hid (HM3.out.below hb3)
        have HB4 := Lib.hid (HB3.out.below hb3)
        have HE4 := Lib.hid (HE3.out.below hb3)
        have HO4 := Lib.hid (HO3.out.below hb3)
        have HF4 := Lib.hid (HF3.out.on hb3)
        have hz3 := hb3.size
        clear hb3
        obtain ⟨kk, hk1, hk2, hTL⟩ := HM4.out.tailS (sp_kind HSP.out).1
        have fk := HM4.out.cells.2.2 1
        have hlk := HM4.out.lt
        have hne1 : w.heap.size ≠ pb := by omega
        have hne2 : w1.heap.size ≠ pb := by omega
        have MT := Lib.hid hTL
        have BT := Lib.hid (HB4.out.far (p := ⟨pb, 1, none⟩) hne1 (.int .i64 ((kk : Int) + 1)))
        have ET := Lib.hid (HE4.out.far (p := ⟨pb, 1, none⟩) hne2 (.int .i64 ((kk : Int) + 1)))
        have OT := Lib.hid (HO4.out.setS (q := pb) (i := 1) (by unfold SX; omega) (.int .i64 ((kk : Int) + 1)))
        have FT := Lib.hid (HF4.out.setCell (p := ⟨pb, 1, none⟩) (.inr rfl) (.int .i64 ((kk : Int) + 1)))
        clear hTL HM4 HB4 HE4 HO4 HF4
        go_wp2_with fail
        refine calls_gen (P := fun W => DS W pb D (.good us1.tail) ∧ Bx W w.heap.size 32 zc4 ∧ Bx W w1.heap.size 32 v.c ∧ FOT 32 W (SX (w.heap.size + 1) w1.heap.size W.heap.size) r.1 v ∧ Fx (X1 pb) w W) ⟨MT.out, BT.out, ET.out, OT.out.wide (fun j _ hj => ⟨hj.1, by have := hj.2.1; simp; omega, hj.2.2⟩), FT.out⟩ ?_
        clear hk1 fk hlk MT BT ET OT FT
        rintro WT ⟨hM, hB, hE, hO, hF⟩
        refine (HGG.out WT pb _ _ _ (by decide) (by push_cast; rfl) hM).mono ?_
        rintro e w9 ⟨v9, rfl, hO9, hM9, hF9⟩
        have hz9 := hF9.size
        have hlET := hE.lt
        have hzT := hF.size
        have HM9 := Lib.hid hM9
        have hB9 := hB.fx hF9 (x1_no hpn)
        have hE9 := hE.fx hF9 (x1_no (by omega))
        have HB9 := Lib.hid hB9
        have HE9 := Lib.hid hE9
        have HO9 := Lib.hid ((hO.fx hF9 (fun j hj => x1_no (by unfold SX at hj; omega))).wide (T := SX (w.heap.size + 1) w1.heap.size w9.heap.size) (fun j _ hj => ⟨hj.1, by have := hj.2.1; omega, hj.2.2⟩))
        have HP9 := Lib.hid (hO9.wide (T := SX (w.heap.size + 1) w1.heap.size w9.heap.size) (fun j _ hj => ⟨by have := hj.1; omega, hj.2, by have := hj.1; omega⟩))
        have HF9 := Lib.hid (hF.trans hF9)
        obtain ⟨e0, e1, e2, e3⟩ := Bx.cells4 hE9
        obtain ⟨t0, t1, t2, t3⟩ := Bx.frozen4 hE9
        have hlE9 := hE9.lt
        obtain ⟨b0, b1, b2, b3⟩ := Bx.cells4 hB9
        obtain ⟨y0, y1, y2, y3⟩ := Bx.frozen4 hB9
        have hlB9 := hB9.lt
        clear hM hB hE hO hF hO9 hM9 hF9 hB9 hE9
        have HN := Lib.hid (fot_bin (W := ((((w9.setCell ⟨w.heap.size, 0, none⟩ (.string ⟨(hd us1).text.toArray⟩)).setCell ⟨w.heap.size, 1, none⟩ (.string ⟨#[]⟩)).setCell ⟨w.heap.size, 2, none⟩ (.slice (some ⟨w9.heap.size + 1, 0, none⟩) 2 2)).setCell ⟨w.heap.size, 3, none⟩ (.int .i64 v.p)).alloc (.cells #[.string v9.o, .string v9.nm, .slice v9.A v9.ll v9.cap, .int .i64 v9.p] 32)) (T := SX (w.heap.size + 1) w1.heap.size (w9.heap.size + 2)) (hd us1).text (g := w9.heap.size + 1) (by simp) ((HO9.out.setS4 (by unfold SX; omega)).alloc (.cells #[.string v9.o, .string v9.nm, .slice v9.A v9.ll v9.cap, .int .i64 v9.p] 32)) ((HP9.out.setS4 (by unfold SX; omega)).alloc (.cells #[.string v9.o, .string v9.nm, .slice v9.A v9.ll v9.cap, .int .i64 v9.p] 32)) (fun j _ hj => ⟨hj.1, by have := hj.2.1; omega, hj.2.2⟩) ⟨by omega, by omega, by omega⟩)
        have HQ := Lib.hid (show tot = (binO (hd us1).text r.1 (G (.good us1.tail)).1, (G (.good us1.tail)).2) by rw [← HTT.out, rightT_yes (by rw [HST.out]; exact HSP.out), HST.out]; rfl)
        go_wp2
        obtain ⟨d0, d1, d2, d3⟩ := (((Bx.set4 (x0 := .string ⟨(hd us1).text.toArray⟩) (x1 := .string ⟨#[]⟩) (x2 := .slice (some ⟨w9.heap.size + 1, 0, none⟩) 2 2) (x3 := .int .i64 v.p) HB9.out).alloc (.cells #[.string v9.o, .string v9.nm, .slice v9.A v9.ll v9.cap, .int .i64 v9.p] 32)).alloc (.cells #[.string v.o, .string v.nm, .slice v.A v.ll v.cap, .int .i64 v.p, .string v9.o, .string v9.nm, .slice v9.A v9.ll v9.cap, .int .i64 v9.p] 32)).cells4
        rw [HQ.out]
        refine bodyPost_ret (v := .agg #[.string ⟨(hd us1).text.toArray⟩, .string ⟨#[]⟩, .slice (some ⟨w9.heap.size + 1, 0, none⟩) 2 2, .int .i64 v.p]) (by simp [results, Tryz.results27, go_sem, d0, d1, d2, d3]) rfl ⟨⟨⟨(hd us1).text.toArray⟩, ⟨#[]⟩, some ⟨w9.heap.size + 1, 0, none⟩, 2, 2, v.p⟩, rfl, ?_, ?_, ?_⟩
        · exact HN.out.wide (fun j _ hj => ⟨hj.1, by have := hj.2.1; simp; omega⟩)
        · exact ((HM9.out.setR HB9.out).alloc (.cells #[.string v9.o, .string v9.nm, .slice v9.A v9.ll v9.cap, .int .i64 v9.p] 32)).alloc (.cells #[.string v.o, .string v.nm, .slice v.A v.ll v.cap, .int .i64 v.p, .string v9.o, .string v9.nm, .slice v9.A v9.ll v9.cap, .int .i64 v9.p] 32)
        · exact ((HF9.out.set4 (.inl (Nat.le_refl _))).alloc (.cells #[.string v9.o, .string v9.nm, .slice v9.A v9.ll v9.cap, .int .i64 v9.p] 32)).alloc (.cells #[.string v.o, .string v.nm, .slice v.A v.ll v.cap, .int .i64 v.p, .string v9.o, .string v9.nm, .slice v9.A v9.ll v9.cap, .int .i64 v9.p] 32)
      | false =>
        cases hi1 : isT (hd us1) [87] with
        | true =>
          have HI0 := Lib.hid (show isT (hd us1) (⟨#[85]⟩ : ByteArray).data.toList = false from hi0)
          have HI1 := Lib.hid (show isT (hd us1) (⟨#[87]⟩ : ByteArray).data.toList = true from hi1)
          have HSP := Lib.hid (show sp 3 (hd us1) = true by rw [sp_3]; simp [hi1])
          clear hi0 hi1
          go_wp2_with fail
          refine (ris_any HM3.out ⟨#[85]⟩).mono ?_
          rintro e w3 ⟨rfl, hb3⟩
          rw [HI0.out]
          have HM4 := Lib.hid (HM3.out.below hb3)
          have HB4 := Lib.hid (HB3.out.below hb3)
          have HE4 := Lib.hid (HE3.out.below hb3)
          have HO4 := Lib.hid (HO3.out.below hb3)
          have HF4 := Lib.hid (HF3.out.on hb3)
          have hz3 := hb3.size
          clear hb3
          go_wp2_with fail
          refine (ris_any HM4.out ⟨#[87]⟩).mono ?_
          rintro e w4 ⟨rfl, hb4⟩
          rw [HI1.out]
          have HM5 := Lib.hid (HM4.out.below hb4)
          have HB5 := Lib.hid (HB4.out.below hb4)
          have HE5 := Lib.hid (HE4.out.below hb4)
          have HO5 := Lib.hid (HO4.out.below hb4)
          have HF5 := Lib.hid (HF4.out.on hb4)
          have hz4 := hb4.size
          clear hb4
          obtain ⟨kk, hk1, hk2, hTL⟩ := HM5.out.tailS (sp_kind HSP.out).1
          have fk := HM5.out.cells.2.2 1
          have hlk := HM5.out.lt
          have hne1 : w.heap.size ≠ pb := by omega
          have hne2 : w1.heap.size ≠ pb := by omega
          have MT := Lib.hid hTL
          have BT := Lib.hid (HB5.out.far (p := ⟨pb, 1, none⟩) hne1 (.int .i64 ((kk : Int) + 1)))
          have ET := Lib.hid (HE5.out.far (p := ⟨pb, 1, none⟩) hne2 (.int .i64 ((kk : Int) + 1)))
          have OT := Lib.hid (HO5.out.setS (q := pb) (i := 1) (by unfold SX; omega) (.int .i64 ((kk : Int) + 1)))
          have FT := Lib.hid (HF5.out.setCell (p := ⟨pb, 1, none⟩) (.inr rfl) (.int .i64 ((kk : Int) + 1)))
          clear hTL HM5 HB5 HE5 HO5 HF5
          go_wp2_with fail
          refine calls_gen (P := fun W => DS W pb D (.good us1.tail) ∧ Bx W w.heap.size 32 zc4 ∧ Bx W w1.heap.size 32 v.c ∧ FOT 32 W (SX (w.heap.size + 1) w1.heap.size W.heap.size) r.1 v ∧ Fx (X1 pb) w W) ⟨MT.out, BT.out, ET.out, OT.out.wide (fun j _ hj => ⟨hj.1, by have := hj.2.1; simp; omega, hj.2.2⟩), FT.out⟩ ?_
          clear hk1 fk hlk MT BT ET OT FT
          rintro WT ⟨hM, hB, hE, hO, hF⟩
          refine (HGG.out WT pb _ _ _ (by decide) (by push_cast; rfl) hM).mono ?_
          rintro e w9 ⟨v9, rfl, hO9, hM9, hF9⟩
          have hz9 := hF9.size
          have hlET := hE.lt
          have hzT := hF.size
          have HM9 := Lib.hid hM9
          have hB9 := hB.fx hF9 (x1_no hpn)
          have hE9 := hE.fx hF9 (x1_no (by omega))
          have HB9 := Lib.hid hB9
          have HE9 := Lib.hid hE9
          have HO9 := Lib.hid ((hO.fx hF9 (fun j hj => x1_no (by unfold SX at hj; omega))).wide (T := SX (w.heap.size + 1) w1.heap.size w9.heap.size) (fun j _ hj => ⟨hj.1, by have := hj.2.1; omega, hj.2.2⟩))
          have HP9 := Lib.hid (hO9.wide (T := SX (w.heap.size + 1) w1.heap.size w9.heap.size) (fun j _ hj => ⟨by have := hj.1; omega, hj.2, by have := hj.1; omega⟩))
          have HF9 := Lib.hid (hF.trans hF9)
          obtain ⟨e0, e1, e2, e3⟩ := Bx.cells4 hE9
          obtain ⟨t0, t1, t2, t3⟩ := Bx.frozen4 hE9
          have hlE9 := hE9.lt
          obtain ⟨b0, b1, b2, b3⟩ := Bx.cells4 hB9
          obtain ⟨y0, y1, y2, y3⟩ := Bx.frozen4 hB9
          have hlB9 := hB9.lt
          clear hM hB hE hO hF hO9 hM9 hF9 hB9 hE9
          have HN := Lib.hid (fot_bin (W := ((((w9.setCell ⟨w.heap.size, 0, none⟩ (.string ⟨(hd us1).text.toArray⟩)).setCell ⟨w.heap.size, 1, none⟩ (.string ⟨#[]⟩)).setCell ⟨w.heap.size, 2, none⟩ (.slice (some ⟨w9.heap.size + 1, 0, none⟩) 2 2)).setCell ⟨w.heap.size, 3, none⟩ (.int .i64 v.p)).alloc (.cells #[.string v9.o, .string v9.nm, .slice v9.A v9.ll v9.cap, .int .i64 v9.p] 32)) (T := SX (w.heap.size + 1) w1.heap.size (w9.heap.size + 2)) (hd us1).text (g := w9.heap.size + 1) (by simp) ((HO9.out.setS4 (by unfold SX; omega)).alloc (.cells #[.string v9.o, .string v9.nm, .slice v9.A v9.ll v9.cap, .int .i64 v9.p] 32)) ((HP9.out.setS4 (by unfold SX; omega)).alloc (.cells #[.string v9.o, .string v9.nm, .slice v9.A v9.ll v9.cap, .int .i64 v9.p] 32)) (fun j _ hj => ⟨hj.1, by have := hj.2.1; omega, hj.2.2⟩) ⟨by omega, by omega, by omega⟩)
          have HQ := Lib.hid (show tot = (binO (hd us1).text r.1 (G (.good us1.tail)).1, (G (.good us1.tail)).2) by rw [← HTT.out, rightT_yes (by rw [HST.out]; exact HSP.out), HST.out]; rfl)
          go_wp2
          obtain ⟨d0, d1, d2, d3⟩ := (((Bx.set4 (x0 := .string ⟨(hd us1).text.toArray⟩) (x1 := .string ⟨#[]⟩) (x2 := .slice (some ⟨w9.heap.size + 1, 0, none⟩) 2 2) (x3 := .int .i64 v.p) HB9.out).alloc (.cells #[.string v9.o, .string v9.nm, .slice v9.A v9.ll v9.cap, .int .i64 v9.p] 32)).alloc (.cells #[.string v.o, .string v.nm, .slice v.A v.ll v.cap, .int .i64 v.p, .string v9.o, .string v9.nm, .slice v9.A v9.ll v9.cap, .int .i64 v9.p] 32)).cells4
          rw [HQ.out]
          refine bodyPost_ret (v := .agg #[.string ⟨(hd us1).text.toArray⟩, .string ⟨#[]⟩, .slice (some ⟨w9.heap.size + 1, 0, none⟩) 2 2, .int .i64 v.p]) (by simp [results, Tryz.results27, go_sem, d0, d1, d2, d3]) rfl ⟨⟨⟨(hd us1).text.toArray⟩, ⟨#[]⟩, some ⟨w9.heap.size + 1, 0, none⟩, 2, 2, v.p⟩, rfl, ?_, ?_, ?_⟩
          · exact HN.out.wide (fun j _ hj => ⟨hj.1, by have := hj.2.1; simp; omega⟩)
          · exact ((HM9.out.setR HB9.out).alloc (.cells #[.string v9.o, .string v9.nm, .slice v9.A v9.ll v9.cap, .int .i64 v9.p] 32)).alloc (.cells #[.string v.o, .string v.nm, .slice v.A v.ll v.cap, .int .i64 v.p, .string v9.o, .string v9.nm, .slice v9.A v9.ll v9.cap, .int .i64 v9.p] 32)
          · exact ((HF9.out.set4 (.inl (Nat.le_refl _))).alloc (.cells #[.string v9.o, .string v9.nm, .slice v9.A v9.ll v9.cap, .int .i64 v9.p] 32)).alloc (.cells #[.string v.o, .string v.nm, .slice v.A v.ll v.cap, .int .i64 v.p, .string v9.o, .string v9.nm, .slice v9.A v9.ll v9.cap, .int .i64 v9.p] 32)
        | false =>
          cases hi2 : isT (hd us1) [82] with
          | true =>
            have HI0 := Lib.hid (show isT (hd us1) (⟨#[85]⟩ : ByteArray).data.toList = false from hi0)
            have HI1 := Lib.hid (show isT (hd us1) (⟨#[87]⟩ : ByteArray).data.toList = false from hi1)
            have HI2 := Lib.hid (show isT (hd us1) (⟨#[82]⟩ : ByteArray).data.toList = true from hi2)
            have HSP := Lib.hid (show sp 3 (hd us1) = true by rw [sp_3]; simp [hi2])
            clear hi0 hi1 hi2
            go_wp2_with fail
            refine (ris_any HM3.out ⟨#[85]⟩).mono ?_
            rintro e w3 ⟨rfl, hb3⟩
            rw [HI0.out]
            have HM4 := Lib.hid (HM3.out.below hb3)
            have HB4 := Lib.hid (HB3.out.below hb3)
            have HE4 := Lib.hid (HE3.out.below hb3)
            have HO4 := Lib.hid (HO3.out.below hb3)
            have HF4 := Lib.hid (HF3.out.on hb3)
            have hz3 := hb3.size
            clear hb3
            go_wp2_with fail
            refine (ris_any HM4.out ⟨#[87]⟩).mono ?_
            rintro e w4 ⟨rfl, hb4⟩
            rw [HI1.out]
            have HM5 := Lib.hid (HM4.out.below hb4)
            have HB5 := Lib.hid (HB4.out.below hb4)
            have HE5 := Lib.hid (HE4.out.below hb4)
            have HO5 := Lib.hid (HO4.out.below hb4)
            have HF5 := Lib.hid (HF4.out.on hb4)
            have hz4 := hb4.size
            clear hb4
            go_wp2_with fail
            refine (ris_any HM5.out ⟨#[82]⟩).mono ?_
            rintro e w5 ⟨rfl, hb5⟩
            rw [HI2.out]
            have HM6 := Lib.hid (HM5.out.below hb5)
            have HB6 := Lib.hid (HB5.out.below hb5)
            have HE6 := Lib.hid (HE5.out.below hb5)
            have HO6 := Lib.hid (HO5.out.below hb5)
            have HF6 := Lib.hid (HF5.out.on hb5)
            have hz5 := hb5.size
            clear hb5
            obtain ⟨kk, hk1, hk2, hTL⟩ := HM6.out.tailS (sp_kind HSP.out).1
            have fk := HM6.out.cells.2.2 1
            have hlk := HM6.out.lt
            have hne1 : w.heap.size ≠ pb := by omega
            have hne2 : w1.heap.size ≠ pb := by omega
            have MT := Lib.hid hTL
            have BT := Lib.hid (HB6.out.far (p := ⟨pb, 1, none⟩) hne1 (.int .i64 ((kk : Int) + 1)))
            have ET := Lib.hid (HE6.out.far (p := ⟨pb, 1, none⟩) hne2 (.int .i64 ((kk : Int) + 1)))
            have OT := Lib.hid (HO6.out.setS (q := pb) (i := 1) (by unfold SX; omega) (.int .i64 ((kk : Int) + 1)))
            have FT := Lib.hid (HF6.out.setCell (p := ⟨pb, 1, none⟩) (.inr rfl) (.int .i64 ((kk : Int) + 1)))
            clear hTL HM6 HB6 HE6 HO6 HF6
            go_wp2_with fail
            refine calls_gen (P := fun W => DS W pb D (.good us1.tail) ∧ Bx W w.heap.size 32 zc4 ∧ Bx W w1.heap.size 32 v.c ∧ FOT 32 W (SX (w.heap.size + 1) w1.heap.size W.heap.size) r.1 v ∧ Fx (X1 pb) w W) ⟨MT.out, BT.out, ET.out, OT.out.wide (fun j _ hj => ⟨hj.1, by have := hj.2.1; simp; omega, hj.2.2⟩), FT.out⟩ ?_
            clear hk1 fk hlk MT BT ET OT FT
            rintro WT ⟨hM, hB, hE, hO, hF⟩
            refine (HGG.out WT pb _ _ _ (by decide) (by push_cast; rfl) hM).mono ?_
            rintro e w9 ⟨v9, rfl, hO9, hM9, hF9⟩
            have hz9 := hF9.size
            have hlET := hE.lt
            have hzT := hF.size
            have HM9 := Lib.hid hM9
            have hB9 := hB.fx hF9 (x1_no hpn)
            have hE9 := hE.fx hF9 (x1_no (by omega))
            have HB9 := Lib.hid hB9
            have HE9 := Lib.hid hE9
            have HO9 := Lib.hid ((hO.fx hF9 (fun j hj => x1_no (by unfold SX at hj; omega))).wide (T := SX (w.heap.size + 1) w1.heap.size w9.heap.size) (fun j _ hj => ⟨hj.1, by have := hj.2.1; omega, hj.2.2⟩))
            have HP9 := Lib.hid (hO9.wide (T := SX (w.heap.size + 1) w1.heap.size w9.heap.size) (fun j _ hj => ⟨by have := hj.1; omega, hj.2, by have := hj.1; omega⟩))
            have HF9 := Lib.hid (hF.trans hF9)
            obtain ⟨e0, e1, e2, e3⟩ := Bx.cells4 hE9
            obtain ⟨t0, t1, t2, t3⟩ := Bx.frozen4 hE9
            have hlE9 := hE9.lt
            obtain ⟨b0, b1, b2, b3⟩ := Bx.cells4 hB9
            obtain ⟨y0, y1, y2, y3⟩ := Bx.frozen4 hB9
            have hlB9 := hB9.lt
            clear hM hB hE hO hF hO9 hM9 hF9 hB9 hE9
            have HN := Lib.hid (fot_bin (W := ((((w9.setCell ⟨w.heap.size, 0, none⟩ (.string ⟨(hd us1).text.toArray⟩)).setCell ⟨w.heap.size, 1, none⟩ (.string ⟨#[]⟩)).setCell ⟨w.heap.size, 2, none⟩ (.slice (some ⟨w9.heap.size + 1, 0, none⟩) 2 2)).setCell ⟨w.heap.size, 3, none⟩ (.int .i64 v.p)).alloc (.cells #[.string v9.o, .string v9.nm, .slice v9.A v9.ll v9.cap, .int .i64 v9.p] 32)) (T := SX (w.heap.size + 1) w1.heap.size (w9.heap.size + 2)) (hd us1).text (g := w9.heap.size + 1) (by simp) ((HO9.out.setS4 (by unfold SX; omega)).alloc (.cells #[.string v9.o, .string v9.nm, .slice v9.A v9.ll v9.cap, .int .i64 v9.p] 32)) ((HP9.out.setS4 (by unfold SX; omega)).alloc (.cells #[.string v9.o, .string v9.nm, .slice v9.A v9.ll v9.cap, .int .i64 v9.p] 32)) (fun j _ hj => ⟨hj.1, by have := hj.2.1; omega, hj.2.2⟩) ⟨by omega, by omega, by omega⟩)
            have HQ := Lib.hid (show tot = (binO (hd us1).text r.1 (G (.good us1.tail)).1, (G (.good us1.tail)).2) by rw [← HTT.out, rightT_yes (by rw [HST.out]; exact HSP.out), HST.out]; rfl)
            go_wp2
            obtain ⟨d0, d1, d2, d3⟩ := (((Bx.set4 (x0 := .string ⟨(hd us1).text.toArray⟩) (x1 := .string ⟨#[]⟩) (x2 := .slice (some ⟨w9.heap.size + 1, 0, none⟩) 2 2) (x3 := .int .i64 v.p) HB9.out).alloc (.cells #[.string v9.o, .string v9.nm, .slice v9.A v9.ll v9.cap, .int .i64 v9.p] 32)).alloc (.cells #[.string v.o, .string v.nm, .slice v.A v.ll v.cap, .int .i64 v.p, .string v9.o, .string v9.nm, .slice v9.A v9.ll v9.cap, .int .i64 v9.p] 32)).cells4
            rw [HQ.out]
            refine bodyPost_ret (v := .agg #[.string ⟨(hd us1).text.toArray⟩, .string ⟨#[]⟩, .slice (some ⟨w9.heap.size + 1, 0, none⟩) 2 2, .int .i64 v.p]) (by simp [results, Tryz.results27, go_sem, d0, d1, d2, d3]) rfl ⟨⟨⟨(hd us1).text.toArray⟩, ⟨#[]⟩, some ⟨w9.heap.size + 1, 0, none⟩, 2, 2, v.p⟩, rfl, ?_, ?_, ?_⟩
            · exact HN.out.wide (fun j _ hj => ⟨hj.1, by have := hj.2.1; simp; omega⟩)
            · exact ((HM9.out.setR HB9.out).alloc (.cells #[.string v9.o, .string v9.nm, .slice v9.A v9.ll v9.cap, .int .i64 v9.p] 32)).alloc (.cells #[.string v.o, .string v.nm, .slice v.A v.ll v.cap, .int .i64 v.p, .string v9.o, .string v9.nm, .slice v9.A v9.ll v9.cap, .int .i64 v9.p] 32)
            · exact ((HF9.out.set4 (.inl (Nat.le_refl _))).alloc (.cells #[.string v9.o, .string v9.nm, .slice v9.A v9.ll v9.cap, .int .i64 v9.p] 32)).alloc (.cells #[.string v.o, .string v.nm, .slice v.A v.ll v.cap, .int .i64 v.p, .string v9.o, .string v9.nm, .slice v9.A v9.ll v9.cap, .int .i64 v9.p] 32)
          | false =>
            have HI0 := Lib.hid (show isT (hd us1) (⟨#[85]⟩ : ByteArray).data.toList = false from hi0)
            have HI1 := Lib.hid (show isT (hd us1) (⟨#[87]⟩ : ByteArray).data.toList = false from hi1)
            have HI2 := Lib.hid (show isT (hd us1) (⟨#[82]⟩ : ByteArray).data.toList = false from hi2)
            have HSP := Lib.hid (show sp 3 (hd us1) = false by simp [sp_3, hi0, hi1, hi2])
            clear hi0 hi1 hi2
            go_wp2_with fail
            refine (ris_any HM3.out ⟨#[85]⟩).mono ?_
            rintro e w3 ⟨rfl, hb3⟩
            rw [HI0.out]
            have HM4 := Lib.hid (HM3.out.below hb3)
            have HB4 := Lib.hid (HB3.out.below hb3)
            have HE4 := Lib.hid (HE3.out.below hb3)
            have HO4 := Lib.hid (HO3.out.below hb3)
            have HF4 := Lib.hid (HF3.out.on hb3)
            have hz3 := hb3.size
            clear hb3
            go_wp2_with fail
            refine (ris_any HM4.out ⟨#[87]⟩).mono ?_
            rintro e w4 ⟨rfl, hb4⟩
            rw [HI1.out]
            have HM5 := Lib.hid (HM4.out.below hb4)
            have HB5 := Lib.hid (HB4.out.below hb4)
            have HE5 := Lib.hid (HE4.out.below hb4)
            have HO5 := Lib.hid (HO4.out.below hb4)
            have HF5 := Lib.hid (HF4.out.on hb4)
            have hz4 := hb4.size
            clear hb4
            go_wp2_with fail
            refine (ris_any HM5.out ⟨#[82]⟩).mono ?_
            rintro e w5 ⟨rfl, hb5⟩
            rw [HI2.out]
            have HM6 := Lib.hid (HM5.out.below hb5)
            have HB6 := Lib.hid (HB5.out.below hb5)
            have HE6 := Lib.hid (HE5.out.below hb5)
            have HO6 := Lib.hid (HO5.out.below hb5)
            have HF6 := Lib.hid (HF5.out.on hb5)
            have hz5 := hb5.size
            clear hb5
            have hle6 := HM6.out.lt
            obtain ⟨e0, e1, e2, e3⟩ := Bx.cells4 HE6.out
            have hlE2 := HE6.out.lt
            obtain ⟨b0, b1, b2, b3⟩ := Bx.cells4 HB6.out
            obtain ⟨y0, y1, y2, y3⟩ := Bx.frozen4 HB6.out
            have hlB2 := HB6.out.lt
            have HQ := Lib.hid (show tot = r ∧ tot.2 = .good us1 by
              have : tot = r := by rw [← HTT.out]; exact rightT_no (by rw [HST.out]; exact HSP.out)
              exact ⟨this, by rw [this, HST.out]⟩)
            go_wp2
            obtain ⟨d0, d1, d2, d3⟩ := (Bx.set4 (x0 := .string v.o) (x1 := .string v.nm) (x2 := .slice v.A v.ll v.cap) (x3 := .int .i64 v.p) HB6.out).cells4
            refine bodyPost_ret (v := .agg #[.string v.o, .string v.nm, .slice v.A v.ll v.cap, .int .i64 v.p]) (by simp [results, Tryz.results27, go_sem, d0, d1, d2, d3]) rfl ⟨v, rfl, ?_, ?_, ?_⟩
            · rw [HQ.out.1]; exact (HO6.out.setS4 (by unfold SX; omega)).wide (fun j _ hj => ⟨hj.1, by have := hj.2.1; simp; omega⟩)
            · rw [HQ.out.2]; exact HM6.out.setR HB6.out
            · exact HF6.out.set4 (.inl (Nat.le_refl _))

end
end
section
open Go.RowKit Go.Sort

/-- What holds behind the first look. -/
structure AR (w W : World) (pb D tb : Nat) (st : St) (tk : Tok) : Prop where
  m : DS W pb D st
  t : Bx W tb 70 [.int .i64 (tk.kind : Int), .string ⟨tk.text.toArray⟩, .int .i64 (tk.pos : Int)]
  r : Bx W w.heap.size 32 zc4
  f : Fx (X1 pb) w W
  lt : w.heap.size < tb
  pl : pb < w.heap.size
section
variable {w W W' : World} {pb D tb : Nat} {st st' : St} {tk : Tok} {us : List Tok}
theorem AR.fx (h : AR w W pb D tb st tk) (hd : DS W' pb D st') (hf : Fx (X1 pb) W W') : AR w W' pb D tb st' tk :=
  ⟨hd, h.t.fx hf (x1_no (by have := h.lt; have := h.pl; omega)), h.r.fx hf (x1_no h.pl), h.f.trans hf, h.lt, h.pl⟩
theorem AR.below (h : AR w W pb D tb st tk) (hb : Below W.heap.size W W') : AR w W' pb D tb st tk := h.fx (h.m.below hb) (Fx.of hb)
theorem AR.tail (h : AR w W pb D tb (.good us) tk) (h0 : (hd us).kind ≠ 0) : ∃ k : Nat, W.cell? ⟨pb, 1, none⟩ = some (.int .i64 (k : Int)) ∧ k ≤ 65537 ∧ AR w (W.setCell ⟨pb, 1, none⟩ (.int .i64 ((k : Int) + 1))) pb D tb (.good us.tail) tk := by
  obtain ⟨k, h1, h2, h3⟩ := h.m.tailS h0
  exact ⟨k, h1, h2, h.fx h3 ((Fx.refl (X1 pb) W).setCell (p := ⟨pb, 1, none⟩) (.inr (show X1 pb pb from rfl)) _)⟩
theorem AR.tc (h : AR w W pb D tb st tk) : W.cell? ⟨tb, 0, none⟩ = some (.int .i64 (tk.kind : Int)) ∧ W.cell? ⟨tb, 1, none⟩ = some (.string ⟨tk.text.toArray⟩) ∧ W.cell? ⟨tb, 2, none⟩ = some (.int .i64 (tk.pos : Int)) ∧ tb < W.heap.size := ⟨h.t.cell 0, h.t.cell 1, h.t.cell 2, h.t.lt⟩
def ARP (w : World) (pb D tb : Nat) (st : St) (tk : Tok) (b : Bool) (e : Ending) (w' : World) : Prop := e = .returned (.bool b) ∧ AR w w' pb D tb st tk
theorem AR.is_ (h : AR w W pb D tb (.good us) tk) (x : ByteArray) {b : Bool} (hb : isT (hd us) x.data.toList = b) : Calls Tryz.prog 40 #[.pointer (some ⟨pb, 0, none⟩), .string x] W (ARP w pb D tb (.good us) tk b) :=
  (ris_any h.m x).mono fun _ _ ⟨h1, h2⟩ => ⟨by rw [h1, hb], h.below h2⟩
theorem AR.done (h : AR w W pb D tb st tk) {r : RF} (hr : r.2 = st) {v : FV} (hO : FOT 32 W (Rg (w.heap.size + 1) W.heap.size) r.1 v) : DFP pb D r w (.returned (.agg #[.string v.o, .string v.nm, .slice v.A v.ll v.cap, .int .i64 v.p])) ((((W.setCell ⟨w.heap.size, 0, none⟩ (.string v.o)).setCell ⟨w.heap.size, 1, none⟩ (.string v.nm)).setCell ⟨w.heap.size, 2, none⟩ (.slice v.A v.ll v.cap)).setCell ⟨w.heap.size, 3, none⟩ (.int .i64 v.p)) :=
  ⟨v, rfl, (hO.setS4 (by unfold Rg; omega)).wide (fun j _ hj => ⟨hj.1, by have := hj.2; simpa using this⟩), hr ▸ h.m.setR h.r, h.f.set4 (.inl (Nat.le_refl _))⟩
theorem AR.d (h : AR w W pb D tb st tk) (x0 x1 x2 x3 : Value) : ((((W.setCell ⟨w.heap.size, 0, none⟩ x0).setCell ⟨w.heap.size, 1, none⟩ x1).setCell ⟨w.heap.size, 2, none⟩ x2).setCell ⟨w.heap.size, 3, none⟩ x3).cell? ⟨w.heap.size, 0, none⟩ = some x0 ∧ ((((W.setCell ⟨w.heap.size, 0, none⟩ x0).setCell ⟨w.heap.size, 1, none⟩ x1).setCell ⟨w.heap.size, 2, none⟩ x2).setCell ⟨w.heap.size, 3, none⟩ x3).cell? ⟨w.heap.size, 1, none⟩ = some x1 ∧ ((((W.setCell ⟨w.heap.size, 0, none⟩ x0).setCell ⟨w.heap.size, 1, none⟩ x1).setCell ⟨w.heap.size, 2, none⟩ x2).setCell ⟨w.heap.size, 3, none⟩ x3).cell? ⟨w.heap.size, 2, none⟩ = some x2 ∧ ((((W.setCell ⟨w.heap.size, 0, none⟩ x0).setCell ⟨w.heap.size, 1, none⟩ x1).setCell ⟨w.heap.size, 2, none⟩ x2).setCell ⟨w.heap.size, 3, none⟩ x3).cell? ⟨w.heap.size, 3, none⟩ = some x3 := (Bx.set4 h.r).cells4
end
theorem fot_word {e : TypeId} (w : World) (S : Nat → Prop) {t x : List UInt8} (p : Nat) (h : (⟨t.toArray⟩ : ByteArray) = ⟨x.toArray⟩) : FOT e w S (some (.leaf x [] p)) ⟨⟨t.toArray⟩, ⟨#[]⟩, none, 0, 0, (p : Int)⟩ := by rw [h]; rfl
theorem fot_un {e : TypeId} {W : World} {S T : Nat → Prop} {o1 : Option Fo} {v1 : FV} (op : List UInt8) (q : Nat) {g : Nat} (hg : g = W.heap.size) (h1 : FOT e W S o1 v1) (hT : ∀ k, k < W.heap.size → S k → T k) (hTg : T g) :
    FOT e (W.alloc (.cells #[.string v1.o, .string v1.nm, .slice v1.A v1.ll v1.cap, .int .i64 v1.p] e)) T (unO op q o1) ⟨⟨op.toArray⟩, ⟨#[]⟩, some ⟨g, 0, none⟩, 1, 1, (q : Int)⟩ := by
  subst hg
  cases o1 with
  | none => trivial
  | some a =>
    refine ⟨W.heap.size, 1, v1.c, rfl, ⟨hTg, _, heap_alloc_new W _, fun j u hu => by simpa [FV.c] using hu⟩, ?_⟩
    exact FS.wide (fun k hk hS => by
      have hk' : k < W.heap.size ∨ k = W.heap.size := by simp at hk; omega
      rcases hk' with hk' | rfl
      · exact hT k hk' hS
      · exact hTg) (FS.alloc h1 _)
theorem dq_two (l : Nat) : dq (l + 1) = ⟨formS (dq l), untlS (dq l), prefS (dq l)⟩ := by rw [dq]
theorem isT_textR {t : Tok} {x : List UInt8} (h : isT t x = true) : t.text = x ∧ t.kind ≠ 3 := by
  simp only [isT, Bool.and_eq_true, Bool.or_eq_true, beq_iff_eq] at h
  exact ⟨h.2, by omega⟩
section
variable {pb D : Nat}
set_option maxHeartbeats 4000000 in
set_option maxRecDepth 100000 in
theorem rfone_lab {d : Dq} {lev : Nat} {us : List Tok} (hk : (hd us).kind = 3) (w : World) (h : DS w pb D (.good us)) : Calls Tryz.prog 50 #[.pointer (some ⟨pb, 0, none⟩), .int .i64 (lev : Int)] w (DFP pb D (prefS d (.good us)) w) := by
  have hl := h.lt
  have H := Lib.hid h
  have g1 : (((hd us).kind : Int) == 3) = true := by rw [hk]; rfl
  have HK := Lib.hid (show (hd us).kind ≠ 0 by omega)
  have HR := Lib.hid (show prefS d (.good us) = (some (.leaf opLab (hd us).text (hd us).pos), .good us.tail) by
    rw [pref_good, if_neg (by unfold sp; rw [hk]; simp), atom_good, if_pos hk])
  clear h hk
  go_enter Tryz.func50, Tryz.ntmps50
  go_wp2_with fail
  refine calls_gen (P := fun W => DS W pb D (.good us) ∧ Bx W w.heap.size 32 zc4 ∧ Fx (X1 pb) w W) ⟨H.out.alloc _, Bx.new w 32 zc4, (Fx.refl _ _).alloc _⟩ ?_
  rintro W ⟨hM, hB, hF⟩
  refine (rnow_any hM).mono ?_
  rintro e w1 ⟨rfl, hb1⟩
  have hs1 := hB.lt
  have hz1 := hb1.size
  have hM1 := hM.below hb1
  have hB1 := hB.below hb1
  have HF1 := Lib.hid (hF.on hb1)
  obtain ⟨kk, hk1, hk2, hT⟩ := hM1.tailS HK.out
  have fk := hM1.cells.2.2 1
  have hlp := hM1.lt
  have hnp : w.heap.size ≠ pb := by omega
  have HT := Lib.hid hT
  have HBF := Lib.hid (hB1.far (p := ⟨pb, 1, none⟩) hnp (.int .i64 ((kk : Int) + 1)))
  obtain ⟨b0, b1, b2, b3⟩ := Bx.cells4 hB1
  obtain ⟨y0, y1, y2, y3⟩ := Bx.frozen4 hB1
  have hbl := hB1.lt
  clear hM hB hF hb1 hM1 hB1 hT
  go_wp2
  obtain ⟨d0, d1, d2, d3⟩ := ((Bx.set4 (x0 := .string ⟨#[108, 97, 98, 101, 108]⟩) (x1 := .string ⟨(hd us).text.toArray⟩) (x2 := .slice none 0 0) (x3 := .int .i64 ((hd us).pos : Int)) HBF.out).alloc (.cells #[.int .i64 ((hd us).kind : Int), .string ⟨(hd us).text.toArray⟩, .int .i64 ((hd us).pos : Int)] 70)).cells4
  rw [HR.out]
  refine bodyPost_ret (v := .agg #[.string ⟨#[108, 97, 98, 101, 108]⟩, .string ⟨(hd us).text.toArray⟩, .slice none 0 0, .int .i64 ((hd us).pos : Int)]) (by simp [results, Tryz.results50, go_sem, d0, d1, d2, d3]) rfl ⟨⟨⟨#[108, 97, 98, 101, 108]⟩, ⟨(hd us).text.toArray⟩, none, 0, 0, ((hd us).pos : Int)⟩, rfl, rfl, ?_, ?_⟩
  · exact (HT.out.setR HBF.out).alloc _
  · exact ((HF1.out.setCell (p := ⟨pb, 1, none⟩) (.inr rfl) _).set4 (.inl (Nat.le_refl _))).alloc _

set_option maxHeartbeats 4000000 in
set_option maxRecDepth 100000 in
theorem rfone_true {d : Dq} {lev : Nat} {us : List Tok} (hk : (hd us).kind ≠ 3) (hi0 : isT (hd us) [116, 114, 117, 101] = true) (w : World) (h : DS w pb D (.good us)) : Calls Tryz.prog 50 #[.pointer (some ⟨pb, 0, none⟩), .int .i64 (lev : Int)] w (DFP pb D (prefS d (.good us)) w) := by
  have hl := h.lt
  have H := Lib.hid h
  have g1 : (((hd us).kind : Int) == 3) = false := by rw [beq_eq_false_iff_ne]; omega
  have HI0 := Lib.hid (show isT (hd us) (⟨#[116, 114, 117, 101]⟩ : ByteArray).data.toList = true from hi0)
  have HK := Lib.hid (isT_kind hi0)
  have hsp : sp 4 (hd us) = false := by unfold sp; rw [(isT_textR hi0).1]; simp [show pk [116, 114, 117, 101] = 5 by decide]
  have HR := Lib.hid (show prefS d (.good us) = (some (.leaf opTrue [] (hd us).pos), .good us.tail) by
    rw [pref_good, if_neg (by rw [hsp]; simp), atom_good, if_neg hk, if_pos (show isT (hd us) opTrue = true from hi0)])
  have HX := Lib.hid (isT_to hi0)
  clear h hk hsp hi0
  go_enter Tryz.func50, Tryz.ntmps50
  go_wp2_with fail
  refine calls_gen (P := fun W => DS W pb D (.good us) ∧ Bx W w.heap.size 32 zc4 ∧ Fx (X1 pb) w W) ⟨H.out.alloc _, Bx.new w 32 zc4, (Fx.refl _ _).alloc _⟩ ?_
  rintro W ⟨hM, hB, hF⟩
  refine (rnow_any hM).mono ?_
  rintro e w1 ⟨rfl, hb1⟩
  have hs1 := hB.lt
  have hz1 := hb1.size
  have A := Lib.hid (show AR w (w1.alloc (.cells #[.int .i64 ((hd us).kind : Int), .string ⟨(hd us).text.toArray⟩, .int .i64 ((hd us).pos : Int)] 70)) pb D w1.heap.size (.good us) (hd us) from ⟨(hM.below hb1).alloc _, Bx.new w1 70 [_, _, _], (hB.below hb1).alloc _, (hF.on hb1).alloc _, by omega, hl⟩)
  have hlp := (hM.below hb1).lt
  clear hM hB hF hb1
  go_wp2_with fail
  refine (A.out.is_ ⟨#[116, 114, 117, 101]⟩ HI0.out).mono ?_
  rintro e wi0 ⟨rfl, hA⟩
  obtain ⟨t0, t1, t2, hlt⟩ := hA.tc
  have hlp := hA.m.lt
  have A := Lib.hid hA
  clear hA
  obtain ⟨kk, hk1, hk2, hA⟩ := A.out.tail HK.out
  have fk := A.out.m.cells.2.2 1
  have AT := Lib.hid hA
  obtain ⟨b0, b1, b2, b3⟩ := Bx.cells4 A.out.r
  obtain ⟨y0, y1, y2, y3⟩ := Bx.frozen4 A.out.r
  have hbl := A.out.r.lt
  have hnp : w.heap.size ≠ pb := by omega
  obtain ⟨u0, u1, u2, hlu⟩ := A.out.tc
  have hnt : w1.heap.size ≠ pb := by omega
  clear hA
  go_wp2
  obtain ⟨d0, d1, d2, d3⟩ := AT.out.d (.string ⟨(hd us).text.toArray⟩) (.string ⟨#[]⟩) (.slice none 0 0) (.int .i64 ((hd us).pos : Int))
  rw [HR.out]
  exact bodyPost_ret (v := .agg #[.string ⟨(hd us).text.toArray⟩, .string ⟨#[]⟩, .slice none 0 0, .int .i64 ((hd us).pos : Int)]) (by simp [results, Tryz.results50, go_sem, d0, d1, d2, d3]) rfl (AT.out.done (r := (some (.leaf opTrue [] (hd us).pos), .good us.tail)) rfl (v := ⟨⟨(hd us).text.toArray⟩, ⟨#[]⟩, none, 0, 0, ((hd us).pos : Int)⟩) (fot_word _ _ _ HX.out))

set_option maxHeartbeats 4000000 in
set_option maxRecDepth 100000 in
theorem rfone_false {d : Dq} {lev : Nat} {us : List Tok} (hk : (hd us).kind ≠ 3) (hi0 : isT (hd us) [116, 114, 117, 101] = false) (hi1 : isT (hd us) [102, 97, 108, 115, 101] = true) (w : World) (h : DS w pb D (.good us)) : Calls Tryz.prog 50 #[.pointer (some ⟨pb, 0, none⟩), .int .i64 (lev : Int)] w (DFP pb D (prefS d (.good us)) w) := by
  have hl := h.lt
  have H := Lib.hid h
  have g1 : (((hd us).kind : Int) == 3) = false := by rw [beq_eq_false_iff_ne]; omega
  have HI0 := Lib.hid (show isT (hd us) (⟨#[116, 114, 117, 101]⟩ : ByteArray).data.toList = false from hi0)
  have HI1 := Lib.hid (show isT (hd us) (⟨#[102, 97, 108, 115, 101]⟩ : ByteArray).data.toList = true from hi1)
  have HK := Lib.hid (isT_kind hi1)
  have hsp : sp 4 (hd us) = false := by unfold sp; rw [(isT_textR hi1).1]; simp [show pk [102, 97, 108, 115, 101] = 5 by decide]
  have HR := Lib.hid (show prefS d (.good us) = (some (.leaf opFalse [] (hd us).pos), .good us.tail) by
    rw [pref_good, if_neg (by rw [hsp]; simp), atom_good, if_neg hk, if_neg (by rw [show isT (hd us) opTrue = false from hi0]; simp), if_pos (show isT (hd us) opFalse = true from hi1)])
  have HX := Lib.hid (isT_to hi1)
  clear h hk hsp hi0 hi1
  go_enter Tryz.func50, Tryz.ntmps50
  go_wp2_with fail
  refine calls_gen (P := fun W => DS W pb D (.good us) ∧ Bx W w.heap.size 32 zc4 ∧ Fx (X1 pb) w W) ⟨H.out.alloc _, Bx.new w 32 zc4, (Fx.refl _ _).alloc _⟩ ?_
  rintro W ⟨hM, hB, hF⟩
  refine (rnow_any hM).mono ?_
  rintro e w1 ⟨rfl, hb1⟩
  have hs1 := hB.lt
  have hz1 := hb1.size
  have A := Lib.hid (show AR w (w1.alloc (.cells #[.int .i64 ((hd us).kind : Int), .string ⟨(hd us).text.toArray⟩, .int .i64 ((hd us).pos : Int)] 70)) pb D w1.heap.size (.good us) (hd us) from ⟨(hM.below hb1).alloc _, Bx.new w1 70 [_, _, _], (hB.below hb1).alloc _, (hF.on hb1).alloc _, by omega, hl⟩)
  have hlp := (hM.below hb1).lt
  clear hM hB hF hb1
  go_wp2_with fail
  refine (A.out.is_ ⟨#[116, 114, 117, 101]⟩ HI0.out).mono ?_
  rintro e wi0 ⟨rfl, hA⟩
  obtain ⟨t0, t1, t2, hlt⟩ := hA.tc
  have hlp := hA.m.lt
  have A := Lib.hid hA
  clear hA
  go_wp2_with fail
  refine (A.out.is_ ⟨#[102, 97, 108, 115, 101]⟩ HI1.out).mono ?_
  rintro e wi1 ⟨rfl, hA⟩
  obtain ⟨t0, t1, t2, hlt⟩ := hA.tc
  have hlp := hA.m.lt
  have A := Lib.hid hA
  clear hA
  obtain ⟨kk, hk1, hk2, hA⟩ := A.out.tail HK.out
  have fk := A.out.m.cells.2.2 1
  have AT := Lib.hid hA
  obtain ⟨b0, b1, b2, b3⟩ := Bx.cells4 A.out.r
  obtain ⟨y0, y1, y2, y3⟩ := Bx.frozen4 A.out.r
  have hbl := A.out.r.lt
  have hnp : w.heap.size ≠ pb := by omega
  obtain ⟨u0, u1, u2, hlu⟩ := A.out.tc
  have hnt : w1.heap.size ≠ pb := by omega
  clear hA
  go_wp2
  obtain ⟨d0, d1, d2, d3⟩ := AT.out.d (.string ⟨(hd us).text.toArray⟩) (.string ⟨#[]⟩) (.slice none 0 0) (.int .i64 ((hd us).pos : Int))
  rw [HR.out]
  exact bodyPost_ret (v := .agg #[.string ⟨(hd us).text.toArray⟩, .string ⟨#[]⟩, .slice none 0 0, .int .i64 ((hd us).pos : Int)]) (by simp [results, Tryz.results50, go_sem, d0, d1, d2, d3]) rfl (AT.out.done (r := (some (.leaf opFalse [] (hd us).pos), .good us.tail)) rfl (v := ⟨⟨(hd us).text.toArray⟩, ⟨#[]⟩, none, 0, 0, ((hd us).pos : Int)⟩) (fot_word _ _ _ HX.out))

set_option maxHeartbeats 4000000 in
set_option maxRecDepth 100000 in
theorem rfone_x0 {d : Dq} {lev : Nat} {us : List Tok} (hlev : lev ≤ 64) (hx : RDC 4 (lev + 1) D d.x) (hk : (hd us).kind ≠ 3) (hi0 : isT (hd us) [116, 114, 117, 101] = false) (hi1 : isT (hd us) [102, 97, 108, 115, 101] = false) (hi2 : isT (hd us) [33] = true) (w : World) (h : DS w pb D (.good us)) : Calls Tryz.prog 50 #[.pointer (some ⟨pb, 0, none⟩), .int .i64 (lev : Int)] w (DFP pb D (prefS d (.good us)) w) := by
  have hl := h.lt
  have H := Lib.hid h
  have g1 : (((hd us).kind : Int) == 3) = false := by rw [beq_eq_false_iff_ne]; omega
  have HI0 := Lib.hid (show isT (hd us) (⟨#[116, 114, 117, 101]⟩ : ByteArray).data.toList = false from hi0)
  have HI1 := Lib.hid (show isT (hd us) (⟨#[102, 97, 108, 115, 101]⟩ : ByteArray).data.toList = false from hi1)
  have HI2 := Lib.hid (show isT (hd us) (⟨#[33]⟩ : ByteArray).data.toList = true from hi2)
  have HK := Lib.hid (isT_kind hi2)
  have hsp : sp 4 (hd us) = true := by rw [sp_4]; simp [hi2]
  have HR := Lib.hid (show prefS d (.good us) = (unO (hd us).text (hd us).pos (d.x (.good us.tail)).1, (d.x (.good us.tail)).2) by rw [pref_good, if_pos hsp])
  have HX := Lib.hid hx
  clear h hk hsp hx hi0 hi1 hi2
  go_enter Tryz.func50, Tryz.ntmps50
  go_wp2_with fail
  refine calls_gen (P := fun W => DS W pb D (.good us) ∧ Bx W w.heap.size 32 zc4 ∧ Fx (X1 pb) w W) ⟨H.out.alloc _, Bx.new w 32 zc4, (Fx.refl _ _).alloc _⟩ ?_
  rintro W ⟨hM, hB, hF⟩
  refine (rnow_any hM).mono ?_
  rintro e w1 ⟨rfl, hb1⟩
  have hs1 := hB.lt
  have hz1 := hb1.size
  have A := Lib.hid (show AR w (w1.alloc (.cells #[.int .i64 ((hd us).kind : Int), .string ⟨(hd us).text.toArray⟩, .int .i64 ((hd us).pos : Int)] 70)) pb D w1.heap.size (.good us) (hd us) from ⟨(hM.below hb1).alloc _, Bx.new w1 70 [_, _, _], (hB.below hb1).alloc _, (hF.on hb1).alloc _, by omega, hl⟩)
  have hlp := (hM.below hb1).lt
  clear hM hB hF hb1
  go_wp2_with fail
  refine (A.out.is_ ⟨#[116, 114, 117, 101]⟩ HI0.out).mono ?_
  rintro e wi0 ⟨rfl, hA⟩
  obtain ⟨t0, t1, t2, hlt⟩ := hA.tc
  have hlp := hA.m.lt
  have A := Lib.hid hA
  clear hA
  go_wp2_with fail
  refine (A.out.is_ ⟨#[102, 97, 108, 115, 101]⟩ HI1.out).mono ?_
  rintro e wi1 ⟨rfl, hA⟩
  obtain ⟨t0, t1, t2, hlt⟩ := hA.tc
  have hlp := hA.m.lt
  have A := Lib.hid hA
  clear hA
  go_wp2_with fail
  refine (A.out.is_ ⟨#[33]⟩ HI2.out).mono ?_
  rintro e wi2 ⟨rfl, hA⟩
  obtain ⟨t0, t1, t2, hlt⟩ := hA.tc
  have hlp := hA.m.lt
  have A := Lib.hid hA
  clear hA
  obtain ⟨kk, hk1, hk2, hA⟩ := A.out.tail HK.out
  have fk := A.out.m.cells.2.2 1
  have AT := Lib.hid hA
  clear hA
  go_wp2_with fail
  refine calls_gen (P := fun W => AR w W pb D w1.heap.size (.good us.tail) (hd us)) AT.out ?_
  clear hk1 fk AT A
  rintro WT hA
  refine (HX.out WT pb _ _ _ (by decide) (by push_cast; rfl) hA.m).mono ?_
  rintro e w9 ⟨v9, rfl, hO9, hM9, hF9⟩
  have hz9 := hF9.size
  have hzT := hA.f.size
  have hlT := hA.t.lt
  have A := Lib.hid (hA.fx hM9 hF9)
  have HO9 := Lib.hid hO9
  clear hA hO9 hM9 hF9
  obtain ⟨b0, b1, b2, b3⟩ := Bx.cells4 A.out.r
  obtain ⟨y0, y1, y2, y3⟩ := Bx.frozen4 A.out.r
  have hbl := A.out.r.lt
  obtain ⟨t0, t1, t2, hlt⟩ := A.out.tc
  have HN := Lib.hid (fot_un (W := ((((w9.setCell ⟨w.heap.size, 0, none⟩ (.string ⟨(hd us).text.toArray⟩)).setCell ⟨w.heap.size, 1, none⟩ (.string ⟨#[]⟩)).setCell ⟨w.heap.size, 2, none⟩ (.slice (some ⟨w9.heap.size + 1, 0, none⟩) 1 1)).setCell ⟨w.heap.size, 3, none⟩ (.int .i64 ((hd us).pos : Int))).alloc (.cells #[.string v9.o, .string v9.nm, .slice v9.A v9.ll v9.cap, .int .i64 v9.p] 32)) (T := Rg (w.heap.size + 1) (w9.heap.size + 2)) (hd us).text (hd us).pos (g := w9.heap.size + 1) (by simp) ((HO9.out.setS4 (by unfold Rg; omega)).alloc (.cells #[.string v9.o, .string v9.nm, .slice v9.A v9.ll v9.cap, .int .i64 v9.p] 32)) (fun j _ hj => ⟨by have := hj.1; omega, by have := hj.2; omega⟩) ⟨by omega, by omega⟩)
  go_wp2
  obtain ⟨d0, d1, d2, d3⟩ := (((Bx.set4 (x0 := (.string ⟨(hd us).text.toArray⟩)) (x1 := (.string ⟨#[]⟩)) (x2 := (.slice (some ⟨w9.heap.size + 1, 0, none⟩) 1 1)) (x3 := (.int .i64 ((hd us).pos : Int))) A.out.r).alloc (.cells #[.string v9.o, .string v9.nm, .slice v9.A v9.ll v9.cap, .int .i64 v9.p] 32)).alloc (.cells #[.string v9.o, .string v9.nm, .slice v9.A v9.ll v9.cap, .int .i64 v9.p] 32)).cells4
  rw [HR.out]
  refine bodyPost_ret (v := .agg #[.string ⟨(hd us).text.toArray⟩, .string ⟨#[]⟩, .slice (some ⟨w9.heap.size + 1, 0, none⟩) 1 1, .int .i64 ((hd us).pos : Int)]) (by simp [results, Tryz.results50, go_sem, d0, d1, d2, d3]) rfl ⟨⟨⟨(hd us).text.toArray⟩, ⟨#[]⟩, some ⟨w9.heap.size + 1, 0, none⟩, 1, 1, ((hd us).pos : Int)⟩, rfl, ?_, ?_, ?_⟩
  · exact HN.out.wide (fun j _ hj => ⟨hj.1, by have := hj.2; simp; omega⟩)
  · exact ((A.out.m.setR A.out.r).alloc (.cells #[.string v9.o, .string v9.nm, .slice v9.A v9.ll v9.cap, .int .i64 v9.p] 32)).alloc (.cells #[.string v9.o, .string v9.nm, .slice v9.A v9.ll v9.cap, .int .i64 v9.p] 32)
  · exact ((A.out.f.set4 (.inl (Nat.le_refl _))).alloc (.cells #[.string v9.o, .string v9.nm, .slice v9.A v9.ll v9.cap, .int .i64 v9.p] 32)).alloc (.cells #[.string v9.o, .string v9.nm, .slice v9.A v9.ll v9.cap, .int .i64 v9.p] 32)

set_option maxHeartbeats 4000000 in
set_option maxRecDepth 100000 in
theorem rfone_x1 {d : Dq} {lev : Nat} {us : List Tok} (hlev : lev ≤ 64) (hx : RDC 4 (lev + 1) D d.x) (hk : (hd us).kind ≠ 3) (hi0 : isT (hd us) [116, 114, 117, 101] = false) (hi1 : isT (hd us) [102, 97, 108, 115, 101] = false) (hi2 : isT (hd us) [33] = false) (hi3 : isT (hd us) [88] = true) (w : World) (h : DS w pb D (.good us)) : Calls Tryz.prog 50 #[.pointer (some ⟨pb, 0, none⟩), .int .i64 (lev : Int)] w (DFP pb D (prefS d (.good us)) w) := by
  have hl := h.lt
  have H := Lib.hid h
  have g1 : (((hd us).kind : Int) == 3) = false := by rw [beq_eq_false_iff_ne]; omega
  have HI0 := Lib.hid (show isT (hd us) (⟨#[116, 114, 117, 101]⟩ : ByteArray).data.toList = false from hi0)
  have HI1 := Lib.hid (show isT (hd us) (⟨#[102, 97, 108, 115, 101]⟩ : ByteArray).data.toList = false from hi1)
  have HI2 := Lib.hid (show isT (hd us) (⟨#[33]⟩ : ByteArray).data.toList = false from hi2)
  have HI3 := Lib.hid (show isT (hd us) (⟨#[88]⟩ : ByteArray).data.toList = true from hi3)
  have HK := Lib.hid (isT_kind hi3)
  have hsp : sp 4 (hd us) = true := by rw [sp_4]; simp [hi2, hi3]
  have HR := Lib.hid (show prefS d (.good us) = (unO (hd us).text (hd us).pos (d.x (.good us.tail)).1, (d.x (.good us.tail)).2) by rw [pref_good, if_pos hsp])
  have HX := Lib.hid hx
  clear h hk hsp hx hi0 hi1 hi2 hi3
  go_enter Tryz.func50, Tryz.ntmps50
  go_wp2_with fail
  refine calls_gen (P := fun W => DS W pb D (.good us) ∧ Bx W w.heap.size 32 zc4 ∧ Fx (X1 pb) w W) ⟨H.out.alloc _, Bx.new w 32 zc4, (Fx.refl _ _).alloc _⟩ ?_
  rintro W ⟨hM, hB, hF⟩
  refine (rnow_any hM).mono ?_
  rintro e w1 ⟨rfl, hb1⟩
  have hs1 := hB.lt
  have hz1 := hb1.size
  have A := Lib.hid (show AR w (w1.alloc (.cells #[.int .i64 ((hd us).kind : Int), .string ⟨(hd us).text.toArray⟩, .int .i64 ((hd us).pos : Int)] 70)) pb D w1.heap.size (.good us) (hd us) from ⟨(hM.below hb1).alloc _, Bx.new w1 70 [_, _, _], (hB.below hb1).alloc _, (hF.on hb1).alloc _, by omega, hl⟩)
  have hlp := (hM.below hb1).lt
  clear hM hB hF hb1
  go_wp2_with fail
  refine (A.out.is_ ⟨#[116, 114, 117, 101]⟩ HI0.out).mono ?_
  rintro e wi0 ⟨rfl, hA⟩
  obtain ⟨t0, t1, t2, hlt⟩ := hA.tc
  have hlp := hA.m.lt
  have A := Lib.hid hA
  clear hA
  go_wp2_with fail
  refine (A.out.is_ ⟨#[102, 97, 108, 115, 101]⟩ HI1.out).mono ?_
  rintro e wi1 ⟨rfl, hA⟩
  obtain ⟨t0, t1, t2, hlt⟩ := hA.tc
  have hlp := hA.m.lt
  have A := Lib.hid hA
  clear hA
  go_wp2_with fail
  refine (A.out.is_ ⟨#[33]⟩ HI2.out).mono ?_
  rintro e wi2 ⟨rfl, hA⟩
  obtain ⟨t0, t1, t2, hlt⟩ := hA.tc
  have hlp := hA.m.lt
  have A := Lib.hid hA
  clear hA
  go_wp2_with fail
  refine (A.out.is_ ⟨#[88]⟩ HI3.out).mono ?_
  rintro e wi3 ⟨rfl, hA⟩
  obtain ⟨t0, t1, t2, hlt⟩ := hA.tc
  have hlp := hA.m.lt
  have A := Lib.hid hA
  clear hA
  obtain ⟨kk, hk1, hk2, hA⟩ := A.out.tail HK.out
  have fk := A.out.m.cells.2.2 1
  have AT := Lib.hid hA
  clear hA
  go_wp2_with fail
  refine calls_gen (P := fun W => AR w W pb D w1.heap.size (.good us.tail) (hd us)) AT.out ?_
  clear hk1 fk AT A
  rintro WT hA
  refine (HX.out WT pb _ _ _ (by decide) (by push_cast; rfl) hA.m).mono ?_
  rintro e w9 ⟨v9, rfl, hO9, hM9, hF9⟩
  have hz9 := hF9.size
  have hzT := hA.f.size
  have hlT := hA.t.lt
  have A := Lib.hid (hA.fx hM9 hF9)
  have HO9 := Lib.hid hO9
  clear hA hO9 hM9 hF9
  obtain ⟨b0, b1, b2, b3⟩ := Bx.cells4 A.out.r
  obtain ⟨y0, y1, y2, y3⟩ := Bx.frozen4 A.out.r
  have hbl := A.out.r.lt
  obtain ⟨t0, t1, t2, hlt⟩ := A.out.tc
  have HN := Lib.hid (fot_un (W := ((((w9.setCell ⟨w.heap.size, 0, none⟩ (.string ⟨(hd us).text.toArray⟩)).setCell ⟨w.heap.size, 1, none⟩ (.string ⟨#[]⟩)).setCell ⟨w.heap.size, 2, none⟩ (.slice (some ⟨w9.heap.size + 1, 0, none⟩) 1 1)).setCell ⟨w.heap.size, 3, none⟩ (.int .i64 ((hd us).pos : Int))).alloc (.cells #[.string v9.o, .string v9.nm, .slice v9.A v9.ll v9.cap, .int .i64 v9.p] 32)) (T := Rg (w.heap.size + 1) (w9.heap.size + 2)) (hd us).text (hd us).pos (g := w9.heap.size + 1) (by simp) ((HO9.out.setS4 (by unfold Rg; omega)).alloc (.cells #[.string v9.o, .string v9.nm, .slice v9.A v9.ll v9.cap, .int .i64 v9.p] 32)) (fun j _ hj => ⟨by have := hj.1; omega, by have := hj.2; omega⟩) ⟨by omega, by omega⟩)
  go_wp2
  obtain ⟨d0, d1, d2, d3⟩ := (((Bx.set4 (x0 := (.string ⟨(hd us).text.toArray⟩)) (x1 := (.string ⟨#[]⟩)) (x2 := (.slice (some ⟨w9.heap.size + 1, 0, none⟩) 1 1)) (x3 := (.int .i64 ((hd us).pos : Int))) A.out.r).alloc (.cells #[.string v9.o, .string v9.nm, .slice v9.A v9.ll v9.cap, .int .i64 v9.p] 32)).alloc (.cells #[.string v9.o, .string v9.nm, .slice v9.A v9.ll v9.cap, .int .i64 v9.p] 32)).cells4
  rw [HR.out]
  refine bodyPost_ret (v := .agg #[.string ⟨(hd us).text.toArray⟩, .string ⟨#[]⟩, .slice (some ⟨w9.heap.size + 1, 0, none⟩) 1 1, .int .i64 ((hd us).pos : Int)]) (by simp [results, Tryz.results50, go_sem, d0, d1, d2, d3]) rfl ⟨⟨⟨(hd us).text.toArray⟩, ⟨#[]⟩, some ⟨w9.heap.size + 1, 0, none⟩, 1, 1, ((hd us).pos : Int)⟩, rfl, ?_, ?_, ?_⟩
  · exact HN.out.wide (fun j _ hj => ⟨hj.1, by have := hj.2; simp; omega⟩)
  · exact ((A.out.m.setR A.out.r).alloc (.cells #[.string v9.o, .string v9.nm, .slice v9.A v9.ll v9.cap, .int .i64 v9.p] 32)).alloc (.cells #[.string v9.o, .string v9.nm, .slice v9.A v9.ll v9.cap, .int .i64 v9.p] 32)
  · exact ((A.out.f.set4 (.inl (Nat.le_refl _))).alloc (.cells #[.string v9.o, .string v9.nm, .slice v9.A v9.ll v9.cap, .int .i64 v9.p] 32)).alloc (.cells #[.string v9.o, .string v9.nm, .slice v9.A v9.ll v9.cap, .int .i64 v9.p] 32)

set_option maxHeartbeats 4000000 in
set_option maxRecDepth 100000 in
theorem rfone_x2 {d : Dq} {lev : Nat} {us : List Tok} (hlev : lev ≤ 64) (hx : RDC 4 (lev + 1) D d.x) (hk : (hd us).kind ≠ 3) (hi0 : isT (hd us) [116, 114, 117, 101] = false) (hi1 : isT (hd us) [102, 97, 108, 115, 101] = false) (hi2 : isT (hd us) [33] = false) (hi3 : isT (hd us) [88] = false) (hi4 : isT (hd us) [70] = true) (w : World) (h : DS w pb D (.good us)) : Calls Tryz.prog 50 #[.pointer (some ⟨pb, 0, none⟩), .int .i64 (lev : Int)] w (DFP pb D (prefS d (.good us)) w) := by
  have hl := h.lt
  have H := Lib.hid h
  have g1 : (((hd us).kind : Int) == 3) = false := by rw [beq_eq_false_iff_ne]; omega
  have HI0 := Lib.hid (show isT (hd us) (⟨#[116, 114, 117, 101]⟩ : ByteArray).data.toList = false from hi0)
  have HI1 := Lib.hid (show isT (hd us) (⟨#[102, 97, 108, 115, 101]⟩ : ByteArray).data.toList = false from hi1)
  have HI2 := Lib.hid (show isT (hd us) (⟨#[33]⟩ : ByteArray).data.toList = false from hi2)
  have HI3 := Lib.hid (show isT (hd us) (⟨#[88]⟩ : ByteArray).data.toList = false from hi3)
  have HI4 := Lib.hid (show isT (hd us) (⟨#[70]⟩ : ByteArray).data.toList = true from hi4)
  have HK := Lib.hid (isT_kind hi4)
  have hsp : sp 4 (hd us) = true := by rw [sp_4]; simp [hi2, hi3, hi4]
  have HR := Lib.hid (show prefS d (.good us) = (unO (hd us).text (hd us).pos (d.x (.good us.tail)).1, (d.x (.good us.tail)).2) by rw [pref_good, if_pos hsp])
  have HX := Lib.hid hx
  clear h hk hsp hx hi0 hi1 hi2 hi3 hi4
  go_enter Tryz.func50, Tryz.ntmps50
  go_wp2_with fail
  refine calls_gen (P := fun W => DS W pb D (.good us) ∧ Bx W w.heap.size 32 zc4 ∧ Fx (X1 pb) w W) ⟨H.out.alloc _, Bx.new w 32 zc4, (Fx.refl _ _).alloc _⟩ ?_
  rintro W ⟨hM, hB, hF⟩
  refine (rnow_any hM).mono ?_
  rintro e w1 ⟨rfl, hb1⟩
  have hs1 := hB.lt
  have hz1 := hb1.size
  have A := Lib.hid (show AR w (w1.alloc (.cells #[.int .i64 ((hd us).kind : Int), .string ⟨(hd us).text.toArray⟩, .int .i64 ((hd us).pos : Int)] 70)) pb D w1.heap.size (.good us) (hd us) from ⟨(hM.below hb1).alloc _, Bx.new w1 70 [_, _, _], (hB.below hb1).alloc _, (hF.on hb1).alloc _, by omega, hl⟩)
  have hlp := (hM.below hb1).lt
  clear hM hB hF hb1
  go_wp2_with fail
  refine (A.out.is_ ⟨#[116, 114, 117, 101]⟩ HI0.out).mono ?_
  rintro e wi0 ⟨rfl, hA⟩
  obtain ⟨t0, t1, t2, hlt⟩ := hA.tc
  have hlp := hA.m.lt
  have A := Lib.hid hA
  clear hA
  go_wp2_with fail
  refine (A.out.is_ ⟨#[102, 97, 108, 115, 101]⟩ HI1.out).mono ?_
  rintro e wi1 ⟨rfl, hA⟩
  obtain ⟨t0, t1, t2, hlt⟩ := hA.tc
  have hlp := hA.m.lt
  have A := Lib.hid hA
  clear hA
  go_wp2_with fail
  refine (A.out.is_ ⟨#[33]⟩ HI2.out).mono ?_
  rintro e wi2 ⟨rfl, hA⟩
  obtain ⟨t0, t1, t2, hlt⟩ := hA.tc
  have hlp := hA.m.lt
  have A := Lib.hid hA
  clear hA
  go_wp2_with fail
  refine (A.out.is_ ⟨#[88]⟩ HI3.out).mono ?_
  rintro e wi3 ⟨rfl, hA⟩
  obtain ⟨t0, t1, t2, hlt⟩ := hA.tc
  have hlp := hA.m.lt
  have A := Lib.hid hA
  clear hA
  go_wp2_with fail
  refine (A.out.is_ ⟨#[70]⟩ HI4.out).mono ?_
  rintro e wi4 ⟨rfl, hA⟩
  obtain ⟨t0, t1, t2, hlt⟩ := hA.tc
  have hlp := hA.m.lt
  have A := Lib.hid hA
  clear hA
  obtain ⟨kk, hk1, hk2, hA⟩ := A.out.tail HK.out
  have fk := A.out.m.cells.2.2 1
  have AT := Lib.hid hA
  clear hA
  go_wp2_with fail
  refine calls_gen (P := fun W => AR w W pb D w1.heap.size (.good us.tail) (hd us)) AT.out ?_
  clear hk1 fk AT A
  rintro WT hA
  refine (HX.out WT pb _ _ _ (by decide) (by push_cast; rfl) hA.m).mono ?_
  rintro e w9 ⟨v9, rfl, hO9, hM9, hF9⟩
  have hz9 := hF9.size
  have hzT := hA.f.size
  have hlT := hA.t.lt
  have A := Lib.hid (hA.fx hM9 hF9)
  have HO9 := Lib.hid hO9
  clear hA hO9 hM9 hF9
  obtain ⟨b0, b1, b2, b3⟩ := Bx.cells4 A.out.r
  obtain ⟨y0, y1, y2, y3⟩ := Bx.frozen4 A.out.r
  have hbl := A.out.r.lt
  obtain ⟨t0, t1, t2, hlt⟩ := A.out.tc
  have HN := Lib.hid (fot_un (W := ((((w9.setCell ⟨w.heap.size, 0, none⟩ (.string ⟨(hd us).text.toArray⟩)).setCell ⟨w.heap.size, 1, none⟩ (.string ⟨#[]⟩)).setCell ⟨w.heap.size, 2, none⟩ (.slice (some ⟨w9.heap.size + 1, 0, none⟩) 1 1)).setCell ⟨w.heap.size, 3, none⟩ (.int .i64 ((hd us).pos : Int))).alloc (.cells #[.string v9.o, .string v9.nm, .slice v9.A v9.ll v9.cap, .int .i64 v9.p] 32)) (T := Rg (w.heap.size + 1) (w9.heap.size + 2)) (hd us).text (hd us).pos (g := w9.heap.size + 1) (by simp) ((HO9.out.setS4 (by unfold Rg; omega)).alloc (.cells #[.string v9.o, .string v9.nm, .slice v9.A v9.ll v9.cap, .int .i64 v9.p] 32)) (fun j _ hj => ⟨by have := hj.1; omega, by have := hj.2; omega⟩) ⟨by omega, by omega⟩)
  go_wp2
  obtain ⟨d0, d1, d2, d3⟩ := (((Bx.set4 (x0 := (.string ⟨(hd us).text.toArray⟩)) (x1 := (.string ⟨#[]⟩)) (x2 := (.slice (some ⟨w9.heap.size + 1, 0, none⟩) 1 1)) (x3 := (.int .i64 ((hd us).pos : Int))) A.out.r).alloc (.cells #[.string v9.o, .string v9.nm, .slice v9.A v9.ll v9.cap, .int .i64 v9.p] 32)).alloc (.cells #[.string v9.o, .string v9.nm, .slice v9.A v9.ll v9.cap, .int .i64 v9.p] 32)).cells4
  rw [HR.out]
  refine bodyPost_ret (v := .agg #[.string ⟨(hd us).text.toArray⟩, .string ⟨#[]⟩, .slice (some ⟨w9.heap.size + 1, 0, none⟩) 1 1, .int .i64 ((hd us).pos : Int)]) (by simp [results, Tryz.results50, go_sem, d0, d1, d2, d3]) rfl ⟨⟨⟨(hd us).text.toArray⟩, ⟨#[]⟩, some ⟨w9.heap.size + 1, 0, none⟩, 1, 1, ((hd us).pos : Int)⟩, rfl, ?_, ?_, ?_⟩
  · exact HN.out.wide (fun j _ hj => ⟨hj.1, by have := hj.2; simp; omega⟩)
  · exact ((A.out.m.setR A.out.r).alloc (.cells #[.string v9.o, .string v9.nm, .slice v9.A v9.ll v9.cap, .int .i64 v9.p] 32)).alloc (.cells #[.string v9.o, .string v9.nm, .slice v9.A v9.ll v9.cap, .int .i64 v9.p] 32)
  · exact ((A.out.f.set4 (.inl (Nat.le_refl _))).alloc (.cells #[.string v9.o, .string v9.nm, .slice v9.A v9.ll v9.cap, .int .i64 v9.p] 32)).alloc (.cells #[.string v9.o, .string v9.nm, .slice v9.A v9.ll v9.cap, .int .i64 v9.p] 32)

set_option maxHeartbeats 4000000 in
set_option maxRecDepth 100000 in
theorem rfone_x3 {d : Dq} {lev : Nat} {us : List Tok} (hlev : lev ≤ 64) (hx : RDC 4 (lev + 1) D d.x) (hk : (hd us).kind ≠ 3) (hi0 : isT (hd us) [116, 114, 117, 101] = false) (hi1 : isT (hd us) [102, 97, 108, 115, 101] = false) (hi2 : isT (hd us) [33] = false) (hi3 : isT (hd us) [88] = false) (hi4 : isT (hd us) [70] = false) (hi5 : isT (hd us) [71] = true) (w : World) (h : DS w pb D (.good us)) : Calls Tryz.prog 50 #[.pointer (some ⟨pb, 0, none⟩), .int .i64 (lev : Int)] w (DFP pb D (prefS d (.good us)) w) := by
  have hl := h.lt
  have H := Lib.hid h
  have g1 : (((hd us).kind : Int) == 3) = false := by rw [beq_eq_false_iff_ne]; omega
  have HI0 := Lib.hid (show isT (hd us) (⟨#[116, 114, 117, 101]⟩ : ByteArray).data.toList = false from hi0)
  have HI1 := Lib.hid (show isT (hd us) (⟨#[102, 97, 108, 115, 101]⟩ : ByteArray).data.toList = false from hi1)
  have HI2 := Lib.hid (show isT (hd us) (⟨#[33]⟩ : ByteArray).data.toList = false from hi2)
  have HI3 := Lib.hid (show isT (hd us) (⟨#[88]⟩ : ByteArray).data.toList = false from hi3)
  have HI4 := Lib.hid (show isT (hd us) (⟨#[70]⟩ : ByteArray).data.toList = false from hi4)
  have HI5 := Lib.hid (show isT (hd us) (⟨#[71]⟩ : ByteArray).data.toList = true from hi5)
  have HK := Lib.hid (isT_kind hi5)
  have hsp : sp 4 (hd us) = true := by rw [sp_4]; simp [hi2, hi3, hi4, hi5]
  have HR := Lib.hid (show prefS d (.good us) = (unO (hd us).text (hd us).pos (d.x (.good us.tail)).1, (d.x (.good us.tail)).2) by rw [pref_good, if_pos hsp])
  have HX := Lib.hid hx
  clear h hk hsp hx hi0 hi1 hi2 hi3 hi4 hi5
  go_enter Tryz.func50, Tryz.ntmps50
  go_wp2_with fail
  refine calls_gen (P := fun W => DS W pb D (.good us) ∧ Bx W w.heap.size 32 zc4 ∧ Fx (X1 pb) w W) ⟨H.out.alloc _, Bx.new w 32 zc4, (Fx.refl _ _).alloc _⟩ ?_
  rintro W ⟨hM, hB, hF⟩
  refine (rnow_any hM).mono ?_
  rintro e w1 ⟨rfl, hb1⟩
  have hs1 := hB.lt
  have hz1 := hb1.size
  have A := Lib.hid (show AR w (w1.alloc (.cells #[.int .i64 ((hd us).kind : Int), .string ⟨(hd us).text.toArray⟩, .int .i64 ((hd us).pos : Int)] 70)) pb D w1.heap.size (.good us) (hd us) from ⟨(hM.below hb1).alloc _, Bx.new w1 70 [_, _, _], (hB.below hb1).alloc _, (hF.on hb1).alloc _, by omega, hl⟩)
  have hlp := (hM.below hb1).lt
  clear hM hB hF hb1
  go_wp2_with fail
  refine (A.out.is_ ⟨#[116, 114, 117, 101]⟩ HI0.out).mono ?_
  rintro e wi0 ⟨rfl, hA⟩
  obtain ⟨t0, t1, t2, hlt⟩ := hA.tc
  have hlp := hA.m.lt
  have A := Lib.hid hA
  clear hA
  go_wp2_with fail
  refine (A.out.is_ ⟨#[102, 97, 108, 115, 101]⟩ HI1.out).mono ?_
  rintro e wi1 ⟨rfl, hA⟩
  obtain ⟨t0, t1, t2, hlt⟩ := hA.tc
  have hlp := hA.m.lt
  have A := Lib.hid hA
  clear hA
  go_wp2_with fail
  refine (A.out.is_ ⟨#[33]⟩ HI2.out).mono ?_
  rintro e wi2 ⟨rfl, hA⟩
  obtain ⟨t0, t1, t2, hlt⟩ := hA.tc
  have hlp := hA.m.lt
  have A := Lib.hid hA
  clear hA
  go_wp2_with fail
  refine (A.out.is_ ⟨#[88]⟩ HI3.out).mono ?_
  rintro e wi3 ⟨rfl, hA⟩
  obtain ⟨t0, t1, t2, hlt⟩ := hA.tc
  have hlp := hA.m.lt
  have A := Lib.hid hA
  clear hA
  go_wp2_with fail
  refine (A.out.is_ ⟨#[70]⟩ HI4.out).mono ?_
  rintro e wi4 ⟨rfl, hA⟩
  obtain ⟨t0, t1, t2, hlt⟩ := hA.tc
  have hlp := hA.m.lt
  have A := Lib.hid hA
  clear hA
  go_wp2_with fail
  refine (A.out.is_ ⟨#[71]⟩ HI5.out).mono ?_
  rintro e wi5 ⟨rfl, hA⟩
  obtain ⟨t0, t1, t2, hlt⟩ := hA.tc
  have hlp := hA.m.lt
  have A := Lib.hid hA
  clear hA
  obtain ⟨kk, hk1, hk2, hA⟩ := A.out.tail HK.out
  have fk := A.out.m.cells.2.2 1
  have AT := Lib.hid hA
  clear hA
  go_wp2_with fail
  refine calls_gen (P := fun W => AR w W pb D w1.heap.size (.good us.tail) (hd us)) AT.out ?_
  clear hk1 fk AT A
  rintro WT hA
  refine (HX.out WT pb _ _ _ (by decide) (by push_cast; rfl) hA.m).mono ?_
  rintro e w9 ⟨v9, rfl, hO9, hM9, hF9⟩
  have hz9 := hF9.size
  have hzT := hA.f.size
  have hlT := hA.t.lt
  have A := Lib.hid (hA.fx hM9 hF9)
  have HO9 := Lib.hid hO9
  clear hA hO9 hM9 hF9
  obtain ⟨b0, b1, b2, b3⟩ := Bx.cells4 A.out.r
  obtain ⟨y0, y1, y2, y3⟩ := Bx.frozen4 A.out.r
  have hbl := A.out.r.lt
  obtain ⟨t0, t1, t2, hlt⟩ := A.out.tc
  have HN := Lib.hid (fot_un (W := ((((w9.setCell ⟨w.heap.size, 0, none⟩ (.string ⟨(hd us).text.toArray⟩)).setCell ⟨w.heap.size, 1, none⟩ (.string ⟨#[]⟩)).setCell ⟨w.heap.size, 2, none⟩ (.slice (some ⟨w9.heap.size + 1, 0, none⟩) 1 1)).setCell ⟨w.heap.size, 3, none⟩ (.int .i64 ((hd us).pos : Int))).alloc (.cells #[.string v9.o, .string v9.nm, .slice v9.A v9.ll v9.cap, .int .i64 v9.p] 32)) (T := Rg (w.heap.size + 1) (w9.heap.size + 2)) (hd us).text (hd us).pos (g := w9.heap.size + 1) (by simp) ((HO9.out.setS4 (by unfold Rg; omega)).alloc (.cells #[.string v9.o, .string v9.nm, .slice v9.A v9.ll v9.cap, .int .i64 v9.p] 32)) (fun j _ hj => ⟨by have := hj.1; omega, by have := hj.2; omega⟩) ⟨by omega, by omega⟩)
  go_wp2
  obtain ⟨d0, d1, d2, d3⟩ := (((Bx.set4 (x0 := (.string ⟨(hd us).text.toArray⟩)) (x1 := (.string ⟨#[]⟩)) (x2 := (.slice (some ⟨w9.heap.size + 1, 0, none⟩) 1 1)) (x3 := (.int .i64 ((hd us).pos : Int))) A.out.r).alloc (.cells #[.string v9.o, .string v9.nm, .slice v9.A v9.ll v9.cap, .int .i64 v9.p] 32)).alloc (.cells #[.string v9.o, .string v9.nm, .slice v9.A v9.ll v9.cap, .int .i64 v9.p] 32)).cells4
  rw [HR.out]
  refine bodyPost_ret (v := .agg #[.string ⟨(hd us).text.toArray⟩, .string ⟨#[]⟩, .slice (some ⟨w9.heap.size + 1, 0, none⟩) 1 1, .int .i64 ((hd us).pos : Int)]) (by simp [results, Tryz.results50, go_sem, d0, d1, d2, d3]) rfl ⟨⟨⟨(hd us).text.toArray⟩, ⟨#[]⟩, some ⟨w9.heap.size + 1, 0, none⟩, 1, 1, ((hd us).pos : Int)⟩, rfl, ?_, ?_, ?_⟩
  · exact HN.out.wide (fun j _ hj => ⟨hj.1, by have := hj.2; simp; omega⟩)
  · exact ((A.out.m.setR A.out.r).alloc (.cells #[.string v9.o, .string v9.nm, .slice v9.A v9.ll v9.cap, .int .i64 v9.p] 32)).alloc (.cells #[.string v9.o, .string v9.nm, .slice v9.A v9.ll v9.cap, .int .i64 v9.p] 32)
  · exact ((A.out.f.set4 (.inl (Nat.le_refl _))).alloc (.cells #[.string v9.o, .string v9.nm, .slice v9.A v9.ll v9.cap, .int .i64 v9.p] 32)).alloc (.cells #[.string v9.o, .string v9.nm, .slice v9.A v9.ll v9.cap, .int .i64 v9.p] 32)

set_option maxHeartbeats 4000000 in
set_option maxRecDepth 100000 in
theorem rfone_par {d : Dq} {lev : Nat} {us : List Tok} (hlev : lev ≤ 64) (hf : RDC 0 (lev + 1) D d.f) (hrk : Rok d.f) (hk : (hd us).kind ≠ 3) (hi0 : isT (hd us) [116, 114, 117, 101] = false) (hi1 : isT (hd us) [102, 97, 108, 115, 101] = false) (hi2 : isT (hd us) [33] = false) (hi3 : isT (hd us) [88] = false) (hi4 : isT (hd us) [70] = false) (hi5 : isT (hd us) [71] = false) (w : World) (h : DS w pb D (.good us)) : Calls Tryz.prog 50 #[.pointer (some ⟨pb, 0, none⟩), .int .i64 (lev : Int)] w (DFP pb D (prefS d (.good us)) w) := by
  have hl := h.lt
  have H := Lib.hid h
  have g1 : (((hd us).kind : Int) == 3) = false := by rw [beq_eq_false_iff_ne]; omega
  have HI0 := Lib.hid (show isT (hd us) (⟨#[116, 114, 117, 101]⟩ : ByteArray).data.toList = false from hi0)
  have HI1 := Lib.hid (show isT (hd us) (⟨#[102, 97, 108, 115, 101]⟩ : ByteArray).data.toList = false from hi1)
  have HI2 := Lib.hid (show isT (hd us) (⟨#[33]⟩ : ByteArray).data.toList = false from hi2)
  have HI3 := Lib.hid (show isT (hd us) (⟨#[88]⟩ : ByteArray).data.toList = false from hi3)
  have HI4 := Lib.hid (show isT (hd us) (⟨#[70]⟩ : ByteArray).data.toList = false from hi4)
  have HI5 := Lib.hid (show isT (hd us) (⟨#[71]⟩ : ByteArray).data.toList = false from hi5)
  have hsp : sp 4 (hd us) = false := by rw [sp_4]; simp [hi2, hi3, hi4, hi5]
  have HR := Lib.hid (show prefS d (.good us) = (mvO (hd us).pos (d.f ((St.good us).want [40])).1, (d.f ((St.good us).want [40])).2.want [41]) by
    rw [pref_good, if_neg (by rw [hsp]; simp), atom_good, if_neg hk, if_neg (by rw [show isT (hd us) opTrue = false from hi0]; simp), if_neg (by rw [show isT (hd us) opFalse = false from hi1]; simp)]
    by_cases h4 : isT (hd us) [40] = true
    · rw [if_pos h4, want_go h4]; rfl
    · rw [if_neg h4]
      have hw : (St.good us).want [40] = .bad 20 (hd us).pos := by unfold St.want; rw [if_neg (show ¬ isT (St.good us).hd [40] = true from h4)]; rfl
      rw [hw, hrk.bad]; rfl)
  have HFF := Lib.hid hf
  clear h hk hsp hf hrk hi0 hi1 hi2 hi3 hi4 hi5
  go_enter Tryz.func50, Tryz.ntmps50
  go_wp2_with fail
  refine calls_gen (P := fun W => DS W pb D (.good us) ∧ Bx W w.heap.size 32 zc4 ∧ Fx (X1 pb) w W) ⟨H.out.alloc _, Bx.new w 32 zc4, (Fx.refl _ _).alloc _⟩ ?_
  rintro W ⟨hM, hB, hF⟩
  refine (rnow_any hM).mono ?_
  rintro e w1 ⟨rfl, hb1⟩
  have hs1 := hB.lt
  have hz1 := hb1.size
  have A := Lib.hid (show AR w (w1.alloc (.cells #[.int .i64 ((hd us).kind : Int), .string ⟨(hd us).text.toArray⟩, .int .i64 ((hd us).pos : Int)] 70)) pb D w1.heap.size (.good us) (hd us) from ⟨(hM.below hb1).alloc _, Bx.new w1 70 [_, _, _], (hB.below hb1).alloc _, (hF.on hb1).alloc _, by omega, hl⟩)
  have hlp := (hM.below hb1).lt
  clear hM hB hF hb1
  go_wp2_with fail
  refine (A.out.is_ ⟨#[116, 114, 117, 101]⟩ HI0.out).mono ?_
  rintro e wi0 ⟨rfl, hA⟩
  obtain ⟨t0, t1, t2, hlt⟩ := hA.tc
  have hlp := hA.m.lt
  have A := Lib.hid hA
  clear hA
  go_wp2_with fail
  refine (A.out.is_ ⟨#[102, 97, 108, 115, 101]⟩ HI1.out).mono ?_
  rintro e wi1 ⟨rfl, hA⟩
  obtain ⟨t0, t1, t2, hlt⟩ := hA.tc
  have hlp := hA.m.lt
  have A := Lib.hid hA
  clear hA
  go_wp2_with fail
  refine (A.out.is_ ⟨#[33]⟩ HI2.out).mono ?_
  rintro e wi2 ⟨rfl, hA⟩
  obtain ⟨t0, t1, t2, hlt⟩ := hA.tc
  have hlp := hA.m.lt
  have A := Lib.hid hA
  clear hA
  go_wp2_with fail
  refine (A.out.is_ ⟨#[88]⟩ HI3.out).mono ?_
  rintro e wi3 ⟨rfl, hA⟩
  obtain ⟨t0, t1, t2, hlt⟩ := hA.tc
  have hlp := hA.m.lt
  have A := Lib.hid hA
  clear hA
  go_wp2_with fail
  refine (A.out.is_ ⟨#[70]⟩ HI4.out).mono ?_
  rintro e wi4 ⟨rfl, hA⟩
  obtain ⟨t0, t1, t2, hlt⟩ := hA.tc
  have hlp := hA.m.lt
  have A := Lib.hid hA
  clear hA
  go_wp2_with fail
  refine (A.out.is_ ⟨#[71]⟩ HI5.out).mono ?_
  rintro e wi5 ⟨rfl, hA⟩
  obtain ⟨t0, t1, t2, hlt⟩ := hA.tc
  have hlp := hA.m.lt
  have A := Lib.hid hA
  clear hA
  go_wp2_with fail
  refine (rwant_any A.out.m ⟨#[40]⟩).mono ?_
  rintro e wa ⟨rfl, hFa, hDa⟩
  have A := Lib.hid (A.out.fx hDa (Fx.ofFr1 hFa))
  clear hFa hDa
  go_wp2_with fail
  refine (HFF.out wa pb _ _ _ (by decide) (by push_cast; rfl) A.out.m).mono ?_
  rintro e w9 ⟨v9, rfl, hO9, hM9, hF9⟩
  have hz9 := hF9.size
  have hzT := A.out.f.size
  have hlT := A.out.t.lt
  have A := Lib.hid ((A.out.fx hM9 hF9).below ((Below.refl _ _).alloc (Nat.le_refl _) (.cells #[.string v9.o, .string v9.nm, .slice v9.A v9.ll v9.cap, .int .i64 v9.p] 32)))
  have HO9 := Lib.hid ((hO9.wide (T := fun j => w.heap.size + 1 ≤ j ∧ j < w9.heap.size) (fun j _ hj => ⟨by have := hj.1; omega, hj.2⟩)).alloc (.cells #[.string v9.o, .string v9.nm, .slice v9.A v9.ll v9.cap, .int .i64 v9.p] 32))
  have HB9 := Lib.hid (Bx.new w9 32 v9.c)
  clear hO9 hM9 hF9
  go_wp2_with fail
  refine calls_gen (P := fun W => AR w W pb D w1.heap.size (d.f ((St.good us).want [40])).2 (hd us) ∧ FOT 32 W (fun j => w.heap.size + 1 ≤ j ∧ j < w9.heap.size) (d.f ((St.good us).want [40])).1 v9 ∧ Bx W w9.heap.size 32 v9.c ∧ w9.heap.size < W.heap.size) ⟨A.out, HO9.out, HB9.out, by simp⟩ ?_
  clear A HO9 HB9
  rintro WT ⟨hA, hO, hB, hzW⟩
  refine (rwant_any hA.m ⟨#[41]⟩).mono ?_
  rintro e wb ⟨rfl, hFb, hDb⟩
  have hzb := hFb.size
  have hpl := hA.pl
  have hB9 := hB.fx (Fx.ofFr1 hFb) (x1_no (by omega))
  have HO9 := Lib.hid (hO.fx (Fx.ofFr1 hFb) (fun j hj => x1_no (by omega)))
  have A := Lib.hid (hA.fx hDb (Fx.ofFr1 hFb))
  have HB9 := Lib.hid hB9
  clear hA hO hB hFb hDb
  obtain ⟨b0, b1, b2, b3⟩ := Bx.cells4 A.out.r
  obtain ⟨y0, y1, y2, y3⟩ := Bx.frozen4 A.out.r
  have hbl := A.out.r.lt
  obtain ⟨t0, t1, t2, hlt⟩ := A.out.tc
  obtain ⟨e0, e1, e2, e3⟩ := Bx.cells4 hB9
  obtain ⟨x0, x1, x2, x3⟩ := Bx.frozen4 hB9
  have hlE := hB9.lt
  have hne : w.heap.size ≠ w9.heap.size := by omega
  have hne2 : w1.heap.size ≠ w9.heap.size := by omega
  clear hB9
  go_wp2
  have hBx := A.out.r.far (p := ⟨w9.heap.size, 3, none⟩) hne (.int .i64 ((hd us).pos : Int))
  obtain ⟨d0, d1, d2, d3⟩ := (Bx.set4 (x0 := .string v9.o) (x1 := .string v9.nm) (x2 := .slice v9.A v9.ll v9.cap) (x3 := .int .i64 ((hd us).pos : Int)) hBx).cells4
  rw [HR.out]
  refine bodyPost_ret (v := .agg #[.string v9.o, .string v9.nm, .slice v9.A v9.ll v9.cap, .int .i64 ((hd us).pos : Int)]) (by simp [results, Tryz.results50, go_sem, d0, d1, d2, d3]) rfl ⟨{ v9 with p := ((hd us).pos : Int) }, rfl, ?_, ?_, ?_⟩
  · exact FOT.mv _ (((HO9.out.setS (q := w9.heap.size) (i := 3) (by omega) _).setS4 (by omega)).wide (fun j _ hj => ⟨hj.1, by have := hj.2; simp; omega⟩))
  · exact (A.out.m.setB HB9.out (by decide) (by decide) _).setR hBx
  · exact (A.out.f.setCell (p := ⟨w9.heap.size, 3, none⟩) (.inl (by show w.heap.size ≤ w9.heap.size; omega)) _).set4 (.inl (Nat.le_refl _))

theorem onc_any {d : Dq} {lev : Nat} (hlev : lev ≤ 64) (hx : RDC 4 (lev + 1) D d.x) (hf : RDC 0 (lev + 1) D d.f) (hrk : Rok d.f) : ONC lev D (prefS d) := by
  intro w pb us h
  by_cases hk : (hd us).kind = 3
  · exact rfone_lab hk w h
  cases hi0 : isT (hd us) [116, 114, 117, 101] with
  | true => exact rfone_true hk hi0 w h
  | false =>
    cases hi1 : isT (hd us) [102, 97, 108, 115, 101] with
    | true => exact rfone_false hk hi0 hi1 w h
    | false =>
      cases hi2 : isT (hd us) [33] with
      | true => exact rfone_x0 hlev hx hk hi0 hi1 hi2 w h
      | false =>
        cases hi3 : isT (hd us) [88] with
        | true => exact rfone_x1 hlev hx hk hi0 hi1 hi2 hi3 w h
        | false =>
          cases hi4 : isT (hd us) [70] with
          | true => exact rfone_x2 hlev hx hk hi0 hi1 hi2 hi3 hi4 w h
          | false =>
            cases hi5 : isT (hd us) [71] with
            | true => exact rfone_x3 hlev hx hk hi0 hi1 hi2 hi3 hi4 hi5 w h
            | false => exact rfone_par hlev hf hrk hk hi0 hi1 hi2 hi3 hi4 hi5 w h
structure RDD (D l lev : Nat) : Prop where
  f : RDC 0 lev D (dq l).f
  u : RDC 3 lev D (dq l).u
  x : RDC 4 lev D (dq l).x
theorem rdd_zero {lev : Nat} (h : D < lev) : RDD D 0 lev := by
  have key : ∀ k, RDC k lev D deepS := fun k w pb st y z hy hz hs => by
    subst hz
    cases st with
    | good us => exact rfread_deep h y w hs
    | bad c q => exact rfread_bad y _ w hs
  exact ⟨key 0, key 3, key 4⟩
theorem rdd_succ {l lev : Nat} (h : lev ≤ D) (hD : D ≤ 64) (ih : RDD D l (lev + 1)) : RDC 0 lev D (formS (dq l)) ∧ RDC 3 lev D (untlS (dq l)) ∧ RDC 4 lev D (prefS (dq l)) := by
  have r := rok_dq l
  have a := rok_all r
  have one := onc_any (lev := lev) (by omega) ih.x ih.f r.f
  have x : RDC 4 lev D (prefS (dq l)) := fun w pb st y z hy hz hs => by
    subst hy hz
    cases st with
    | good us => exact rfread_4 h one w hs
    | bad c q => rw [a.x.bad]; exact rfread_bad _ _ w hs
  have u : RDC 3 lev D (untlS (dq l)) := fun w pb st y z hy hz hs => by
    subst hy hz
    cases st with
    | good us => exact rfread_3 h hD x ih.u w hs
    | bad c q => rw [a.u.bad]; exact rfread_bad _ _ w hs
  have c : RDC 2 lev D (conjS (dq l)) := fun w pb st y z hy hz hs => by
    subst hy hz
    cases st with
    | good us => exact rfread_2 h hD u a.u w hs
    | bad c q => rw [a.a.bad]; exact rfread_bad _ _ w hs
  have o : RDC 1 lev D (disjS (dq l)) := fun w pb st y z hy hz hs => by
    subst hy hz
    cases st with
    | good us => exact rfread_1 h hD c a.a w hs
    | bad c q => rw [a.o.bad]; exact rfread_bad _ _ w hs
  refine ⟨fun w pb st y z hy hz hs => ?_, u, x⟩
  subst hy hz
  cases st with
  | good us => exact rfread_0 h hD o ih.f w hs
  | bad c q => rw [a.f.bad]; exact rfread_bad _ _ w hs
theorem rdd_all (hD : D ≤ 64) : ∀ l lev : Nat, lev + l = D + 1 → RDD D l lev
  | 0, lev, h => rdd_zero (by omega)
  | l + 1, lev, h => by
    obtain ⟨f, u, x⟩ := rdd_succ (by omega) hD (rdd_all hD l (lev + 1) (by omega))
    exact ⟨by rw [dq_two]; exact f, by rw [dq_two]; exact u, by rw [dq_two]; exact x⟩
end
end
end Go.Proofs.YtjhicgllofjpoaaGreatDoor
