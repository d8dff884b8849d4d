/-
  An expression told: walked. An expression with kids told, and Print: walked.
-/
import Derived.Test.YtjhicgllofjpoaaGreatDoorXB
import Derived.Test.YtjhicgllofjpoaaGreatDoorQQ
import Derived.Laws.BytesArg
namespace Go.Proofs.YtjhicgllofjpoaaGreatDoor
section
open Go.RowKit Go.Sort

/-- What stands ahead of a kid, and the kid. -/
def segX (op : List UInt8) (ks : List Ex) (i : Nat) : List UInt8 := (sgnsX op).getD i [] ++ (match ks[i]? with | some k => parX (decide (rk k.op < lo (rk op) i)) (shw k) | none => [])
def preS (op : List UInt8) (ks : List Ex) : Nat → List UInt8
  | 0 => []
  | k + 1 => preS op ks k ++ segX op ks k
theorem preS_le (op : List UInt8) (ks : List Ex) {j k : Nat} (h : j ≤ k) : (preS op ks j).length ≤ (preS op ks k).length := by
  induction k with
  | zero => have : j = 0 := by omega
            subst this; exact Nat.le_refl _
  | succ k ih =>
    by_cases he : j = k + 1
    · subst he; exact Nat.le_refl _
    · have := ih (by omega)
      simp only [preS, List.length_append]
      omega
/-- With kids: as many as signs. -/
structure Kd (x : Ex) : Prop where
  len : (sgnsX x.op).length = x.kids.length
  all : shw x = preS x.op x.kids x.kids.length
  rank : rk x.op < 9
  op : x.op.length ≤ 3
  sgn : ∀ i, ((sgnsX x.op).getD i []).length ≤ 5
theorem op_len {x : List UInt8} (h : rk x < 9) : x.length ≤ 3 := by
  unfold rk at h
  repeat' split at h
  all_goals (first | (simp_all; done) | skip)
  · rename_i hc
    simp only [cmpB, Bool.or_eq_true, beq_iff_eq] at hc
    rcases hc with ((((rfl | rfl) | rfl) | rfl) | rfl) | rfl <;> simp
  · rename_i hc
    rcases hc with rfl | rfl <;> simp
theorem sgn_len {op : List UInt8} (h : op.length ≤ 3) (i : Nat) : ((sgnsX op).getD i []).length ≤ 5 := by
  unfold sgnsX
  split
  · match i with
    | 0 => simp
    | 1 => simp
    | 2 => simp
    | i + 3 => simp
  · split
    · match i with
      | 0 => simp
      | i + 1 => simp
    · split
      · match i with
        | 0 => simp
        | i + 1 => simp
      · match i with
        | 0 => simp
        | 1 => simp; omega
        | i + 2 => simp
theorem kd_un {op : List UInt8} {a : Ex} {p : Nat} (h : op = [33] ∨ op = opNeg) : Kd (.un op a p) := by
  rcases h with rfl | rfl
  · refine ⟨rfl, ?_, (show rk [33] < 9 by decide), (show [(33 : UInt8)].length ≤ 3 by decide), sgn_len (show [(33 : UInt8)].length ≤ 3 by decide)⟩
    have e1 : sgnsX [33] = [[33]] := rfl
    have e2 : rk [33] = 4 := rfl
    simp [shw, preS, segX, Ex.op, Ex.kids, e1, e2, lo, opNeg]
  · refine ⟨rfl, ?_, (show rk opNeg < 9 by decide), (show opNeg.length ≤ 3 by decide), sgn_len (show opNeg.length ≤ 3 by decide)⟩
    have e1 : sgnsX opNeg = [[45]] := rfl
    have e2 : rk opNeg = 8 := rfl
    simp [shw, preS, segX, Ex.op, Ex.kids, e1, e2, lo]
theorem kd_bin {op : List UInt8} {a b : Ex} {p : Nat} (h : rk op = 1 ∨ rk op = 2 ∨ rk op = 3 ∨ rk op = 5 ∨ rk op = 6 ∨ rk op = 7) : Kd (.bin op a b p) := by
  have e1 : sgnsX op = [[], 32 :: op ++ [32]] := by unfold sgnsX; rw [if_neg (by omega), if_neg (by omega), if_neg (by omega)]
  refine ⟨by simp [Ex.op, Ex.kids, e1], ?_, by simp only [Ex.op]; omega, op_len (by simp only [Ex.op]; omega), sgn_len (op_len (by simp only [Ex.op]; omega))⟩
  simp [shw, preS, segX, Ex.op, Ex.kids, e1]
theorem kd_cond {a b c : Ex} {p : Nat} : Kd (.cond a b c p) := by
  have e1 : sgnsX [63] = [[], [32, 63, 32], [32, 58, 32]] := rfl
  have e2 : rk [63] = 0 := rfl
  refine ⟨rfl, ?_, (show rk [63] < 9 by decide), (show [(63 : UInt8)].length ≤ 3 by decide), sgn_len (show [(63 : UInt8)].length ≤ 3 by decide)⟩
  simp [shw, preS, segX, Ex.op, Ex.kids, e1, e2, lo, parX]
theorem sign_cell {w : World} {gs : Nat} {ss : List (List UInt8)} (h : w.heap[gs]? = some (.cells (ss.map strV).toArray 9 (0, 0))) {k : Nat} (hk : k < ss.length) : w.cell? ⟨gs, k, none⟩ = some (.string ⟨(ss.getD k []).toArray⟩) := by
  rw [rd_cell h]
  simp [hk, strV]
end
section
open Go.RowKit Go.Sort

theorem grow_drew {w w1 : World} {r : Option Nat} (h : w.grownBy w1 r) : w.grownBy w1.drew r := ⟨h.os, h.tape, h.output, h.size, h.block⟩
theorem dgs_pos (n : Nat) : 0 < (dgs n).length := by unfold dgs; rw [Lib.decDigits_length]; exact Lib.nDigits_pos n
theorem shw_pos : ∀ x : Ex, Ok x → 0 < (shw x).length
  | .leaf op nm n p, h => by
    rcases h with ⟨rfl, rfl, h⟩ | ⟨rfl, rfl, ⟨⟨c, r, h, _⟩, _⟩, _⟩ | ⟨h, rfl, rfl⟩
    · exact dgs_pos n
    · subst h; simp [shw, opName, opNum]
    · rcases h with rfl | rfl <;> simp [shw, opTrue, opFalse, opNum, opName]
  | .un op a p, _ => by simp [shw]
  | .bin op a b p, _ => by simp [shw]; omega
  | .cond a b c p, _ => by simp [shw]; omega
theorem nums_bytes (l : List UInt8) : strOfNums (l.map fun b => (b.toNat : Int)) = ⟨l.toArray⟩ := by
  unfold strOfNums
  congr 2
  rw [List.map_map]
  conv => rhs; rw [← List.map_id l]
  apply List.map_congr_left
  intro b _
  simp
theorem txt_string {B g n cap : Nat} {w : World} {l : List UInt8} (h : Txt B w (.slice (some ⟨g, 0, none⟩) n cap) l) (hn : n = l.length) : (convert 84 9 (.slice (some ⟨g, 0, none⟩) n cap)).run Tryz.prog w = .ok (.string ⟨l.toArray⟩) w := by
  rw [← nums_bytes]
  refine run_convert_bytes_arg w 84 5 Tryz.underlying84 Tryz.underlying5 g 0 n cap (l.map fun b => (b.toNat : Int)) (by rw [List.length_map, hn]) ?_ 9 Tryz.underlying9
  intro i hi
  have hi' : i < l.length := by omega
  have := h.own.cells (g := g) rfl i (.int .u8 (l[i].toNat : Int)) (by simp [Lib.byteCells, hi'])
  rw [Lib.add_plain] at this
  rw [this]
  simp [hi']
end
end Go.Proofs.YtjhicgllofjpoaaGreatDoor
