/-
  Two tokens compared.
-/
import Derived.Test.YtfemddchaihokaaDoorLa
import Derived.Laws.StructEq
namespace Go.Proofs.YtfemddchaihokaaDoor
open Go.RowKit

theorem guardR : Tryd.prog.eqGuardType Tryd.prog.depth 33 = false := by kernel_rfl
theorem guardT : Tryd.prog.eqGuardType Tryd.prog.depth 34 = false := by kernel_rfl
theorem structR : Tryd.prog.underlying 33 = some (.struct (Tryd.prog.fieldsOf 33)) := by kernel_rfl
theorem structT : Tryd.prog.underlying 34 = some (.struct (Tryd.prog.fieldsOf 34)) := by kernel_rfl
theorem heldR : Tryd.prog.stoodInHeld 33 = false := by kernel_rfl
theorem heldT : Tryd.prog.stoodInHeld 34 = false := by kernel_rfl
theorem fieldsR : (Tryd.prog.fieldsOf 33).toList.map (fun f => (f.name, f.type, f.offset)) = [("Kind", 3, 0), ("Text", 9, 1), ("Pos", 3, 2)] := by kernel_rfl
theorem fieldsT : (Tryd.prog.fieldsOf 34).toList.map (fun f => (f.name, f.type, f.offset)) = [("Kind", 3, 0), ("Text", 9, 1), ("Pos", 3, 2)] := by kernel_rfl
theorem three_of {fs : List Field} {a b c : String × TypeId × Nat} (h : fs.map (fun f => (f.name, f.type, f.offset)) = [a, b, c]) : ∃ f g k : Field, fs = [f, g, k] ∧ (f.name, f.type, f.offset) = a ∧ (g.name, g.type, g.offset) = b ∧ (k.name, k.type, k.offset) = c := by
  match fs, h with
  | [f, g, k], h =>
    simp only [List.map_cons, List.map_nil, List.cons.injEq, and_true] at h
    exact ⟨f, g, k, rfl, h.1, h.2.1, h.2.2⟩
theorem partI (a b c : Value) (w : World) : (part 3 #[a, b, c] 0).run Tryd.prog w = .ok a w ∧ (part 3 #[a, b, c] 2).run Tryd.prog w = .ok c w ∧ (part 9 #[a, b, c] 1).run Tryd.prog w = .ok b w := ⟨by kernel_rfl, by kernel_rfl, by kernel_rfl⟩
theorem neq_sameR (a p : Int) (x : ByteArray) (w : World) : (binOp .neq 33 (.agg #[.int .i64 a, .string x, .int .i64 p]) (.agg #[.int .i64 a, .string x, .int .i64 p])).run Tryd.prog w = .ok (.bool false) w := by
  obtain ⟨f, g, k, hfs, hf, hg, hk⟩ := three_of fieldsR
  simp only [Prod.mk.injEq] at hf hg hk
  obtain ⟨p0, p2, p1⟩ := partI (.int .i64 a) (.string x) (.int .i64 p) w
  have e1 := run_equalIn_int (P := Tryd.prog) w 9998 3 .i64 .i64 a a Tryd.underlying3
  have e2 := run_equalIn_string (P := Tryd.prog) w 9998 9 x x Tryd.underlying9
  have e3 := run_equalIn_int (P := Tryd.prog) w 9998 3 .i64 .i64 p p Tryd.underlying3
  simp only [beq_self_eq_true] at e1 e2 e3
  rw [run_neq_struct, show (10000 : Nat) = 9999 + 1 from rfl, run_equalIn_struct w 9999 33 _ _ structR heldR, hfs]
  simp [Op.eqFields, hf.1, hf.2.1, hf.2.2, hg.1, hg.2.1, hg.2.2, hk.1, hk.2.1, hk.2.2, p0, p1, p2, e1, e2, e3]
theorem neq_sameT (a p : Int) (x : ByteArray) (w : World) : (binOp .neq 34 (.agg #[.int .i64 a, .string x, .int .i64 p]) (.agg #[.int .i64 a, .string x, .int .i64 p])).run Tryd.prog w = .ok (.bool false) w := by
  obtain ⟨f, g, k, hfs, hf, hg, hk⟩ := three_of fieldsT
  simp only [Prod.mk.injEq] at hf hg hk
  obtain ⟨p0, p2, p1⟩ := partI (.int .i64 a) (.string x) (.int .i64 p) w
  have e1 := run_equalIn_int (P := Tryd.prog) w 9998 3 .i64 .i64 a a Tryd.underlying3
  have e2 := run_equalIn_string (P := Tryd.prog) w 9998 9 x x Tryd.underlying9
  have e3 := run_equalIn_int (P := Tryd.prog) w 9998 3 .i64 .i64 p p Tryd.underlying3
  simp only [beq_self_eq_true] at e1 e2 e3
  rw [run_neq_struct, show (10000 : Nat) = 9999 + 1 from rfl, run_equalIn_struct w 9999 34 _ _ structT heldT, hfs]
  simp [Op.eqFields, hf.1, hf.2.1, hf.2.2, hg.1, hg.2.1, hg.2.2, hk.1, hk.2.1, hk.2.2, p0, p1, p2, e1, e2, e3]
end Go.Proofs.YtfemddchaihokaaDoor
