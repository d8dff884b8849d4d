/-
  A variable, walked.
-/
import Derived.Test.YtddeplbgihcdkaaGreatDoorGb
import Derived.Deep.AppendLies
import Derived.Deep.WholeRow
import Derived.Great.Walk
import Derived.Great.BuildSlice
import Derived.Deep.Cut
namespace Go.Proofs.YtddeplbgihcdkaaGreatDoor
open Go.RowKit

section
variable {xb rb b D : Nat} {st : St}
/-- What a variable's reader tells. -/
def VmP (xb rb b D : Nat) (d : VarO × St) (w : World) (e : Ending) (w' : World) : Prop :=
  ∃ p q r : XV, e = .returned (.agg #[.string ⟨d.1.nm.toArray⟩, .bool d.1.isB, .string p.o, .string p.nm, .int .i64 p.n, .slice p.A p.ll p.cap, .int .i64 p.p, .string q.o, .string q.nm, .int .i64 q.n, .slice q.A q.ll q.cap, .int .i64 q.p, .string r.o, .string r.nm, .int .i64 r.n, .slice r.A r.ll r.cap, .int .i64 r.p, .bool d.1.has, .int .i64 ((d.1.pos : Nat) : Int)]) ∧ XO w' (w.heap.size + 1) d.1.low p.c ∧ XO w' (w.heap.size + 1) d.1.high q.c ∧ XO w' (w.heap.size + 1) d.1.ini r.c ∧ MRd w' xb rb b D d.2 ∧ Fx (X2 xb rb) w w'
theorem row_at {w : World} {q : Nat} {t : TypeId} {cs : List Value} (h : Bx w q t cs) (us : Array Value) : (w.setRow q us).heap[q]? = some (.cells us t (0, 0)) := by
  simp [World.setRow, Array.getElem?_modify, show w.heap[q]? = _ from h]
theorem row_far {w : World} {q k : Nat} {us : Array Value} (hk : k ≠ q) : (w.setRow q us).heap[k]? = w.heap[k]? := by
  simp [World.setRow, Array.getElem?_modify, Ne.symm hk]
theorem row_size (w : World) (q : Nat) (us : Array Value) : w.heap.size ≤ (w.setRow q us).heap.size := by simp [World.setRow]
theorem Kt.var {w : World} {c q : Nat} {cs : List Value} {i : Nat} {us : List Value} (h : Bx w q 200 cs) : Kt c (fun e => e = 200) w (Go.Proofs.YtddeplbgihcdkaaGreatDoor.setL w q i us) := fun k _ _ _ h1 h2 => setL_heap (show k ≠ q from fun hkq => h2 (blk_typ (hkq ▸ h1) h)) us w i
end
end Go.Proofs.YtddeplbgihcdkaaGreatDoor
