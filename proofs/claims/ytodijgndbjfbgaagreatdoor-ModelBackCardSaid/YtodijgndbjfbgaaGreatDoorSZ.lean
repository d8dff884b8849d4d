/-
  Size, walked.
-/
import Derived.Test.YtodijgndbjfbgaaGreatDoorXA
import Derived.Test.YtodijgndbjfbgaaGreatDoorWF
import Derived.WalkSmall
import Derived.Maps.AppendAt
import Derived.Laws.AppendOwnNone
namespace Go.Proofs.YtodijgndbjfbgaaGreatDoor
open Go.RowKit

theorem infoX : (Tryz.prog.info? 57).map (fun i => (i.zero, i.size, i.bytes)) = some (some (.agg #[.string ⟨#[]⟩, .string ⟨#[]⟩, .int .i64 0, .slice none 0 0, .int .i64 0]), 5, 72) := by kernel_rfl
theorem row_forms {w : World} {base size n : Nat} {e : TypeId} {v : Value} {xs : List Value} (h : w.ownsRow base e size v n xs) : (v = .slice none 0 0 ∧ n = 0) ∨ ∃ g cap, v = .slice (some ⟨g, 0, none⟩) n cap := by
  rcases h.2 with h | ⟨g, cap, cur, hv, _⟩
  · exact .inl h
  · exact .inr ⟨g, cap, hv⟩
theorem row_form {w : World} {base size n : Nat} {e : TypeId} {v : Value} {xs : List Value} (h : w.ownsRow base e size v n xs) (hn : 0 < n) : ∃ g cap, v = .slice (some ⟨g, 0, none⟩) n cap := by
  rcases row_forms h with ⟨_, h⟩ | h
  · omega
  · exact h
/-- A list of expressions in memory; its head lies last. -/
def Stk (w : World) (S : Nat → Prop) : List Ex → List Value → Prop
  | [], cs => cs = []
  | x :: r, cs => ∃ c0 c, cs = c0 ++ c ∧ HS w 57 S x c ∧ Stk w S r c0
theorem Stk.len {w : World} {S : Nat → Prop} : ∀ {r : List Ex} {cs : List Value}, Stk w S r cs → cs.length = r.length * 5
  | [], cs, h => by rw [show cs = [] from h]; rfl
  | x :: r, cs, ⟨c0, c, h1, h2, h3⟩ => by rw [h1, List.length_append, h3.len, h2.len5, List.length_cons]; omega
theorem one_exC {o nm : ByteArray} {n : Int} {A : Option Addr} {l cap : Nat} {p : Int} : ∀ u ∈ exC o nm n A l cap p, u.oneCell' = true := by
  intro u hu
  simp only [exC, List.mem_cons, List.not_mem_nil, or_false] at hu
  rcases hu with rfl | rfl | rfl | rfl | rfl <;> rfl
theorem HS.one {w : World} {e : TypeId} {S : Nat → Prop} {x : Ex} {c : List Value} (h : HS w e S x c) : ∀ u ∈ c, u.oneCell' = true := by
  obtain ⟨nm, n, A, l, cap, rfl⟩ := h.form
  exact one_exC
theorem Arr.cells {w : World} {e : TypeId} {S : Nat → Prop} {g : Nat} {xs : List Value} (h : Arr w e S g xs) : ∀ (j : Nat) (u : Value), xs[j]? = some u → w.cell? ((⟨g, 0, none⟩ : Addr).add j) = some u := by
  intro j u hu
  have e : (⟨g, 0, none⟩ : Addr).add j = ⟨g, j, none⟩ := by
    unfold Addr.add
    by_cases hj : j = 0 <;> simp [hj]
  rw [e]
  exact h.cell hu
theorem HS.push {w : World} {S : Nat → Prop} : ∀ {y : Ex} {c : List Value}, HS w 57 S y c →
    (∃ op nm n p, y.kids = [] ∧ c = exC op nm n none 0 0 p) ∨
    ∃ op nm n g cap news p, c = exC op nm n (some ⟨g, 0, none⟩) y.kids.length cap p ∧ 0 < y.kids.length ∧ news.length = y.kids.length * 5 ∧ (∀ (j : Nat) (u : Value), news[j]? = some u → w.cell? ((⟨g, 0, none⟩ : Addr).add j) = some u) ∧ (∀ u ∈ news, u.oneCell' = true) ∧ g < w.heap.size ∧
      ∀ r cs, Stk w S r cs → Stk w S (y.kids.reverse ++ r) (cs ++ news)
  | .leaf _ _ _ _, _, h => .inl ⟨_, _, _, _, rfl, h⟩
  | .un _ a _, _, ⟨g, cap, ca, h1, h2, h3⟩ => .inr ⟨_, _, _, g, cap, ca, _, h1, by simp [Ex.kids], by simp [Ex.kids, h3.len5], h2.cells, h3.one, (by obtain ⟨_, _, q, _⟩ := h2; exact blk_lt q), fun r cs hr => ⟨cs, ca, rfl, h3, hr⟩⟩
  | .bin _ a b _, _, ⟨g, cap, ca, cb, h1, h2, h3, h4⟩ => .inr ⟨_, _, _, g, cap, ca ++ cb, _, h1, by simp [Ex.kids], by simp [Ex.kids, h3.len5, h4.len5], h2.cells, (fun u hu => (List.mem_append.1 hu).elim (h3.one u) (h4.one u)), (by obtain ⟨_, _, q, _⟩ := h2; exact blk_lt q), fun r cs hr => ⟨cs ++ ca, cb, by simp, h4, ⟨cs, ca, rfl, h3, hr⟩⟩⟩
  | .cond a b d _, _, ⟨g, cap, ca, cb, cd, h1, h2, h3, h4, h5⟩ => .inr ⟨_, _, _, g, cap, ca ++ (cb ++ cd), _, h1, by simp [Ex.kids], by simp [Ex.kids, h3.len5, h4.len5, h5.len5], h2.cells, (fun u hu => (List.mem_append.1 hu).elim (h3.one u) (fun h => (List.mem_append.1 h).elim (h4.one u) (h5.one u))), (by obtain ⟨_, _, q, _⟩ := h2; exact blk_lt q), fun r cs hr => ⟨cs ++ (ca ++ cb), cd, by simp, h5, ⟨cs ++ ca, cb, by simp, h4, ⟨cs, ca, rfl, h3, hr⟩⟩⟩⟩
def sizes : List Ex → Nat
  | [] => 0
  | x :: r => x.size + sizes r
theorem sizes_app : ∀ a b : List Ex, sizes (a ++ b) = sizes a + sizes b
  | [], b => by simp [sizes]
  | x :: a, b => by simp [sizes, sizes_app a b]; omega
theorem size_kids (x : Ex) : x.size = sizes x.kids.reverse + 1 := by cases x <;> simp [Ex.size, Ex.kids, sizes] <;> omega
theorem size_pos (x : Ex) : 0 < x.size := by cases x <;> simp [Ex.size]
def SzRel (w : World) (S : Nat → Prop) (T : Nat) (i v : Value) (wr : World) : Prop :=
  ∃ r cs k, i = .int .i64 ((k : Nat) : Int) ∧ k ≤ 4097 ∧ k + sizes r = T ∧ r.length ≤ 1 + 2 * k ∧ Stk w S r cs ∧ wr.ownsRow (w.heap.size + 1) 57 5 v r.length cs ∧ Below w.heap.size w wr
theorem ret_i64 {a b : Nat} (h : a = b) : Ending.returned (.int .i64 (a : Int)) = .returned (.int .i64 (b : Int)) := by rw [h]
theorem add_blk (a : Addr) (n : Nat) : (a.add n).block = a.block := by unfold Addr.add; split <;> rfl
theorem own_ge {g k n c B : Nat} (h : (Value.slice (some ⟨g, 0, none⟩) n c).ownBlock = some k) (hg : B ≤ g) : B ≤ k := by
  have hk : g = k := by simpa [Value.ownBlock] using h
  omega
theorem kids3 (x : Ex) : x.kids.length ≤ 3 := by cases x <;> simp [Ex.kids]
end Go.Proofs.YtodijgndbjfbgaaGreatDoor
