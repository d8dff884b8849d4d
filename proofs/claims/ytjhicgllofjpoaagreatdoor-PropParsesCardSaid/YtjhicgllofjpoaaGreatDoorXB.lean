/-
  A kid, told in parentheses or not: walked.
-/
import Derived.Test.YtjhicgllofjpoaaGreatDoorXA
import Derived.Deep.RegionLaw
import Derived.RegionTactic
import Derived.BigRegion
namespace Go.Proofs.YtjhicgllofjpoaaGreatDoor
open Go.RowKit Go.Sort

theorem HS.keepT {w w' : World} {e : TypeId} {S : Nat → Prop} (hk : ∀ (k : Nat) (cs : Array Value), w.heap[k]? = some (.cells cs e (0, 0)) → w'.heap[k]? = some (.cells cs e (0, 0))) : ∀ {x : Ex} {c : List Value}, HS w e S x c → HS w' e S x c
  | .leaf _ _ _ _, _, h => h
  | .un _ _ _, _, ⟨g, cap, ca, h1, ⟨a1, cs, a2, a3⟩, h3⟩ => ⟨g, cap, ca, h1, ⟨a1, cs, hk _ _ a2, a3⟩, HS.keepT hk h3⟩
  | .bin _ _ _ _, _, ⟨g, cap, ca, cb, h1, ⟨a1, cs, a2, a3⟩, h3, h4⟩ => ⟨g, cap, ca, cb, h1, ⟨a1, cs, hk _ _ a2, a3⟩, HS.keepT hk h3, HS.keepT hk h4⟩
  | .cond _ _ _ _, _, ⟨g, cap, ca, cb, cd, h1, ⟨a1, cs, a2, a3⟩, h3, h4, h5⟩ => ⟨g, cap, ca, cb, cd, h1, ⟨a1, cs, hk _ _ a2, a3⟩, HS.keepT hk h3, HS.keepT hk h4, HS.keepT hk h5⟩
theorem tabs_text {B : Nat} {w w1 : World} {v : Value} {l : List UInt8} (hT : Lib.TabBelow Tryz.prog B w "internal/strconv.uint64pow10" .u64 Lib.pow10Tab) (ht : Txt B w v l) (hg : w.grownBy w1 v.ownBlock) : Lib.TabBelow Tryz.prog B w1 "internal/strconv.uint64pow10" .u64 Lib.pow10Tab := hT.on (ht.bel hg)
/-- The table of powers, which no text touches. -/
def Tab (B : Nat) (w : World) : Prop := Lib.TabBelow Tryz.prog B w "internal/strconv.uint64pow10" .u64 Lib.pow10Tab
theorem Tab.now {B : Nat} {w : World} (h : Tab B w) : Tabs w := h.here
theorem Tab.text {B : Nat} {w w1 : World} {v : Value} {l : List UInt8} (h : Tab B w) (ht : Txt B w v l) (hg : w.grownBy w1 v.ownBlock) : Tab B w1 := tabs_text h ht hg
theorem Tab.below {B : Nat} {w w1 : World} (h : Tab B w) (hB : B ≤ w.heap.size) (hb : Below w.heap.size w w1) : Tab B w1 := Lib.TabBelow.on h (hb.mono hB)
theorem HS.opn {w : World} {e : TypeId} {S : Nat → Prop} {x : Ex} {o nm : ByteArray} {n : Int} {A : Option Addr} {l cap : Nat} {p : Int} (h : HS w e S x (exC o nm n A l cap p)) : o = ⟨x.op.toArray⟩ := by
  obtain ⟨_, _, _, _, _, h1⟩ := h.form
  simp only [exC, List.cons.injEq, Value.string.injEq] at h1
  exact h1.1
theorem Txt.alloc {B : Nat} {w : World} {v : Value} {l : List UInt8} (h : Txt B w v l) (o : Obj) : Txt B (w.alloc o) v l := h.below ((Below.refl _ _).alloc (Nat.le_refl _) _)
theorem one_new {W : World} {g : Nat} {u : Value} {e : TypeId} (h : W.heap[g]? = some (.cells #[u] e (0, 0))) : ∀ (j : Nat) (x : Value), [u][j]? = some x → W.cell? ((⟨g, 0, none⟩ : Addr).add j) = some x := by
  intro j x hj
  match j, hj with
  | 0, hj => simp at hj; subst hj; simpa [Addr.add] using (rd_cell h 0).trans rfl
/-- A byte appended, at a step of a region that draws its order. -/
theorem step_byte {ops : Array Oper} {o : Oper} {a : Act} {K : Act → World → Prop} {Q : Exit → Act → World → Prop} {E : Prop} (W : World) (hgd : o.guard = none) (s x : Operand)
    (ho : o.op = .call { callee := .builtin .append, args := #[s, x], argTypes := #[84, 84] }) {B : Nat} {v : Value} {l : List UInt8} (hs : a.eval s = v) (ht : Txt B W v l) (g : Nat) (hx : a.eval x = .slice (some ⟨g, 0, none⟩) 1 1) (c : UInt8)
    (hg : W.heap[g]? = some (.cells #[.int .u8 (c.toNat : Int)] 5 (0, 0))) (hl : l.length + 1 ≤ 1000000000)
    (k : ∀ g1 cap1 w', Txt B w' (.slice (some ⟨g1, 0, none⟩) (l.length + 1) cap1) (l ++ [c]) → W.grownBy w' v.ownBlock → (v.ownBlock = some g1 ∨ g1 = W.heap.size) → K (a.put o.dst (.slice (some ⟨g1, 0, none⟩) (l.length + 1) cap1)) w') :
    if Region.wanted o (yielded ops a.tmps) = true then Oper.wp Tryz.prog o a W K Q else E := by
  obtain ⟨i0, hi0, hz⟩ := Option.map_eq_some_iff.1 infoB
  simp only [Prod.mk.injEq] at hz
  obtain ⟨hz0, hz1, hz2⟩ := hz
  refine step_append_lies W hgd s x 84 ho B 5 i0 (.int .u8 0) 1 1 Tryz.underlying84 hi0 hz0 hz1 hz2 rfl (by decide) v l.length (Lib.byteCells l) hs ht.own ⟨g, 0, none⟩ 1 1 [.int .u8 (c.toNat : Int)] hx rfl (one_new hg) (by intro u hu; simp at hu; subst hu; rfl) (by omega) (by unfold maxLen; omega) (by omega) ht.low W.heap.size rfl ?_
  intro g1 cap1 w1 ho1 hg1 hat hlt
  refine k g1 cap1 w1 ⟨?_, Nat.le_trans ht.low hg1.size⟩ hg1 hat
  have e2 : Lib.byteCells (l ++ [c]) = Lib.byteCells l ++ [.int .u8 (c.toNat : Int)] := by simp [Lib.byteCells]
  rw [e2, List.length_append]
  exact ho1
theorem heapN {w : World} {k : Nat} (hk : k = w.heap.size) (o : Obj) : (w.alloc o).heap[k]? = some o := by subst hk; exact heap_alloc_new w o
theorem slice_ne {k g n c : Nat} (h : k ≠ g) : some k ≠ (Value.slice (some ⟨g, 0, none⟩) n c).ownBlock := fun e => h (by simpa [Value.ownBlock] using e)
theorem heapA {w : World} {k : Nat} (hk : k = w.heap.size) (o : Obj) : (w.alloc o).drew.heap[k]? = some o := by subst hk; exact heap_alloc_new w o
theorem heapB {w : World} {k : Nat} (hk : k = w.heap.size) (o o2 : Obj) : ((w.alloc o).alloc o2).drew.heap[k]? = some o := by
  subst hk
  exact (Below.heap_alloc (w.alloc o) o2 _ (by simp)).trans (heap_alloc_new w o)
theorem Txt.drew {B : Nat} {w : World} {v : Value} {l : List UInt8} (h : Txt B w v l) : Txt B w.drew v l := h.below (Below.refl _ _).drew
theorem HS.drew {w : World} {e : TypeId} {S : Nat → Prop} {x : Ex} {c : List Value} (h : HS w e S x c) : HS w.drew e S x c := h.below (Below.refl _ _).drew
theorem Tab.allocT {B : Nat} {w : World} (h : Tab B w) (hB : B ≤ w.heap.size) (o : Obj) : Tab B (w.alloc o) := h.below hB ((Below.refl _ _).alloc (Nat.le_refl _) _)
theorem Tab.drew {B : Nat} {w : World} (h : Tab B w) : Tab B w.drew := Lib.TabBelow.on h (Below.refl _ _).drew
theorem lies_of {w W : World} {v : Value} {g n cap : Nat} (hz : w.heap.size ≤ W.heap.size) (h : v.ownBlock = some g ∨ g = W.heap.size) : Lies w v (.slice (some ⟨g, 0, none⟩) n cap) := by
  rcases h with h | h
  · exact .inl h.symm
  · exact .inr ⟨g, rfl, by omega⟩
theorem txt_lt {B : Nat} {w : World} {g n cap : Nat} {l : List UInt8} (h : Txt B w (.slice (some ⟨g, 0, none⟩) n cap) l) : g < w.heap.size := (h.own.lt g rfl).2
theorem own_ne {B : Nat} {w : World} {v : Value} {l : List UInt8} (h : Txt B w v l) {k : Nat} (hk : w.heap.size ≤ k) : some k ≠ v.ownBlock := by
  intro e
  have := (h.own.lt k e.symm).2
  omega
theorem kne {B : Nat} {w W : World} {v : Value} {l : List UInt8} (h : Txt B w v l) {k g : Nat} (hat : v.ownBlock = some g ∨ g = W.heap.size) (h1 : k < W.heap.size) (h2 : w.heap.size ≤ k) : k ≠ g := by
  rcases hat with hat | hat
  · have := (h.own.lt g hat).2
    omega
  · omega
theorem txt_len {B n : Nat} {w : World} {g cap : Nat} {l : List UInt8} (h : Txt B w (.slice (some ⟨g, 0, none⟩) n cap) l) {m : Nat} (hm : n = m) : Txt B w (.slice (some ⟨g, 0, none⟩) m cap) l := by subst hm; exact h
end Go.Proofs.YtjhicgllofjpoaaGreatDoor
