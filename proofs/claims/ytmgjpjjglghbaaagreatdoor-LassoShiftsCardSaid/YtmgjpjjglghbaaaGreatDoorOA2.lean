/-
  One operation of a region that draws, run to its end; acyclic edges.
-/
import Derived.Test.YtmgjpjjglghbaaaGreatDoorOA1
namespace Go.Proofs.YtmgjpjjglghbaaaGreatDoor
open Go Go.RowKit Go.Sort

section
variable {P : Program} {ops : Array Oper} {Q : Exit → Act → World → Prop} {K : Act → World → Prop} {a : Act} {w w' : World} {i : Nat} {o : Oper}
theorem wpOp_run {d : Nat} {v : Value} (ho : ops[i]? = some o) (hg : o.guard = none) (hd : o.dst = some d) (hr : (execOp a.eval o).run P w = .ok (.value v) w') (h : K (a.put (some d) v) w') : wpOp P ops Q i K a w := by
  unfold wpOp
  have hw : Region.wanted o (yielded ops a.tmps) = true := by simp [Region.wanted, hg]
  simp only [ho, hw, if_true]
  left
  simp only [Oper.wp, hr, Oper.upon, hd]
  exact h
theorem wpOp_run0 (ho : ops[i]? = some o) (hg : o.guard = none) (hd : o.dst = none) (hr : (execOp a.eval o).run P w = .ok .skip w') (h : K a w') : wpOp P ops Q i K a w := by
  unfold wpOp
  have hw : Region.wanted o (yielded ops a.tmps) = true := by simp [Region.wanted, hg]
  simp only [ho, hw, if_true]
  left
  simp only [Oper.wp, hr, Oper.upon, hd]
  exact h
def acyc (ops : Array Oper) : Bool := (ops.toList.zipIdx).all fun x => x.1.after.all fun e => decide (e.on < x.2)
theorem acyc_of (h : acyc ops = true) : ∀ (i : Nat) (o : Oper), ops[i]? = some o → ∀ e ∈ o.after, e.on < i := by
  intro i o ho e he
  unfold acyc at h
  rw [List.all_eq_true] at h
  have hm : (o, i) ∈ ops.toList.zipIdx := by
    rw [List.mk_mem_zipIdx_iff_getElem?]
    rw [← Array.getElem?_toList] at ho
    simpa using ho
  have := h _ hm
  rw [Array.all_eq_true_iff_forall_mem] at this
  exact of_decide_eq_true (this e he)
/-- An append of numbers onto one's own. -/
theorem wpOp_app {d : Nat} (ho : ops[i]? = some o) (hgd : o.guard = none) (hd : o.dst = some d) (s x : Operand)
    (hop : o.op = .call { callee := .builtin .append, args := #[s, x], argTypes := #[23, 23] }) (base n m c : Nat) (v : Value) (xs l : List Int) (A : Option Addr) (hs : a.eval s = v) (hx : a.eval x = .slice A m c)
    (hown : w.ownsRow base 3 1 v n (xs.map iv)) (hl : l.length = m) (hc : CapOk A m c) (hi : ISl w A l) (h6 : n + m ≤ 1000000) (hbase : base ≤ w.heap.size)
    (h : ∀ v' w', w'.ownsRow base 3 1 v' (n + m) ((xs ++ l).map iv) → w.grownBy w' v.ownBlock → (v'.ownBlock = v.ownBlock ∨ v'.ownBlock = some w.heap.size) → K (a.put (some d) v') w') : wpOp Tryz.prog ops Q i K a w := by
  refine wpOp_step ho fun K' hK => ?_
  exact step_append_int hgd s x hop base n m c v xs l A hs hx hown hl hc hi h6 hbase fun v' w' h1 h2 h3 => hK _ _ (by rw [hd]; exact h v' w' h1 h2 h3)
theorem mkA_self {a : Act} : ∀ {ds : List Nat}, (∀ d ∈ ds, d < a.tmps.size) → mkA ds (fun d => a.eval (.tmp d)) a = a
  | [], _ => rfl
  | e :: ds, h => by
    rw [mkA, mkA_self (fun d hd => h d (List.mem_cons_of_mem _ hd))]
    have he := h e List.mem_cons_self
    obtain ⟨t, f⟩ := a
    simp only [Act.put, Act.eval] at he ⊢
    congr 1
    apply Array.ext
    · simp
    · intro j h1 h2
      rw [Array.getElem_setIfInBounds]
      split
      · next hj => subst hj; simp
      · rfl
theorem RInv.zero {T : RTab} {wc w : World} {vs : Nat → Value} {k : Nat} (hb : Below wc.heap.size wc w) : RInv T wc (Array.replicate k false) vs w := by
  have hf : ∀ j, (Array.replicate k false).getD j false = true → False := fun j h => by
    simp only [Array.getD, Array.size_replicate] at h
    split at h
    · simp at h
    · cases h
  exact ⟨hb, fun i v _ h => (hf _ h).elim, fun i c l _ h => (hf _ h).elim, fun i j c l c' l' _ _ _ h => (hf _ h).elim, fun h => (hf _ h).elim, fun h => (hf _ h).elim, fun h => (hf _ h).elim⟩
theorem own_not_las {w : World} {base n q : Nat} {v : Value} {xs cs : List Value} (h : w.ownsRow base 3 1 v n xs) (hq : v.ownBlock = some q) (hb : Bx w q 42 cs) : False := by
  rcases h.2 with ⟨rfl, _⟩ | ⟨g, cap, cur, rfl, _, hg, _⟩
  · simp [Value.ownBlock] at hq
  · simp only [Value.ownBlock, Option.some.injEq] at hq
    subst hq
    unfold Bx at hb
    rw [hb] at hg
    injection hg with hg
    injection hg with _ hg
    exact absurd hg (by decide)
theorem below_two {wc w : World} {q : Nat} {x y : Value} (hb : Below wc.heap.size wc w) (hq : wc.heap.size ≤ q) : Below wc.heap.size wc ((w.setCell ⟨q, 0, none⟩ x).setCell ⟨q, 1, none⟩ y) :=
  (Fx.setCell (p := ⟨q, 1, none⟩) (Fx.setCell (p := ⟨q, 0, none⟩) (Fx.of (X := fun _ => False) hb) (.inl hq) x) (.inl hq) y).below (fun _ h => h.elim)
theorem grown_two {w : World} {q : Nat} {x y : Value} : w.grownBy ((w.setCell ⟨q, 0, none⟩ x).setCell ⟨q, 1, none⟩ y) (some q) := ⟨rfl, rfl, rfl, by simp, fun k _ hn => by
  have hk : k ≠ q := fun e => hn (by rw [e])
  rw [Below.heap_setCell _ ⟨q, 1, none⟩ _ k hk, Below.heap_setCell _ ⟨q, 0, none⟩ _ k hk]⟩
/-- A region of rows, by what has been listed. -/
theorem region_rows {id : Nat} {a0 : Act} {wc : World} (T : RTab) (DS : List Nat) (hm : P.follows .mixedOrders = true) (hac : acyc ops = true) (hsz : ∀ d ∈ DS, d < a0.tmps.size)
    (hstep : ∀ (L : Array Bool) (vs : Nat → Value) (w : World) (i : Nat) (o : Oper), L.size = ops.size → (∀ d ∈ DS, (mkA DS vs a0).eval (.tmp d) = vs d) → (∀ d, d ∉ DS → (mkA DS vs a0).eval (.tmp d) = a0.eval (.tmp d)) → RInv T wc L vs w → ops[i]? = some o → L.getD i true = false → (∀ e ∈ o.after, Region.binds .any e = true → L.getD e.on false = true) →
      wpOp P ops Q i (fun a' w' => ∃ vs', a' = mkA DS vs' a0 ∧ RInv T wc (L.setIfInBounds i true) vs' w') (mkA DS vs a0) w)
    (hend : ∀ (L : Array Bool) (vs : Nat → Value) (w : World), (∀ i, i < ops.size → L.getD i false = true) → L.size = ops.size → RInv T wc L vs w → Q .normal (mkA DS vs a0) w) : (Code.region id ops true).wp P Q a0 wc := by
  refine region_inv (fun L a w => L.size = ops.size ∧ ∃ vs, a = mkA DS vs a0 ∧ RInv T wc L vs w) hm (acyc_of hac) ?_ ?_ ⟨by simp, _, (mkA_self hsz).symm, RInv.zero (Below.refl _ _).drew⟩
  · rintro L a w i o hL ⟨_, vs, rfl, hI⟩ ho hun hdep
    exact wpOp_mono (fun a' w' h => ⟨by simpa using hL, h⟩) (hstep L vs w i o hL (fun d hd => eval_mkA hd (hsz d hd)) (fun d hd => eval_mkA_out hd) hI ho hun hdep)
  · rintro L a w hall ⟨hL, vs, rfl, hI⟩
    exact hend L vs w hall hL hI
end
end Go.Proofs.YtmgjpjjglghbaaaGreatDoor
