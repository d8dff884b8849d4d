/-
  A drawn region, by what has been listed: a law of an invariant; the act of a region as the values at its slots.
-/
import Derived.OrdersHeld
import Derived.Great.Frames
import Derived.Deep.RegionHeld3
namespace Go.Proofs.YtmgjpjjglghbaaaGreatDoor
open Go

section
variable {P : Program} {md : Region.Mode} {ops : Array Oper} {Q : Exit → Act → World → Prop}
theorem getDB_lt {L : Array Bool} {i : Nat} (h : L.getD i true = false) : ∃ hi : i < L.size, L[i] = false := by
  by_cases hi : i < L.size
  · exact ⟨hi, by simpa [Array.getD, hi] using h⟩
  · simp [Array.getD, hi] at h
theorem all_listed {L : Array Bool} (hac : ∀ (i : Nat) (o : Oper), ops[i]? = some o → ∀ e ∈ o.after, e.on < i) (hL : L.size = ops.size) (hr : Region.ready md ops L = []) : ∀ i, i < ops.size → L.getD i false = true := by
  intro i
  induction i using Nat.strongRecOn with
  | _ i ih =>
    intro hi
    apply Classical.byContradiction
    intro hn
    have hl : i < L.size := by omega
    have hf : L.getD i true = false := by
      simp [Array.getD, hl] at hn ⊢
      exact hn
    have ho : ops[i]? = some ops[i] := Array.getElem?_eq_getElem hi
    have hm : i ∈ Region.ready md ops L := mem_ready.2 ⟨hf, ops[i], ho, fun e he _ => ih e.on (hac i _ ho e he) (by have := hac i _ ho e he; omega)⟩
    rw [hr] at hm
    cases hm
/-- An invariant that each operation keeps holds behind them all. -/
theorem wpAny_inv (I : Array Bool → Act → World → Prop) (hac : ∀ (i : Nat) (o : Oper), ops[i]? = some o → ∀ e ∈ o.after, e.on < i)
    (hstep : ∀ (L : Array Bool) (a : Act) (w : World) (i : Nat) (o : Oper), L.size = ops.size → I L a w → ops[i]? = some o → L.getD i true = false → (∀ e ∈ o.after, Region.binds md e = true → L.getD e.on false = true) → wpOp P ops Q i (fun a' w' => I (L.setIfInBounds i true) a' w') a w)
    (hend : ∀ (L : Array Bool) (a : Act) (w : World), (∀ i, i < ops.size → L.getD i false = true) → I L a w → Q .normal a w) :
    ∀ (fuel : Nat) (L : Array Bool) (a : Act) (w : World), L.size = ops.size → L.toList.count false ≤ fuel → I L a w → wpAny P md ops Q fuel L a w := by
  intro fuel
  induction fuel with
  | zero =>
    intro L a w hL hc hI
    have hr : Region.ready md ops L = [] := by
      rw [List.eq_nil_iff_forall_not_mem]
      intro i hi
      obtain ⟨hi', hb⟩ := getDB_lt (mem_ready.1 hi).1
      have : 0 < L.toList.count false := List.count_pos_iff.2 (by rw [← hb]; simp)
      omega
    exact ⟨hr, hend L a w (all_listed hac hL hr) hI⟩
  | succ fuel ih =>
    intro L a w hL hc hI
    refine ⟨fun hr => hend L a w (all_listed hac hL hr) hI, fun i hi => ?_⟩
    obtain ⟨hun, o, ho, hdep⟩ := mem_ready.1 hi
    refine wpOp_mono (fun a' w' h' => ih _ a' w' (by simpa using hL) ?_ h') (hstep L a w i o hL hI ho hun hdep)
    obtain ⟨hi', hb⟩ := getDB_lt hun
    have hcs : (L.setIfInBounds i true).toList.count false = L.toList.count false - 1 := by
      rw [Array.toList_setIfInBounds, List.count_set (by simpa using hi')]
      simp [hb]
    omega
/-- The beginning. -/
theorem region_inv (I : Array Bool → Act → World → Prop) {id : Nat} {a : Act} {w : World} (hm : P.follows .mixedOrders = true) (hac : ∀ (i : Nat) (o : Oper), ops[i]? = some o → ∀ e ∈ o.after, e.on < i)
    (hstep : ∀ (L : Array Bool) (a : Act) (w : World) (i : Nat) (o : Oper), L.size = ops.size → I L a w → ops[i]? = some o → L.getD i true = false → (∀ e ∈ o.after, Region.binds .any e = true → L.getD e.on false = true) → wpOp P ops Q i (fun a' w' => I (L.setIfInBounds i true) a' w') a w)
    (hend : ∀ (L : Array Bool) (a : Act) (w : World), (∀ i, i < ops.size → L.getD i false = true) → I L a w → Q .normal a w)
    (h0 : I (Array.replicate ops.size false) a w.drew) : (Code.region id ops true).wp P Q a w :=
  wp_region_any hm (wpAny_inv I hac hstep hend ops.size (Array.replicate ops.size false) a w.drew (by simp) (by simp) h0)
end
/-- The values vs at the slots ds. -/
def mkA : List Nat → (Nat → Value) → Act → Act
  | [], _, a => a
  | d :: ds, vs, a => (mkA ds vs a).put (some d) (vs d)
def upd (vs : Nat → Value) (d : Nat) (x : Value) : Nat → Value := fun j => if j = d then x else vs j
section
variable {vs : Nat → Value} {a : Act} {d : Nat} {x : Value}
theorem upd_same : upd vs d x d = x := by simp [upd]
theorem upd_ne {j : Nat} (h : j ≠ d) : upd vs d x j = vs j := by simp [upd, h]
theorem mkA_out : ∀ {ds : List Nat}, d ∉ ds → mkA ds (upd vs d x) a = mkA ds vs a
  | [], _ => rfl
  | e :: ds, h => by
    rw [List.mem_cons, not_or] at h
    rw [mkA, mkA, mkA_out h.2, upd_ne (Ne.symm h.1)]
theorem put_put {d : Nat} {x y : Value} : (a.put (some d) y).put (some d) x = a.put (some d) x := by simp [Act.put]
theorem put_mkA : ∀ {ds : List Nat}, d ∈ ds → ds.Nodup → (mkA ds vs a).put (some d) x = mkA ds (upd vs d x) a
  | e :: ds, h, hn => by
    rw [List.nodup_cons] at hn
    by_cases he : d = e
    · subst he
      rw [mkA, mkA, put_put, mkA_out hn.1, upd_same]
    · have h' : d ∈ ds := (List.mem_cons.1 h).resolve_left he
      rw [mkA, mkA, Act.put_comm _ _ _ (by intro k hk h2; injection hk with hk; injection h2 with h2; exact he (h2.trans hk.symm)), put_mkA h' hn.2, upd_ne (Ne.symm he)]
theorem mkA_size : ∀ {ds : List Nat}, (mkA ds vs a).tmps.size = a.tmps.size
  | [] => rfl
  | e :: ds => by rw [mkA]; simp [Act.put, mkA_size (ds := ds)]
theorem eval_mkA : ∀ {ds : List Nat}, d ∈ ds → d < a.tmps.size → (mkA ds vs a).eval (.tmp d) = vs d
  | e :: ds, h, hs => by
    rw [mkA]
    by_cases he : d = e
    · subst he
      exact Act.eval_put_same _ _ _ (by rw [mkA_size]; exact hs)
    · rw [Act.eval_put_ne _ _ _ _ (Ne.symm he)]
      exact eval_mkA ((List.mem_cons.1 h).resolve_left he) hs
theorem eval_mkA_out : ∀ {ds : List Nat}, d ∉ ds → (mkA ds vs a).eval (.tmp d) = a.eval (.tmp d)
  | [], _ => rfl
  | e :: ds, h => by
    rw [List.mem_cons, not_or] at h
    rw [mkA, Act.eval_put_ne _ _ _ _ (Ne.symm h.1)]
    exact eval_mkA_out h.2
end
end Go.Proofs.YtmgjpjjglghbaaaGreatDoor
