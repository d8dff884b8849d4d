/-
  What LassoShifts reads besides.
-/
import Derived.Test.YtmgjpjjglghbaaaGreatDoorOK
import Derived.Test.YtmgjpjjglghbaaaGreatDoorOJ
import Derived.Laws.AppendOwnNone
import Derived.Maps.AppendAt
import Derived.Deep.AppendLies
namespace Go.Proofs.YtmgjpjjglghbaaaGreatDoor
open Go.RowKit Go.Sort Go.Maps

def HvQ (u : Bool) (er : Value) (w : World) (e : Ending) (w' : World) : Prop := e = .returned (.tuple #[.bool u, er]) ∧ Below w.heap.size w w'
theorem holdsQ {W : World} {A B N : Option Addr} {n sc m lc nc : Nat} {s l : List Int} {x : Fo} {v : FV} {u : Bool} {er : Value} {S : Nat → Prop} (wm : WM W A B s l) (hn : s.length = n) (hm : l.length = m) (c1 : CapOk A n sc) (c2 : CapOk B m lc) (n6 : n ≤ 1000) (m6 : m ≤ 1000) (hN : SSl W N NMS) (hx : FS W 27 S x v.c) (ho : OkF x) (hz : x.size ≤ 4096) (hu : u = hoV NMS s l x) (he : er = tuE NMS s l x) :
    Calls Tryz.prog 20 #[.agg #[.string v.o, .string v.nm, .slice v.A v.ll v.cap, .int .i64 v.p], .slice N 3 nc, .agg #[.slice A n sc, .slice B m lc]] W (HvQ u er W) := by
  subst hn hm
  refine (holds_any (nms := NMS) (nc := nc) (v := v) W hN wm c1 c2 (by decide) (by omega) (by omega) hx ho hz).mono ?_
  rintro e w1 ⟨rfl, hb⟩
  exact ⟨by rw [hu, he], hb⟩
theorem ho_hv {s l : List Int} {x : Fo} (hr : wR NMS s l) : hoV NMS s l x = hv NMS (wl s l) x := by
  rw [Bool.eq_iff_iff]
  unfold hoV
  rw [@decide_eq_true_iff _ (Classical.propDecidable _)]
  exact ⟨fun h => h.2, fun h => ⟨hr, h⟩⟩
theorem hv_not {s l : List Int} {x : Fo} (h : hdO NMS x = false) : hv NMS (wl s l) x = false := by
  rw [Bool.eq_false_iff]
  intro h1
  rw [(hv_iff.1 h1).1] at h
  cases h
def erO (b : Bool) : Value := if b = true then .nilIface else .iface 78 (.int .i64 30)
theorem tu_er {s l : List Int} {x : Fo} (hr : wR NMS s l) : tuE NMS s l x = erO (hdO NMS x) := by rw [tuE, if_pos hr]; rfl
theorem alloc_heapW (w : World) (o : Obj) : (w.alloc o).heap = w.heap.push o := rfl
theorem drew_heapW (w : World) : w.drew.heap = w.heap := rfl
theorem own_mt {W : World} {lo q : Nat} (h : W.heap[q]? = some (.cells #[] 3 (0, 0))) (hq : lo ≤ q) : W.ownsRow lo 3 1 (.slice (some ⟨q, 0, none⟩) 0 0) 0 (([] : List Int).map iv) := ⟨rfl, .inr ⟨q, 0, #[], rfl, hq, h, Nat.le_refl _, by unfold maxLen; omega, rfl, rfl⟩⟩
theorem ssl_grown {W W' : World} {A : Option Addr} {L : List ByteArray} {row : Option Nat} (h : SSl W A L) (hg : W.grownBy W' row) (hr : ∀ g u, W.cell? ⟨g, 0, none⟩ = some u → A = some ⟨g, 0, none⟩ → some g ≠ row) (hA : ∀ g o, A = some ⟨g, o, none⟩ → o = 0) (h0 : 0 < L.length) : SSl W' A L := fun i hi => by
  obtain ⟨g, o, h1, h2⟩ := h i hi
  have ho := hA g o h1
  subst ho
  obtain ⟨g', o', h3, h4⟩ := h 0 h0
  rw [h1] at h3
  injection h3 with h3
  injection h3 with e1 e2
  subst e1 e2
  exact ⟨g, 0, h1, (hg.cell_far _ (World.block_lt_of_cell? W _ h2) (hr g _ h4 h1)).trans h2⟩
section
open Go.Lib
/-- An append onto one's own, at a step of a region that draws. -/
theorem step_append_int {ops : Array Oper} {o : Oper} {a : Act} {w : World} {K : Act → World → Prop} {Q : Exit → Act → World → Prop} {E : Prop} (hgd : o.guard = none) (s x : Operand)
    (ho : o.op = .call { callee := .builtin .append, args := #[s, x], argTypes := #[23, 23] }) (base n m c : Nat) (v : Value) (xs l : List Int) (A : Option Addr) (hs : a.eval s = v) (hx : a.eval x = .slice A m c)
    (hown : w.ownsRow base 3 1 v n (xs.map iv)) (hl : l.length = m) (hc : CapOk A m c) (hi : ISl w A l) (h6 : n + m ≤ 1000000) (hbase : base ≤ w.heap.size)
    (h : ∀ v' w', w'.ownsRow base 3 1 v' (n + m) ((xs ++ l).map iv) → w.grownBy w' v.ownBlock → (v'.ownBlock = v.ownBlock ∨ v'.ownBlock = some w.heap.size) → K (a.put o.dst v') w') :
    if Region.wanted o (yielded ops a.tmps) = true then Oper.wp Tryz.prog o a w K Q else E := by
  have hw : Region.wanted o (yielded ops a.tmps) = true := by simp [Region.wanted, hgd]
  rw [if_pos hw]
  obtain ⟨i0, hi0, hz⟩ := Option.map_eq_some_iff.1 infoI
  simp only [Prod.mk.injEq] at hz
  obtain ⟨hz0, hz1, hz2⟩ := hz
  cases A with
  | none =>
    obtain rfl := hc.2 rfl
    have hm0 : m = 0 := by have := hc.1; omega
    subst hm0
    have hl0 : l = [] := List.eq_nil_of_length_eq_zero hl
    subst hl0
    have hrun := run_append_owned_none (P := Tryz.prog) (w := w) base 23 o.type 3 i0 1 Tryz.underlying23 hi0 v n (xs.map iv) hown
    unfold Oper.wp
    simp [execOp, ho, resolve, invoke, builtin, hs, hx, hrun, Result.andThen]
    exact h v w (by simpa using hown) (World.grownBy.refl _ _) (.inl rfl)
  | some ad =>
    have hnews : ∀ j u, (l.map iv)[j]? = some u → w.cell? (ad.add j) = some u := by
      by_cases h0 : l = []
      · subst h0
        intro j u hu
        simp at hu
      · obtain ⟨g, o2, e, _⟩ := hi 0 (List.length_pos_iff.2 h0)
        injection e with e
        subst e
        exact isl_news hi
    obtain ⟨v', w', hr, h2, h3, _, h5⟩ := run_append_own_at (P := Tryz.prog) w base 23 o.type 3 i0 (.int .i64 0) 1 8 Tryz.underlying23 hi0 hz0 hz1 hz2 rfl (by decide) v n (xs.map iv) hown ad m c (l.map iv) (by simp [hl]) hnews (iv_one _) (by unfold maxLen; omega) (by omega) hbase
    unfold Oper.wp
    simp [execOp, ho, resolve, invoke, builtin, hs, hx, hr, Result.andThen]
    exact h v' w' (by rw [List.map_append]; exact h2) h3 h5
end
end Go.Proofs.YtmgjpjjglghbaaaGreatDoor
