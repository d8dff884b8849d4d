/-
  A process of a call's own in memory: rows within rows, each in blocks of its own.
-/
import Derived.Test.YtkgjpimapfmeoaaDoorMb
namespace Go.Proofs.YtkgjpimapfmeoaaDoor
open Go.RowKit

/-- Parts one behind the other, each in an interval of blocks of its own. -/
def LI {α : Type} (P : Nat → Nat → α → List Value → Prop) : Nat → Nat → List α → List Value → Prop
  | _, _, [], cs => cs = []
  | lo, hi, a :: xs, cs => ∃ mid c r, lo ≤ mid ∧ mid ≤ hi ∧ cs = c ++ r ∧ P lo mid a c ∧ LI P mid hi xs r
section
variable {α : Type} {P Q : Nat → Nat → α → List Value → Prop}
theorem LI.imp : ∀ {xs : List α} {lo hi : Nat} {cs : List Value}, (∀ l h a c, lo ≤ l → h ≤ hi → P l h a c → Q l h a c) → LI P lo hi xs cs → LI Q lo hi xs cs
  | [], _, _, _, _, h => h
  | _ :: _, _, _, _, hpq, ⟨mid, c, r, h1, h2, h3, h4, h5⟩ => ⟨mid, c, r, h1, h2, h3, hpq _ _ _ _ (Nat.le_refl _) h2 h4, h5.imp fun l h a c hl hh hp => hpq l h a c (by omega) hh hp⟩
theorem LI.snoc (hw : ∀ l l' h a c, l' ≤ l → P l h a c → P l' h a c) : ∀ {xs : List α} {lo hi l2 h2 : Nat} {cs : List Value} {a : α} {c : List Value}, LI P lo hi xs cs → lo ≤ l2 → hi ≤ l2 → l2 ≤ h2 → P l2 h2 a c → LI P lo h2 (xs ++ [a]) (cs ++ c)
  | [], lo, hi, l2, h2, cs, a, c, h, h0, h3, h4, hp => by
    have h : cs = [] := h
    subst h
    exact ⟨h2, c, [], by omega, Nat.le_refl _, by simp, hw _ _ _ _ _ h0 hp, rfl⟩
  | _ :: _, lo, hi, l2, h2, cs, a, c, ⟨mid, c0, r, h5, h6, h7, h8, h9⟩, h0, h3, h4, hp =>
    ⟨mid, c0, r ++ c, h5, by omega, by rw [h7, List.append_assoc], h8, h9.snoc hw (by omega) h3 h4 hp⟩
theorem LI.mono {hi' : Nat} : ∀ {xs : List α} {lo hi : Nat} {cs : List Value}, hi ≤ hi' → LI P lo hi xs cs → LI P lo hi' xs cs
  | [], _, _, _, _, h => h
  | _ :: _, _, _, _, hh, ⟨mid, c, r, h1, h2, h3, h4, h5⟩ => ⟨mid, c, r, h1, by omega, h3, h4, h5.mono hh⟩
/-- The k-th part: where it lies, and what becomes of the row when it alone is another. -/
theorem LI.at_ {sz : Nat} (hs : ∀ l h a c, P l h a c → c.length = sz) : ∀ {xs : List α} {lo hi : Nat} {cs : List Value} {k : Nat} (hk : k < xs.length), LI P lo hi xs cs →
    ∃ l h c r1 r2, lo ≤ l ∧ l ≤ h ∧ h ≤ hi ∧ P l h xs[k] c ∧ cs = r1 ++ (c ++ r2) ∧ r1.length = k * sz ∧
      ∀ a' c', (∀ l' h' a c, (h' ≤ l ∨ h ≤ l') → lo ≤ l' → h' ≤ hi → P l' h' a c → Q l' h' a c) → Q l h a' c' → LI Q lo hi (xs.set k a') (r1 ++ (c' ++ r2))
  | x :: xs, lo, hi, cs, 0, hk, ⟨mid, c, r, h1, h2, h3, h4, h5⟩ => by
    refine ⟨lo, mid, c, [], r, Nat.le_refl _, h1, h2, h4, by simpa using h3, by simp, fun a' c' hpq hq => ?_⟩
    refine ⟨mid, c', r, h1, h2, by simp, hq, h5.imp fun l h a c hl hh hp => hpq l h a c (.inr hl) (by omega) hh hp⟩
  | x :: xs, lo, hi, cs, k + 1, hk, ⟨mid, c, r, h1, h2, h3, h4, h5⟩ => by
    obtain ⟨l, h, c1, r1, r2, g1, g2, g3, g4, g5, g6, g7⟩ := LI.at_ hs (k := k) (by simpa using hk) h5
    refine ⟨l, h, c1, c ++ r1, r2, by omega, g2, g3, g4, by rw [h3, g5, List.append_assoc], by rw [List.length_append, hs _ _ _ _ h4, g6, Nat.add_mul]; omega, fun a' c' hpq hq => ?_⟩
    refine ⟨mid, c, r1 ++ (c' ++ r2), h1, h2, by rw [List.append_assoc], hpq _ _ _ _ (.inl g1) (Nat.le_refl _) (by omega) h4, ?_⟩
    exact g7 a' c' (fun l' h' a c ho hl hh hp => hpq l' h' a c ho (by omega) hh hp) hq
end
theorem mid_get {r1 c r2 : List Value} {n j : Nat} (hr : r1.length = n) (hj : j < c.length) : (r1 ++ (c ++ r2))[n + j]? = c[j]? := by
  subst hr
  rw [List.getElem?_append_right (by omega), List.getElem?_append_left (by omega), show r1.length + j - r1.length = j by omega]
/-- The blocks of a row lie below a bound. -/
def OwnB (v : Value) (hi : Nat) : Prop := ∀ g, v.ownBlock = some g → g < hi
def mvc : List MvO → List Value
  | [] => []
  | m :: r => iv m.to :: iv m.wt :: mvc r
theorem mvc_snoc (m : MvO) : ∀ l : List MvO, mvc (l ++ [m]) = mvc l ++ [iv m.to, iv m.wt]
  | [] => rfl
  | x :: l => by rw [List.cons_append, mvc, mvc, mvc_snoc m l]; rfl
theorem mvc_len : ∀ l : List MvO, (mvc l).length = l.length * 2
  | [] => rfl
  | x :: l => by rw [mvc, List.length_cons, List.length_cons, mvc_len l, List.length_cons]; omega
theorem mvc_get : ∀ {l : List MvO} {i : Nat} (h : i < l.length), (mvc l)[i * 2]? = some (iv l[i].to) ∧ (mvc l)[i * 2 + 1]? = some (iv l[i].wt)
  | x :: l, 0, _ => ⟨rfl, rfl⟩
  | x :: l, i + 1, h => by
    have h1 := mvc_get (l := l) (i := i) (by simpa using h)
    rw [mvc, show (i + 1) * 2 = i * 2 + 1 + 1 by omega]
    exact ⟨h1.1, h1.2⟩
def ChI (w : World) (lo hi : Nat) (c : ChO) (cs : List Value) : Prop := ∃ A cap, cs = [.string c.act, .slice A c.mv.length cap] ∧ w.ownsRow lo 60 2 (.slice A c.mv.length cap) c.mv.length (mvc c.mv) ∧ OwnB (.slice A c.mv.length cap) hi
def StI (w : World) (lo hi : Nat) (l : List ChO) (cs : List Value) : Prop := ∃ A cap rc, cs = [.slice A l.length cap] ∧ w.ownsRow lo 49 2 (.slice A l.length cap) l.length rc ∧ OwnB (.slice A l.length cap) hi ∧ LI (ChI w) lo hi l rc
def HdI (w : World) (lo hi : Nat) (h : List Int) (cs : List Value) : Prop := ∃ A cap, cs = [.slice A h.length cap] ∧ w.ownsRow lo 3 1 (.slice A h.length cap) h.length (h.map iv) ∧ OwnB (.slice A h.length cap) hi
structure PrI (w : World) (lo hi : Nat) (v : PV) (p : PrO) : Prop where
  ch : ∃ rc, w.ownsRow lo 50 1 (.slice v.A p.chs.length v.a) p.chs.length rc ∧ OwnB (.slice v.A p.chs.length v.a) hi ∧ LI (StI w) lo hi p.chs rc
  nm : w.ownsRow lo 9 1 (.slice v.B p.nms.length v.b) p.nms.length (p.nms.map Value.string) ∧ OwnB (.slice v.B p.nms.length v.b) hi
  hd : ∃ rc, w.ownsRow lo 36 1 (.slice v.C p.hds.length v.c) p.hds.length rc ∧ OwnB (.slice v.C p.hds.length v.c) hi ∧ LI (HdI w) lo hi p.hds rc
theorem own_lo {w : World} {b b' : Nat} {t : TypeId} {sz n : Nat} {v : Value} {cs : List Value} (h : w.ownsRow b t sz v n cs) (hb : b' ≤ b) : w.ownsRow b' t sz v n cs :=
  ⟨h.1, h.2.imp id fun ⟨g, cap, cur, h1, h2, h3⟩ => ⟨g, cap, cur, h1, Nat.le_trans hb h2, h3⟩⟩
theorem own_hi {w : World} {b : Nat} {t : TypeId} {sz n : Nat} {v : Value} {cs : List Value} (h : w.ownsRow b t sz v n cs) : OwnB v w.heap.size := fun g hg => (h.lt g hg).2
/-- Blocks of these kinds between two bounds are as they were. -/
def Kp (lo hi : Nat) (T : TypeId → Prop) (w w' : World) : Prop := ∀ k cur t, lo ≤ k → k < hi → T t → w.heap[k]? = some (.cells cur t (0, 0)) → w'.heap[k]? = some (.cells cur t (0, 0))
theorem own_kp {w w' : World} {lo hi : Nat} {t : TypeId} {sz n : Nat} {v : Value} {cs : List Value} {T : TypeId → Prop} (h : w.ownsRow lo t sz v n cs) (ho : OwnB v hi) (hk : Kp lo hi T w w') (ht : T t) : w'.ownsRow lo t sz v n cs := by
  refine ⟨h.1, ?_⟩
  rcases h.2 with h | ⟨g, cap, cur, rfl, h2, h3, h4⟩
  · exact .inl h
  · exact .inr ⟨g, cap, cur, rfl, h2, hk g cur t h2 (ho g rfl) ht h3, h4⟩
theorem Kp.sub {w w' : World} {lo hi lo' hi' : Nat} {T : TypeId → Prop} (h : Kp lo hi T w w') (h1 : lo ≤ lo') (h2 : hi' ≤ hi) : Kp lo' hi' T w w' := fun k cur t a b c d => h k cur t (by omega) (by omega) c d
theorem Kp.of {w w' : World} {lo hi B : Nat} {T : TypeId → Prop} (h : Below B w w') (hB : hi ≤ B) : Kp lo hi T w w' := fun k _ _ _ hk _ h0 => (h.block k (by omega)).trans h0
def TM (t : TypeId) : Prop := t = 60
def TS (t : TypeId) : Prop := t = 60 ∨ t = 49
section
variable {w w' : World} {lo hi : Nat}
theorem ChI.keep {c : ChO} {cs : List Value} (h : ChI w lo hi c cs) (hk : Kp lo hi TM w w') : ChI w' lo hi c cs := by
  obtain ⟨A, cap, h1, h2, h3⟩ := h
  exact ⟨A, cap, h1, own_kp h2 h3 hk rfl, h3⟩
theorem ChI.wk {c : ChO} {cs : List Value} {lo' : Nat} (h : ChI w lo hi c cs) (hl : lo' ≤ lo) : ChI w lo' hi c cs := by
  obtain ⟨A, cap, h1, h2, h3⟩ := h
  exact ⟨A, cap, h1, own_lo h2 hl, h3⟩
theorem StI.keep {l : List ChO} {cs : List Value} (h : StI w lo hi l cs) (hk : Kp lo hi TS w w') : StI w' lo hi l cs := by
  obtain ⟨A, cap, rc, h1, h2, h3, h4⟩ := h
  refine ⟨A, cap, rc, h1, own_kp h2 h3 hk (.inr rfl), h3, h4.imp fun l h a c hl hh hp => hp.keep fun k cur t a b c d => hk k cur t (by omega) (by omega) (.inl c) d⟩
theorem li_lo {α : Type} {P : Nat → Nat → α → List Value → Prop} (hw : ∀ l l' h a c, l' ≤ l → P l h a c → P l' h a c) : ∀ {xs : List α} {lo hi lo' : Nat} {cs : List Value}, lo' ≤ lo → LI P lo hi xs cs → LI P lo' hi xs cs
  | [], _, _, _, _, _, h => h
  | _ :: _, _, _, _, _, hl, ⟨mid, c, r, h1, h2, h3, h4, h5⟩ => ⟨mid, c, r, by omega, h2, h3, hw _ _ _ _ _ hl h4, h5⟩
theorem StI.wk {l : List ChO} {cs : List Value} {lo' : Nat} (h : StI w lo hi l cs) (hl : lo' ≤ lo) : StI w lo' hi l cs := by
  obtain ⟨A, cap, rc, h1, h2, h3, h4⟩ := h
  exact ⟨A, cap, rc, h1, own_lo h2 hl, h3, li_lo (P := ChI w) (fun _ _ _ _ _ hx hy => ChI.wk hy hx) hl h4⟩
theorem HdI.keep {h : List Int} {cs : List Value} (hh : HdI w lo hi h cs) (hk : Kp lo hi (fun t => t = 3) w w') : HdI w' lo hi h cs := by
  obtain ⟨A, cap, h1, h2, h3⟩ := hh
  exact ⟨A, cap, h1, own_kp h2 h3 hk rfl, h3⟩
theorem HdI.wk {h : List Int} {cs : List Value} {lo' : Nat} (hh : HdI w lo hi h cs) (hl : lo' ≤ lo) : HdI w lo' hi h cs := by
  obtain ⟨A, cap, h1, h2, h3⟩ := hh
  exact ⟨A, cap, h1, own_lo h2 hl, h3⟩
theorem PrI.keep {v : PV} {p : PrO} (h : PrI w lo hi v p) (hk : Kp lo hi (fun _ => True) w w') : PrI w' lo hi v p := by
  obtain ⟨⟨rc, h1, h2, h3⟩, ⟨h4, h5⟩, ⟨rh, h6, h7, h8⟩⟩ := h
  refine ⟨⟨rc, own_kp h1 h2 hk trivial, h2, h3.imp fun l h a c hl hh hp => hp.keep fun k cur t a b _ d => hk k cur t (by omega) (by omega) trivial d⟩, ⟨own_kp h4 h5 hk trivial, h5⟩, ⟨rh, own_kp h6 h7 hk trivial, h7, h8.imp fun l h a c hl hh hp => hp.keep fun k cur t a b _ d => hk k cur t (by omega) (by omega) trivial d⟩⟩
end
/-- Where a row's cells lie. -/
theorem own_cells {w : World} {lo : Nat} {t : TypeId} {sz n : Nat} {A : Option Addr} {cap : Nat} {cs : List Value} (h : w.ownsRow lo t sz (.slice A n cap) n cs) : n ≤ cap ∧ (A = none → cap = 0) ∧ (0 < n → ∃ g, A = some ⟨g, 0, none⟩) ∧ ∀ g, A = some ⟨g, 0, none⟩ → ∀ j u, cs[j]? = some u → w.cell? ⟨g, j, none⟩ = some u := by
  rcases h.2 with ⟨hv, hn⟩ | ⟨g, cap', cur, hv, _, hg, hn, _⟩
  · simp only [Value.slice.injEq] at hv
    obtain ⟨rfl, rfl, rfl⟩ := hv
    exact ⟨Nat.le_refl _, fun _ => rfl, fun h => absurd h (by omega), fun g hg => by cases hg⟩
  · simp only [Value.slice.injEq] at hv
    obtain ⟨rfl, _, rfl⟩ := hv
    refine ⟨hn, fun h => (by cases h), fun _ => ⟨g, rfl⟩, fun g' hg' j u hu => ?_⟩
    injection hg' with hg'
    injection hg' with hg'
    subst hg'
    have := h.cells (g := g) rfl j u hu
    rwa [own_addM] at this
theorem msl_of {w : World} {lo : Nat} {A : Option Addr} {cap : Nat} {l : List MvO} (h : w.ownsRow lo 60 2 (.slice A l.length cap) l.length (mvc l)) : MSl w A l := by
  obtain ⟨_, _, h1, h2⟩ := own_cells h
  intro i hi
  obtain ⟨g, rfl⟩ := h1 (by omega)
  obtain ⟨m1, m2⟩ := mvc_get hi
  exact ⟨g, 0, rfl, by rw [Nat.zero_add]; exact h2 g rfl _ _ m1, by rw [Nat.zero_add]; exact h2 g rfl _ _ m2⟩
theorem chI_len {w : World} : ∀ l h a c, ChI w l h a c → c.length = 2 := by
  rintro l h a c ⟨A, cap, rfl, _⟩; rfl
theorem stI_len {w : World} : ∀ l h a c, StI w l h a c → c.length = 1 := by
  rintro l h a c ⟨A, cap, rc, rfl, _⟩; rfl
theorem hdI_len {w : World} : ∀ l h a c, HdI w l h a c → c.length = 1 := by
  rintro l h a c ⟨A, cap, rfl, _⟩; rfl
theorem csl_of {w : World} {lo hi : Nat} {A : Option Addr} {cap : Nat} {l : List ChO} {rc : List Value} (h : w.ownsRow lo 49 2 (.slice A l.length cap) l.length rc) (hl : LI (ChI w) lo hi l rc) : CSl w A l := by
  obtain ⟨_, _, h1, h2⟩ := own_cells h
  intro i hi'
  obtain ⟨g, rfl⟩ := h1 (by omega)
  obtain ⟨l1, h3, c, r1, r2, _, _, _, ⟨B, cap2, rfl, hm, _⟩, rfl, hr, _⟩ := hl.at_ (Q := ChI w) chI_len hi'
  refine ⟨g, 0, B, cap2, rfl, ?_, ?_, (own_cells hm).1, msl_of hm⟩
  · rw [Nat.zero_add]
    exact h2 g rfl (i * 2 + 0) _ ((mid_get hr (by simp)).trans rfl)
  · rw [Nat.zero_add]
    exact h2 g rfl (i * 2 + 1) _ ((mid_get hr (by simp)).trans rfl)
theorem PrI.mem {w : World} {lo hi : Nat} {v : PV} {p : PrO} (h : PrI w lo hi v p) : PrM w v p := by
  obtain ⟨⟨rc, h1, h2, h3⟩, ⟨h4, h5⟩, ⟨rh, h6, h7, h8⟩⟩ := h
  obtain ⟨a1, _, a2, a3⟩ := own_cells h1
  obtain ⟨b1, b0, b2, b3⟩ := own_cells h4
  obtain ⟨c1, _, c2, c3⟩ := own_cells h6
  refine ⟨fun i hi' => ?_, a1, fun i hi' => ?_, ⟨b1, b0⟩, fun i hi' => ?_, c1⟩
  · obtain ⟨g, hg⟩ := a2 (by omega)
    obtain ⟨l1, h9, c, r1, r2, _, _, _, ⟨B, cap2, rc2, rfl, hm, _, hl⟩, rfl, hr, _⟩ := h3.at_ (Q := StI w) stI_len hi'
    refine ⟨g, 0, B, cap2, hg, ?_, (own_cells hm).1, csl_of hm hl⟩
    rw [Nat.zero_add]
    exact a3 g hg (i + 0) _ ((mid_get (by rw [hr, Nat.mul_one]) (by simp)).trans rfl)
  · obtain ⟨g, hg⟩ := b2 (by omega)
    refine ⟨g, 0, hg, ?_⟩
    rw [Nat.zero_add]
    exact b3 g hg _ _ (by rw [List.getElem?_map, List.getElem?_eq_getElem hi']; rfl)
  · obtain ⟨g, hg⟩ := c2 (by omega)
    obtain ⟨l1, h9, c, r1, r2, _, _, _, ⟨B, cap2, rfl, hm, _⟩, rfl, hr, _⟩ := h8.at_ (Q := HdI w) hdI_len hi'
    obtain ⟨d1, d0, d2, d3⟩ := own_cells hm
    refine ⟨g, 0, B, cap2, hg, ?_, ⟨d1, d0⟩, fun j hj => ?_⟩
    · rw [Nat.zero_add]
      exact c3 g hg (i + 0) _ ((mid_get (by rw [hr, Nat.mul_one]) (by simp)).trans rfl)
    · obtain ⟨g2, hg2⟩ := d2 (by omega)
      refine ⟨g2, 0, hg2, ?_⟩
      rw [Nat.zero_add]
      exact d3 g2 hg2 _ _ (by rw [List.getElem?_map, List.getElem?_eq_getElem hj]; rfl)
end Go.Proofs.YtkgjpimapfmeoaaDoor
