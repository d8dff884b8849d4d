/-
  The texts within a process that came in are no longer than what may be reached.
-/
import Derived.Test.YtkgjpimapfmeoaaDoorMp
import Derived.SizedLaws
namespace Go.Proofs.YtkgjpimapfmeoaaDoor
open Go.ChangeShapes Go.WideShapes Go.ChangeAt Go.RowKit Go.Deep

section
variable {H : Type} {enc : TypeId × Value → H} {W : World}
theorem weights_all {e : TypeId} {d : DataW H} : ∀ {l : List (DataW H)}, d ∈ l → ∀ x ∈ d.weights Tryd.prog e, x ∈ DataW.weightsAll Tryd.prog e l
  | [], h, _, _ => by cases h
  | a :: r, h, x, hx => by
    simp only [DataW.weightsAll, List.mem_append]
    rcases List.mem_cons.1 h with rfl | h
    · exact .inl hx
    · exact .inr (weights_all h x hx)
/-- A slice that came in, part by part, with what each part weighs. -/
theorem open_slW {t e : TypeId} {fuel : Nat} {a0 : Option Addr} {len cap : Nat} {x : DataW H × List MemPlace} (k : Nat) (ht : Tryd.prog.underlying t = some (.slice e)) (hk : Tryd.prog.cellsOf e = k) (h0 : 0 < k)
    (h : DataW.trod enc Tryd.prog W 0 (fun _ => true) true fuel t [.slice a0 len cap] = some x) :
    ∀ i, i < len → ∃ g o cs' fuel' y, a0 = some ⟨g, o, none⟩ ∧ cs'.length = k ∧ (∀ j (hj : j < cs'.length), W.cell? ⟨g, o + (i * k + j), none⟩ = some cs'[j]) ∧ DataW.trod enc Tryd.prog W 0 (fun _ => true) true fuel' e cs' = some y ∧ ∀ z ∈ y.1.weights Tryd.prog e, z ∈ x.1.weights Tryd.prog t := by
  rcases Go.Deep.open_slice ht h with ⟨hcs, _⟩ | ⟨a, len', cap', m, nf, D, Pl, hcs, _, hl, hm, hmm, hx, hel⟩
  · injection hcs with h1 _
    injection h1 with h1 h2 h3
    intro i hi
    omega
  · injection hcs with h1 _
    injection h1 with h1 h2 h3
    subst h1 h2 h3
    simp only [if_true] at hmm
    intro i hi
    have hs : a.spot = none := by
      obtain ⟨cs0, hcs0, _⟩ := hel 0 (by omega)
      rw [hk] at hcs0
      obtain ⟨_, hlen0, hcell0⟩ := World.cells?_some hcs0
      have hc := hcell0 0 h0
      have hb : 0 < cs0.length := by omega
      rw [List.getElem?_eq_getElem hb] at hc
      have := spot_none hc
      simpa [Addr.add] using this
    obtain ⟨cs', hcs', htr⟩ := hel i (by omega)
    rw [hk] at hcs'
    obtain ⟨_, hlen, hcell⟩ := World.cells?_some hcs'
    refine ⟨a.block, a.off, cs', nf, _, ?_, hlen, fun j hj => ?_, htr, fun z hz => ?_⟩
    · obtain ⟨ab, ao, sp⟩ := a
      simp only at hs
      subst hs
      rfl
    · have := hcell j (by omega)
      rw [add_add, add_eq a hs, List.getElem?_eq_getElem hj] at this
      exact this
    · rw [hx]
      simp only [DataW.weights, ht]
      refine List.mem_cons_of_mem _ (List.mem_append_left _ ?_)
      exact weights_all (List.mem_map.2 ⟨i, List.mem_range.2 hi, rfl⟩) z hz
theorem weights_each {d : DataW H} {t : TypeId} {j : Nat} : ∀ {ts : List TypeId} {l : List (DataW H)}, ts[j]? = some t → l[j]? = some d → ∀ x ∈ d.weights Tryd.prog t, x ∈ DataW.weightsEach Tryd.prog ts l := fun h1 h2 x hx => DataW.weights_mem_each h1 h2 x hx
set_option maxRecDepth 100000 in
/-- The texts of a list of choices. -/
theorem chs_acts {fuel : Nat} {a0 : Option Addr} {l : List ChO} {cap : Nat} {x : DataW H × List MemPlace} (hl : CSl W a0 l) (h : DataW.trod enc Tryd.prog W 0 (fun _ => true) true fuel 45 [.slice a0 l.length cap] = some x) :
    ∀ c ∈ l, c.act.size ∈ x.1.weights Tryd.prog 45 := by
  intro c hc
  obtain ⟨i, hi, rfl⟩ := List.mem_iff_getElem.1 hc
  obtain ⟨g, o, cs', f', y, e, h1, h2, h3, h4⟩ := open_slW 2 Tryd.underlying45 cellsCh (by decide) h i hi
  obtain ⟨g', o', B, cap2, e', c1, _⟩ := hl i hi
  rw [e] at e'
  injection e' with e'
  injection e' with e1 e2
  subst e1 e2
  obtain ⟨f, k, hu, hft, hgt, hfo, hgo⟩ := fCh
  obtain ⟨ys, n', _, hy, hlen, hyl, hfs⟩ := DataW.trod_struct hu h3
  have q0 := hfs 0 f rfl
  rw [hfo, hft, cellsS1] at q0
  refine h4 _ ?_
  match cs', h1, ys, hyl with
  | [u, v], _, [y0, y1], _ =>
    simp only [List.drop_zero, List.take_succ_cons, List.take_zero, List.getElem?_cons_zero] at q0
    obtain ⟨z, hz, hy0, _⟩ := DataW.trod_string Tryd.underlying9 q0
    injection hz with hz
    have hcell := h2 0 (by simp)
    rw [Nat.add_zero] at hcell
    rw [c1] at hcell
    injection hcell with hcell
    simp only [List.getElem_cons_zero] at hcell
    rw [hz] at hcell
    injection hcell with hcell
    rw [hy, hcell]
    simp only [DataW.weights, hu]
    refine weights_each (j := 0) (t := 9) (d := y0.1) (by rw [← hft]; rfl) rfl _ ?_
    rw [hy0]
    simp [DataW.weights]
set_option maxRecDepth 100000 in
theorem chss_acts {fuel : Nat} {a0 : Option Addr} {l : List (List ChO)} {cap : Nat} {x : DataW H × List MemPlace} (hl : LSl W a0 l) (h : DataW.trod enc Tryd.prog W 0 (fun _ => true) true fuel 22 [.slice a0 l.length cap] = some x) :
    ∀ cs ∈ l, ∀ c ∈ cs, c.act.size ∈ x.1.weights Tryd.prog 22 := by
  intro cs hc
  obtain ⟨i, hi, rfl⟩ := List.mem_iff_getElem.1 hc
  intro c hcc
  obtain ⟨g, o, cs', f', y, e, h1, h2, h3, h4⟩ := open_slW 1 Tryd.underlying22 cellsCs (by decide) h i hi
  obtain ⟨g', o', B, cap2, e', c1, _, c3⟩ := hl i hi
  rw [e] at e'
  injection e' with e'
  injection e' with e1 e2
  subst e1 e2
  refine h4 _ ?_
  match cs', h1 with
  | [u], _ =>
    have hcell := h2 0 (by simp)
    rw [Nat.add_zero, Nat.mul_one] at hcell
    rw [c1] at hcell
    injection hcell with hcell
    simp only [List.getElem_cons_zero] at hcell
    subst hcell
    exact chs_acts c3 h3 c hcc
set_option maxRecDepth 100000 in
theorem pr_acts {q : PrO} {v : PV} {d : DataW H} {p : List MemPlace} (hq : PrM W v q) (h : DataW.Trod enc Tryd.prog W 0 (fun _ => true) true 26 (.agg (v.l q).toArray) d p) : ∀ cs ∈ q.chs, ∀ c ∈ cs, c.act.size ∈ d.weights Tryd.prog 26 := by
  intro cs hc c hcc
  obtain ⟨fuel, hf⟩ := h
  obtain ⟨f, g, k, m, hu, t0, t1, t2, t3, o0, o1, o2, o3⟩ := fPr
  obtain ⟨ys, n', _, hy, hlen, hyl, hfs⟩ := DataW.trod_struct hu hf
  have q1 := hfs 1 g rfl
  rw [o1, t1, cellsLs] at q1
  change DataW.trod enc Tryd.prog W 0 (fun _ => true) true n' 22 [.slice v.A q.chs.length v.a] = _ at q1
  match ys, hyl with
  | [y0, y1, y2, y3], _ =>
    simp only [List.getElem?_cons_succ, List.getElem?_cons_zero] at q1
    have h1 := chss_acts hq.ch q1 cs hc c hcc
    have hd : d = .agg [y0.1, y1.1, y2.1, y3.1] := by simpa using congrArg Prod.fst hy
    rw [hd]
    simp only [DataW.weights, hu]
    exact weights_each (j := 1) (t := 22) (d := y1.1) (by rw [← t1]; rfl) rfl _ h1
end
end Go.Proofs.YtkgjpimapfmeoaaDoor
