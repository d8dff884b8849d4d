/-
  A process that came in, and a list of texts or of numbers, as a walk takes them.
-/
import Derived.Test.YtkgjpimapfmeoaaDoorP1
import Derived.Test.YtkgjpimapfmeoaaDoorM1
import Derived.Deep.Slices
import Derived.Deep.Fields
import Derived.ChangeSame
namespace Go.Proofs.YtkgjpimapfmeoaaDoor
open Go.ChangeShapes Go.WideShapes Go.ChangeAt Go.RowKit Go.Deep

theorem pick_list {α : Type} {P : Nat → α → Prop} : ∀ (n : Nat), (∀ i, i < n → ∃ x, P i x) → ∃ l : List α, l.length = n ∧ ∀ i (hi : i < l.length), P i l[i]
  | 0, _ => ⟨[], rfl, fun i hi => absurd hi (by simp)⟩
  | n + 1, h => by
    obtain ⟨l, hl, hp⟩ := pick_list n (fun i hi => h i (by omega))
    obtain ⟨x, hx⟩ := h n (by omega)
    refine ⟨l ++ [x], by simp [hl], fun i hi => ?_⟩
    by_cases hin : i < l.length
    · rw [List.getElem_append_left hin]
      exact hp i hin
    · have : i = n := by simp at hi; omega
      subst this
      have e : (l ++ [x])[i] = x := by rw [List.getElem_append_right (by omega)]; simp [hl]
      rw [e]
      exact hx

section
variable {H : Type} {enc : TypeId × Value → H} {W : World}
/-- A slice that came in, part by part. -/
theorem open_sl {t e : TypeId} {fuel : Nat} {c : Value} {x : DataW H × List MemPlace} (k : Nat) (ht : Tryd.prog.underlying t = some (.slice e)) (hk : Tryd.prog.cellsOf e = k) (h0 : 0 < k)
    (h : DataW.trod enc Tryd.prog W 0 (fun _ => true) true fuel t [c] = some x) :
    ∃ a0 len cap, c = .slice a0 len cap ∧ CapOk a0 len cap ∧ len ≤ maxLen ∧ ∀ i, i < len → ∃ g o cs' fuel' y, a0 = some ⟨g, o, none⟩ ∧ cs'.length = k ∧ (∀ j (hj : j < cs'.length), W.cell? ⟨g, o + (i * k + j), none⟩ = some cs'[j]) ∧ DataW.trod enc Tryd.prog W 0 (fun _ => true) true fuel' e cs' = some y := by
  rcases Go.Deep.open_slice ht h with ⟨hcs, _⟩ | ⟨a, len, cap, m, nf, D, Pl, hcs, _, hl, hm, hmm, _, hel⟩
  · injection hcs with h1 _
    subst h1
    exact ⟨none, 0, 0, rfl, ⟨Nat.le_refl _, fun _ => rfl⟩, by simp, fun i hi => absurd hi (by omega)⟩
  · injection hcs with h1 _
    subst h1
    simp only [if_true] at hmm
    refine ⟨some a, len, cap, rfl, ⟨hl, fun h => by cases h⟩, by omega, fun i hi => ?_⟩
    have hs : a.spot = none := by
      obtain ⟨cs0, hcs0, _⟩ := hel 0 (by omega)
      rw [hk] at hcs0
      obtain ⟨_, hlen0, hcell0⟩ := World.cells?_some hcs0
      have hc := hcell0 0 h0
      have hb : 0 < cs0.length := by omega
      rw [List.getElem?_eq_getElem hb] at hc
      have := spot_none hc
      simpa [Addr.add] using this
    obtain ⟨cs', hcs', htr⟩ := hel i (by omega)
    rw [hk] at hcs'
    obtain ⟨_, hlen, hcell⟩ := World.cells?_some hcs'
    refine ⟨a.block, a.off, cs', nf, _, ?_, hlen, fun j hj => ?_, htr⟩
    · obtain ⟨ab, ao, sp⟩ := a
      simp only at hs
      subst hs
      rfl
    · have := hcell j (by omega)
      rw [add_add, add_eq a hs, List.getElem?_eq_getElem hj] at this
      exact this
theorem cellsI1 : Tryd.prog.cellsOf 3 = 1 := by kernel_rfl
theorem cellsX1 : Tryd.prog.cellsOf 2 = 1 := by kernel_rfl
theorem cellsS1 : Tryd.prog.cellsOf 9 = 1 := by kernel_rfl
theorem cellsMv : Tryd.prog.cellsOf 56 = 2 := by kernel_rfl
theorem cellsCh : Tryd.prog.cellsOf 54 = 2 := by kernel_rfl
theorem cellsIs : Tryd.prog.cellsOf 36 = 1 := by kernel_rfl
theorem cellsSs : Tryd.prog.cellsOf 23 = 1 := by kernel_rfl
theorem cellsMs : Tryd.prog.cellsOf 52 = 1 := by kernel_rfl
theorem cellsCs : Tryd.prog.cellsOf 45 = 1 := by kernel_rfl
theorem cellsLs : Tryd.prog.cellsOf 22 = 1 := by kernel_rfl
theorem cellsHs : Tryd.prog.cellsOf 24 = 1 := by kernel_rfl
theorem cellsPr : Tryd.prog.cellsOf 26 = 4 := by kernel_rfl
theorem fMv : ∃ f g : Field, Tryd.prog.underlying 56 = some (.struct #[f, g]) ∧ f.type = 3 ∧ g.type = 2 ∧ f.offset = 0 ∧ g.offset = 1 := ⟨_, _, Tryd.underlying56, rfl, rfl, rfl, rfl⟩
theorem fCh : ∃ f g : Field, Tryd.prog.underlying 54 = some (.struct #[f, g]) ∧ f.type = 9 ∧ g.type = 52 ∧ f.offset = 0 ∧ g.offset = 1 := ⟨_, _, Tryd.underlying54, rfl, rfl, rfl, rfl⟩
theorem fPr : ∃ f g h k : Field, Tryd.prog.underlying 26 = some (.struct #[f, g, h, k]) ∧ f.type = 3 ∧ g.type = 22 ∧ h.type = 23 ∧ k.type = 24 ∧ f.offset = 0 ∧ g.offset = 1 ∧ h.offset = 2 ∧ k.offset = 3 := ⟨_, _, _, _, Tryd.underlying26, rfl, rfl, rfl, rfl, rfl, rfl, rfl, rfl⟩

theorem ints_cell {fuel : Nat} {c : Value} {x : DataW H × List MemPlace} (h : DataW.trod enc Tryd.prog W 0 (fun _ => true) true fuel 36 [c] = some x) :
    ∃ a0 cap l, c = .slice a0 (List.length l) cap ∧ CapOk a0 l.length cap ∧ ISl W a0 l := by
  obtain ⟨a0, len, cap, rfl, hc, _, hel⟩ := open_sl 1 Tryd.underlying36 cellsI1 (by decide) h
  obtain ⟨l, rfl, hl⟩ := pick_list (P := fun i (z : Int) => ∃ g o, a0 = some ⟨g, o, none⟩ ∧ W.cell? ⟨g, o + i, none⟩ = some (.int .i64 z)) len (fun i hi => by
    obtain ⟨g, o, cs', f', y, rfl, h1, h2, h3⟩ := hel i hi
    match cs', h1 with
    | [u], _ =>
      obtain ⟨z, hz, _, _⟩ := DataW.trod_int Tryd.underlying3 h3
      injection hz with hz
      subst hz
      exact ⟨z, g, o, rfl, by simpa using h2 0 (by simp)⟩)
  exact ⟨a0, cap, l, rfl, hc, hl⟩
theorem strs_cell {fuel : Nat} {c : Value} {x : DataW H × List MemPlace} (h : DataW.trod enc Tryd.prog W 0 (fun _ => true) true fuel 23 [c] = some x) :
    ∃ a0 cap l, c = .slice a0 (List.length l) cap ∧ CapOk a0 l.length cap ∧ SSl W a0 l := by
  obtain ⟨a0, len, cap, rfl, hc, _, hel⟩ := open_sl 1 Tryd.underlying23 cellsS1 (by decide) h
  obtain ⟨l, rfl, hl⟩ := pick_list (P := fun i (z : ByteArray) => ∃ g o, a0 = some ⟨g, o, none⟩ ∧ W.cell? ⟨g, o + i, none⟩ = some (.string z)) len (fun i hi => by
    obtain ⟨g, o, cs', f', y, rfl, h1, h2, h3⟩ := hel i hi
    match cs', h1 with
    | [u], _ =>
      obtain ⟨z, hz, _, _⟩ := DataW.trod_string Tryd.underlying9 h3
      injection hz with hz
      subst hz
      exact ⟨z, g, o, rfl, by simpa using h2 0 (by simp)⟩)
  exact ⟨a0, cap, l, rfl, hc, hl⟩
set_option maxRecDepth 100000 in
theorem mvs_cell {fuel : Nat} {c : Value} {x : DataW H × List MemPlace} (h : DataW.trod enc Tryd.prog W 0 (fun _ => true) true fuel 52 [c] = some x) :
    ∃ a0 cap l, c = .slice a0 (List.length l) cap ∧ CapOk a0 l.length cap ∧ MSl W a0 l := by
  obtain ⟨a0, len, cap, rfl, hc, _, hel⟩ := open_sl 2 Tryd.underlying52 cellsMv (by decide) h
  obtain ⟨l, rfl, hl⟩ := pick_list (P := fun i (z : MvO) => ∃ g o, a0 = some ⟨g, o, none⟩ ∧ W.cell? ⟨g, o + i * 2, none⟩ = some (.int .i64 z.to) ∧ W.cell? ⟨g, o + (i * 2 + 1), none⟩ = some (.int .i64 z.wt)) len (fun i hi => by
    obtain ⟨g, o, cs', f', y, rfl, h1, h2, h3⟩ := hel i hi
    obtain ⟨f, k, hu, hft, hgt, hfo, hgo⟩ := fMv
    obtain ⟨ys, n', _, _, hlen, hyl, hfs⟩ := DataW.trod_struct hu h3
    have q0 := hfs 0 f rfl
    have q1 := hfs 1 k rfl
    rw [hfo, hft, cellsI1] at q0
    rw [hgo, hgt, cellsX1] at q1
    match cs', h1, ys, hyl with
    | [u, v], _, [y0, y1], _ =>
      simp only [List.drop_zero, List.take_succ_cons, List.take_zero, List.drop_succ_cons, List.getElem?_cons_zero, List.getElem?_cons_succ] at q0 q1
      obtain ⟨z, hz, _, _⟩ := DataW.trod_int Tryd.underlying3 q0
      obtain ⟨z2, hz2, _, _⟩ := DataW.trod_int Tryd.underlying2 q1
      injection hz with hz
      injection hz2 with hz2
      subst hz hz2
      exact ⟨⟨z, z2⟩, g, o, rfl, by simpa using h2 0 (by simp), by simpa using h2 1 (by simp)⟩)
  exact ⟨a0, cap, l, rfl, hc, hl⟩
set_option maxRecDepth 100000 in
theorem chs_cell {fuel : Nat} {c : Value} {x : DataW H × List MemPlace} (h : DataW.trod enc Tryd.prog W 0 (fun _ => true) true fuel 45 [c] = some x) :
    ∃ a0 cap l, c = .slice a0 (List.length l) cap ∧ CapOk a0 l.length cap ∧ CSl W a0 l := by
  obtain ⟨a0, len, cap, rfl, hc, _, hel⟩ := open_sl 2 Tryd.underlying45 cellsCh (by decide) h
  obtain ⟨l, rfl, hl⟩ := pick_list (P := fun i (z : ChO) => ∃ g o B cap, a0 = some ⟨g, o, none⟩ ∧ W.cell? ⟨g, o + i * 2, none⟩ = some (.string z.act) ∧ W.cell? ⟨g, o + (i * 2 + 1), none⟩ = some (.slice B z.mv.length cap) ∧ z.mv.length ≤ cap ∧ MSl W B z.mv) len (fun i hi => by
    obtain ⟨g, o, cs', f', y, rfl, h1, h2, h3⟩ := hel i hi
    obtain ⟨f, k, hu, hft, hgt, hfo, hgo⟩ := fCh
    obtain ⟨ys, n', _, _, hlen, hyl, hfs⟩ := DataW.trod_struct hu h3
    have q0 := hfs 0 f rfl
    have q1 := hfs 1 k rfl
    rw [hfo, hft, cellsS1] at q0
    rw [hgo, hgt, cellsMs] at q1
    match cs', h1, ys, hyl with
    | [u, v], _, [y0, y1], _ =>
      simp only [List.drop_zero, List.take_succ_cons, List.take_zero, List.drop_succ_cons, List.getElem?_cons_zero, List.getElem?_cons_succ] at q0 q1
      obtain ⟨z, hz, _, _⟩ := DataW.trod_string Tryd.underlying9 q0
      obtain ⟨B, cap2, ml, hm, hcp, hms⟩ := mvs_cell q1
      injection hz with hz
      subst hz hm
      exact ⟨⟨z, ml⟩, g, o, B, cap2, rfl, by simpa using h2 0 (by simp), by simpa using h2 1 (by simp), hcp.1, hms⟩)
  exact ⟨a0, cap, l, rfl, hc, hl⟩
theorem chss_cell {fuel : Nat} {c : Value} {x : DataW H × List MemPlace} (h : DataW.trod enc Tryd.prog W 0 (fun _ => true) true fuel 22 [c] = some x) :
    ∃ a0 cap l, c = .slice a0 (List.length l) cap ∧ CapOk a0 l.length cap ∧ LSl W a0 l := by
  obtain ⟨a0, len, cap, rfl, hc, _, hel⟩ := open_sl 1 Tryd.underlying22 cellsCs (by decide) h
  obtain ⟨l, rfl, hl⟩ := pick_list (P := fun i (z : List ChO) => ∃ g o B cap, a0 = some ⟨g, o, none⟩ ∧ W.cell? ⟨g, o + i, none⟩ = some (.slice B z.length cap) ∧ z.length ≤ cap ∧ CSl W B z) len (fun i hi => by
    obtain ⟨g, o, cs', f', y, rfl, h1, h2, h3⟩ := hel i hi
    match cs', h1 with
    | [u], _ =>
      obtain ⟨B, cap2, ml, hm, hcp, hms⟩ := chs_cell h3
      subst hm
      exact ⟨ml, g, o, B, cap2, rfl, by simpa using h2 0 (by simp), hcp.1, hms⟩)
  exact ⟨a0, cap, l, rfl, hc, hl⟩
theorem hds_cell {fuel : Nat} {c : Value} {x : DataW H × List MemPlace} (h : DataW.trod enc Tryd.prog W 0 (fun _ => true) true fuel 24 [c] = some x) :
    ∃ a0 cap l, c = .slice a0 (List.length l) cap ∧ CapOk a0 l.length cap ∧ HSl W a0 l := by
  obtain ⟨a0, len, cap, rfl, hc, _, hel⟩ := open_sl 1 Tryd.underlying24 cellsIs (by decide) h
  obtain ⟨l, rfl, hl⟩ := pick_list (P := fun i (z : List Int) => ∃ g o B cap, a0 = some ⟨g, o, none⟩ ∧ W.cell? ⟨g, o + i, none⟩ = some (.slice B z.length cap) ∧ CapOk B z.length cap ∧ ISl W B z) len (fun i hi => by
    obtain ⟨g, o, cs', f', y, rfl, h1, h2, h3⟩ := hel i hi
    match cs', h1 with
    | [u], _ =>
      obtain ⟨B, cap2, ml, hm, hcp, hms⟩ := ints_cell h3
      subst hm
      exact ⟨ml, g, o, B, cap2, rfl, by simpa using h2 0 (by simp), hcp, hms⟩)
  exact ⟨a0, cap, l, rfl, hc, hl⟩
theorem strs_of {a0 : Option Addr} {len cap : Nat} {d : DataW H} {p : List MemPlace} (h : DataW.Trod enc Tryd.prog W 0 (fun _ => true) true 23 (.slice a0 len cap) d p) :
    ∃ l : List ByteArray, len = l.length ∧ CapOk a0 l.length cap ∧ SSl W a0 l := by
  obtain ⟨fuel, hf⟩ := h
  obtain ⟨a, c, l, hc, h1, h2⟩ := strs_cell (c := .slice a0 len cap) hf
  injection hc with e1 e2 e3
  subst e1 e2 e3
  exact ⟨l, rfl, h1, h2⟩
set_option maxRecDepth 100000 in
theorem pr_of {cs : Array Value} {d : DataW H} {p : List MemPlace} (h : DataW.Trod enc Tryd.prog W 0 (fun _ => true) true 26 (.agg cs) d p) :
    ∃ (q : PrO) (v : PV), cs = (v.l q).toArray ∧ PrM W v q := by
  obtain ⟨fuel, hf⟩ := h
  obtain ⟨f, g, k, m, hu, t0, t1, t2, t3, o0, o1, o2, o3⟩ := fPr
  obtain ⟨ys, n', _, _, hlen, hyl, hfs⟩ := DataW.trod_struct hu hf
  have q0 := hfs 0 f rfl
  have q1 := hfs 1 g rfl
  have q2 := hfs 2 k rfl
  have q3 := hfs 3 m rfl
  rw [o0, t0, cellsI1] at q0
  rw [o1, t1, cellsLs] at q1
  rw [o2, t2, cellsSs] at q2
  rw [o3, t3, cellsHs] at q3
  rw [cellsPr] at hlen
  obtain ⟨csl⟩ := cs
  change csl.length = 4 at hlen
  change DataW.trod enc Tryd.prog W 0 (fun _ => true) true n' 3 ((csl.drop 0).take 1) = _ at q0
  change DataW.trod enc Tryd.prog W 0 (fun _ => true) true n' 22 ((csl.drop 1).take 1) = _ at q1
  change DataW.trod enc Tryd.prog W 0 (fun _ => true) true n' 23 ((csl.drop 2).take 1) = _ at q2
  change DataW.trod enc Tryd.prog W 0 (fun _ => true) true n' 24 ((csl.drop 3).take 1) = _ at q3
  match csl, hlen, ys, hyl with
  | [u0, u1, u2, u3], _, [y0, y1, y2, y3], _ =>
    simp only [List.drop_zero, List.take_succ_cons, List.take_zero, List.drop_succ_cons, List.getElem?_cons_zero, List.getElem?_cons_succ] at q0 q1 q2 q3
    obtain ⟨z, hz, _, _⟩ := DataW.trod_int Tryd.underlying3 q0
    injection hz with hz
    subst hz
    obtain ⟨A, a, l1, rfl, h1, h2⟩ := chss_cell q1
    obtain ⟨B, b, l2, rfl, h3, h4⟩ := strs_cell q2
    obtain ⟨C, c, l3, rfl, h5, h6⟩ := hds_cell q3
    exact ⟨⟨z, l1, l2, l3⟩, ⟨A, a, B, b, C, c⟩, rfl, h2, h1.1, h4, h3, h6, h5.1⟩
end
end Go.Proofs.YtkgjpimapfmeoaaDoor
