/-
  From a walk that answers true and leaves all that was there as it was to the row's last clause; arguments that are vectors and lists of vectors, as a walk takes them.
-/
import Derived.Test.YtoppjkdlloddmaaDoorP0
import Derived.Deep.Slices
namespace Go.Proofs.YtoppjkdlloddmaaDoor
open Go.ChangeShapes Go.WideShapes Go.ChangeAt Go.RowKit

theorem laidOut : laidOutB Tryd.prog = true := by kernel_rfl
theorem cellsI : Tryd.prog.cellsOf 21 = 1 := by kernel_rfl
theorem cellsV : Tryd.prog.cellsOf 26 = 1 := by kernel_rfl

theorem trodAll_below {H : Type} {enc : TypeId × Value → H} {W W' : World} (hb : Below W.heap.size W W') : ∀ {ts : List TypeId} {vs : List Value} {ds : List (DataW H)} {p : List MemPlace},
    DataW.TrodAll enc Tryd.prog W 0 (fun _ => true) true ts vs ds p → (∀ x ∈ p, x.block < W.heap.size) → (∀ t ∈ ts, Tryd.prog.readableRec t = true ∧ t < Tryd.prog.types.size) →
    DataW.TrodAll enc Tryd.prog W' 0 (fun b => decide (b < W.heap.size)) true ts vs ds p
  | [], vs, ds, p, h, _, _ => by
    cases vs <;> cases ds <;> simp_all [DataW.TrodAll]
  | t :: ts, vs, ds, p, h, hlt, hts => by
    obtain ⟨v, vs', d, ds', p1, q1, rfl, rfl, rfl, h1, h2⟩ := trodAll_cons h
    have ht := hts t List.mem_cons_self
    exact trodAll_cons_mk (Below.trod laidOut ht.1 ht.2 h1 hb (fun x hx => hlt x (List.mem_append_left _ hx)))
      (trodAll_below hb h2 (fun x hx => hlt x (List.mem_append_right _ hx)) (fun t' ht' => hts t' (List.mem_cons_of_mem _ ht')))

/-- The law's post, for whatever arguments. -/
theorem law_post {H : Type} {enc : TypeId × Value → H} {f : Func} {s : ChangeSpec} {W W' : World} {args : Array Value} {ds : List (DataW H)} {p : List MemPlace}
    (hW : DataW.Whole enc Tryd.prog f.params.toList s.vars false W args.toList ds [] p) (hA : DataW.TrodAll enc Tryd.prog W 0 (fun _ => true) true f.params.toList args.toList ds p)
    (hts : ∀ t ∈ f.params.toList, Tryd.prog.readableRec t = true ∧ t < Tryd.prog.types.size) (hr : f.resultTypes = #[4]) (hv : s.vars = [])
    (hfn : s.fn H (ds ++ []) = { results := [.lit (.bool true)], args := ds }) (hb : Below W.heap.size W W') : s.post enc Tryd.prog f false true false false W args (.bool true) W' := by
  have hlt : ∀ x ∈ p, x.block < W.heap.size := fun x hx => hW.lt x hx
  refine ⟨ds, [], p, [], p, [], hW, ?_, ?_, ?_, hb.frame _, fun h => by cases h⟩
  · rw [hfn, hr]; exact trodAll_mk1 (shut_bool Tryd.underlying4 true)
  · rw [hfn]; exact trodAll_below hb hA hlt hts
  · rw [hfn, hv]; rfl

theorem spot_none {W : World} {a : Addr} {v : Value} (h : W.cell? a = some v) : a.spot = none := by
  unfold World.cell? at h
  split at h
  · split at h
    · cases h
    · rename_i hs; simpa using hs
  · cases h

theorem add_eq (a : Addr) (hs : a.spot = none) (k : Nat) : a.add k = ⟨a.block, a.off + k, none⟩ := by
  obtain ⟨ab, ao, sp⟩ := a
  simp only at hs
  subst hs
  by_cases h0 : k = 0 <;> simp [Addr.add, h0]

/-- A vector that came in. -/
theorem r32_cell {H : Type} {enc : TypeId × Value → H} {W : World} {fuel : Nat} {c : Value} {x : DataW H × List MemPlace}
    (hf : DataW.trod enc Tryd.prog W 0 (fun _ => true) true fuel 26 [c] = some x) : ∃ xs : List Int, R32 W c xs ∧ xs.length ≤ maxLen := by
  rcases open_ints Tryd.underlying26 Tryd.underlying21 cellsI hf with ⟨hcs, hx⟩ | ⟨a, len, cap, zs, hcs, _, hl, hm, hz, hx, hcell, hwz⟩
  · injection hcs with h1 _
    subst h1
    exact ⟨[], ⟨none, 0, rfl, fun k hk => absurd hk (by simp)⟩, by simp⟩
  · injection hcs with h1 _
    subst h1
    simp only [if_true] at hz
    have hlen : (zs.take len).length = len := by rw [List.length_take]; omega
    refine ⟨zs.take len, ⟨some a, cap, by rw [hlen], ?_⟩, by rw [hlen]; omega⟩
    intro k hk
    rw [hlen] at hk
    have h0 := hcell 0 (by omega)
    have hs : a.spot = none := by
      have := spot_none h0
      simpa [Addr.add] using this
    have hk' := hcell k (by omega)
    refine ⟨a, rfl, hs, ?_⟩
    have ea := add_eq a hs k
    rw [ea] at hk'
    rw [hk']
    simp [List.getD_eq_getElem?_getD, hk]
theorem r32_of {H : Type} {enc : TypeId × Value → H} {W : World} {a0 : Option Addr} {len cap : Nat} {d : DataW H} {p : List MemPlace}
    (h : DataW.Trod enc Tryd.prog W 0 (fun _ => true) true 26 (.slice a0 len cap) d p) : ∃ xs : List Int, R32 W (.slice a0 len cap) xs ∧ xs.length ≤ maxLen := by
  obtain ⟨fuel, hf⟩ := h
  exact r32_cell (x := (d, p)) hf
set_option maxRecDepth 100000 in
/-- A list of vectors that came in. -/
theorem rl_of {H : Type} {enc : TypeId × Value → H} {W : World} {a0 : Option Addr} {len cap : Nat} {d : DataW H} {p : List MemPlace}
    (h : DataW.Trod enc Tryd.prog W 0 (fun _ => true) true 22 (.slice a0 len cap) d p) : ∃ ls : List (List Int), RL W (.slice a0 len cap) ls ∧ ls.length ≤ maxLen := by
  obtain ⟨fuel, hf⟩ := h
  rcases Go.Deep.open_slice Tryd.underlying22 hf with ⟨hcs, hx⟩ | ⟨a, len', cap', m, nf, D, Pl, hcs, _, hl, hm, hmm, hx, hel⟩
  · simp [Value.cells] at hcs
    obtain ⟨rfl, rfl, rfl⟩ := hcs
    exact ⟨[], ⟨none, 0, rfl, fun k hk => absurd hk (by simp)⟩, by simp⟩
  · simp [Value.cells] at hcs
    obtain ⟨rfl, rfl, rfl⟩ := hcs
    simp only [if_true] at hmm
    have hone : ∀ i, ∃ q : Value × List Int, i < len → a.spot = none ∧ W.cell? ⟨a.block, a.off + i, none⟩ = some q.1 ∧ R32 W q.1 q.2 ∧ q.2.length ≤ 9223372036854775807 := by
      intro i
      by_cases hi : i < len
      · obtain ⟨cs', hcs', htr⟩ := hel i (by omega)
        rw [cellsV, Nat.mul_one] at hcs'
        obtain ⟨_, hlen, hcell⟩ := World.cells?_some hcs'
        have hc0 := hcell 0 (by omega)
        match cs', hlen with
        | [c], _ =>
          obtain ⟨xs, hr, hxl⟩ := r32_cell htr
          have hs : a.spot = none := by
            obtain ⟨cs0, hcs0, _⟩ := hel 0 (by omega)
            rw [cellsV, Nat.mul_one] at hcs0
            obtain ⟨_, hlen0, hcell0⟩ := World.cells?_some hcs0
            match cs0, hlen0 with
            | [c0], _ =>
              have := spot_none (hcell0 0 (by omega))
              simpa [Addr.add] using this
          rw [add_eq a hs, add_eq _ rfl] at hc0
          unfold maxLen at hxl
          exact ⟨(c, xs), fun _ => ⟨hs, by simpa using hc0, hr, hxl⟩⟩
      · exact ⟨(.slice none 0 0, []), fun h => absurd h hi⟩
    obtain ⟨F, hF⟩ := Classical.axiomOfChoice hone
    have hll : ((List.range len).map fun i => (F i).2).length = len := by simp
    refine ⟨(List.range len).map fun i => (F i).2, ⟨some a, cap, by rw [hll], ?_⟩, by rw [hll]; omega⟩
    intro k hk
    rw [hll] at hk
    obtain ⟨h1, h2, h3, h4⟩ := hF k hk
    have e : ((List.range len).map fun i => (F i).2).getD k [] = (F k).2 := by
      rw [List.getD_eq_getElem?_getD, List.getElem?_map, List.getElem?_range hk]; rfl
    rw [e]
    exact ⟨a, (F k).1, rfl, h1, h2, h3, h4⟩
end Go.Proofs.YtoppjkdlloddmaaDoor
