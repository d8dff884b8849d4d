/-
  From a walk that answers true and leaves all that was there as it was to the row's last clause; arguments that are bytes and slices of bytes or ints, as a walk takes them.
-/
import Derived.Test.YtmdmanhjgbpgoaaDoorP0
import Derived.Test.YtmdmanhjgbpgoaaDoorS4
namespace Go.Proofs.YtmdmanhjgbpgoaaDoor
open Go.ChangeShapes Go.WideShapes Go.ChangeAt Go.RowKit

theorem laidOut : laidOutB Tryd.prog = true := by kernel_rfl
theorem cells3 : Tryd.prog.cellsOf 3 = 1 := by kernel_rfl

theorem trodAll_below {H : Type} {enc : TypeId × Value → H} {W W' : World} (hb : Below W.heap.size W W') : ∀ {ts : List TypeId} {vs : List Value} {ds : List (DataW H)} {p : List MemPlace},
    DataW.TrodAll enc Tryd.prog W 0 (fun _ => true) true ts vs ds p → (∀ x ∈ p, x.block < W.heap.size) → (∀ t ∈ ts, Tryd.prog.readableRec t = true ∧ t < Tryd.prog.types.size) →
    DataW.TrodAll enc Tryd.prog W' 0 (fun b => decide (b < W.heap.size)) true ts vs ds p
  | [], vs, ds, p, h, _, _ => by
    cases vs <;> cases ds <;> simp_all [DataW.TrodAll]
  | t :: ts, vs, ds, p, h, hlt, hts => by
    obtain ⟨v, vs', d, ds', p1, q1, rfl, rfl, rfl, h1, h2⟩ := trodAll_cons h
    have ht := hts t List.mem_cons_self
    exact trodAll_cons_mk (Below.trod laidOut ht.1 ht.2 h1 hb (fun x hx => hlt x (List.mem_append_left _ hx)))
      (trodAll_below hb h2 (fun x hx => hlt x (List.mem_append_right _ hx)) (fun t' ht' => hts t' (List.mem_cons_of_mem _ ht')))

/-- The law's post, for whatever arguments. -/
theorem law_post {H : Type} {enc : TypeId × Value → H} {f : Func} {s : ChangeSpec} {W W' : World} {args : Array Value} {ds : List (DataW H)} {p : List MemPlace}
    (hW : DataW.Whole enc Tryd.prog f.params.toList s.vars false W args.toList ds [] p) (hA : DataW.TrodAll enc Tryd.prog W 0 (fun _ => true) true f.params.toList args.toList ds p)
    (hts : ∀ t ∈ f.params.toList, Tryd.prog.readableRec t = true ∧ t < Tryd.prog.types.size) (hr : f.resultTypes = #[4]) (hv : s.vars = [])
    (hfn : s.fn H (ds ++ []) = { results := [.lit (.bool true)], args := ds }) (hb : Below W.heap.size W W') : s.post enc Tryd.prog f false true false false W args (.bool true) W' := by
  have hlt : ∀ x ∈ p, x.block < W.heap.size := fun x hx => hW.lt x hx
  refine ⟨ds, [], p, [], p, [], hW, ?_, ?_, ?_, hb.frame _, fun h => by cases h⟩
  · rw [hfn, hr]; exact trodAll_mk1 (shut_bool Tryd.underlying4 true)
  · rw [hfn]; exact trodAll_below hb hA hlt hts
  · rw [hfn, hv]; rfl

theorem u8_wf {n : Int} (h : (Lit.int .u8 n).wf = true) : 0 ≤ n ∧ n ≤ 255 := by
  have h1 : IntKind.u8.min = 0 := rfl
  have h2 : IntKind.u8.max = 255 := rfl
  simp only [Lit.wf, Bool.and_eq_true, decide_eq_true_eq] at h
  omega

theorem spot_none {W : World} {a : Addr} {v : Value} (h : W.cell? a = some v) : a.spot = none := by
  unfold World.cell? at h
  split at h
  · split at h
    · cases h
    · rename_i hs; simpa using hs
  · cases h

theorem add_eq (a : Addr) (hs : a.spot = none) (k : Nat) : a.add k = ⟨a.block, a.off + k, none⟩ := by
  obtain ⟨ab, ao, sp⟩ := a
  simp only at hs
  subst hs
  by_cases h0 : k = 0 <;> simp [Addr.add, h0]

/-- A slice of bytes that came in. -/
theorem reads8_of {H : Type} {enc : TypeId × Value → H} {W : World} {a0 : Option Addr} {len cap : Nat} {d : DataW H} {p : List MemPlace}
    (h : DataW.Trod enc Tryd.prog W 0 (fun _ => true) true 49 (.slice a0 len cap) d p) : ∃ xs : List Int, Reads8 W (.slice a0 len cap) xs ∧ xs.length ≤ maxLen := by
  obtain ⟨fuel, hf⟩ := h
  rcases open_ints Tryd.underlying49 Tryd.underlying5 cells5 hf with ⟨hcs, hx⟩ | ⟨a, len', cap', zs, hcs, _, hl, hm, hz, hx, hcell, hwz⟩
  · simp [Value.cells] at hcs
    obtain ⟨rfl, rfl, rfl⟩ := hcs
    exact ⟨[], ⟨none, 0, rfl, fun k hk => absurd hk (by simp), fun k => by simp⟩, by simp⟩
  · simp [Value.cells] at hcs
    obtain ⟨rfl, rfl, rfl⟩ := hcs
    simp only [if_true] at hz
    have hlen : (zs.take len).length = len := by rw [List.length_take]; omega
    refine ⟨zs.take len, ⟨some a, cap, by rw [hlen], ?_, ?_⟩, by rw [hlen]; omega⟩
    · intro k hk
      rw [hlen] at hk
      have h0 := hcell 0 (by omega)
      have hs : a.spot = none := by
        have := spot_none h0
        simpa [Addr.add] using this
      have hk' := hcell k (by omega)
      refine ⟨a, rfl, hs, ?_⟩
      have ea := add_eq a hs k
      rw [ea] at hk'
      rw [hk']
      simp [List.getD_eq_getElem?_getD, List.getElem?_take, hk]
    · intro k
      rw [List.getD_eq_getElem?_getD]
      cases hx : (zs.take len)[k]? with
      | none => simp
      | some y =>
        have hy : y ∈ zs := List.mem_of_mem_take (List.mem_of_getElem? hx)
        simpa using u8_wf (hwz y hy)
/-- A slice of ints that came in. -/
theorem reads_of {H : Type} {enc : TypeId × Value → H} {W : World} {a0 : Option Addr} {len cap : Nat} {d : DataW H} {p : List MemPlace}
    (h : DataW.Trod enc Tryd.prog W 0 (fun _ => true) true 22 (.slice a0 len cap) d p) : ∃ xs : List Int, Reads W (.slice a0 len cap) xs ∧ xs.length ≤ maxLen := by
  obtain ⟨fuel, hf⟩ := h
  rcases open_ints Tryd.underlying22 Tryd.underlying3 cells3 hf with ⟨hcs, hx⟩ | ⟨a, len', cap', zs, hcs, _, hl, hm, hz, hx, hcell, hwz⟩
  · simp [Value.cells] at hcs
    obtain ⟨rfl, rfl, rfl⟩ := hcs
    exact ⟨[], ⟨none, 0, rfl, fun k hk => absurd hk (by simp)⟩, by simp⟩
  · simp [Value.cells] at hcs
    obtain ⟨rfl, rfl, rfl⟩ := hcs
    simp only [if_true] at hz
    have hlen : (zs.take len).length = len := by rw [List.length_take]; omega
    refine ⟨zs.take len, ⟨some a, cap, by rw [hlen], ?_⟩, by rw [hlen]; omega⟩
    intro k hk
    rw [hlen] at hk
    have h0 := hcell 0 (by omega)
    have hs : a.spot = none := by
      have := spot_none h0
      simpa [Addr.add] using this
    have hk' := hcell k (by omega)
    refine ⟨a, rfl, hs, ?_⟩
    have ea := add_eq a hs k
    rw [ea] at hk'
    rw [hk']
    simp [List.getD_eq_getElem?_getD, List.getElem?_take, hk]
end Go.Proofs.YtmdmanhjgbpgoaaDoor
