/-
  What the rows' list of package variables gives to a walk, and a world in which it holds. From a walk that answers true and leaves all that was there as it was to the row's last clause; what a number that came in can be. What the cards of the texts take besides; and the lists that come in. Bytes that come in.
-/
import Derived.Test.YtmgjpjjglghbaaaGreatDoorRows
import Derived.Test.YtmgjpjjglghbaaaGreatDoorOG
import Derived.ProofKit
import Derived.OpenShut
import Derived.LaidHandle
import Derived.Deep.DeepHandedRow
import Derived.Lib.LaidTab
import Derived.Stop.LaidErr
import Derived.Carry
import Derived.Deep.Slices
import Derived.ChangeMaps5
import Derived.Deep.Fields
import Derived.ChangeSame
import Derived.SizedLaws
import Derived.Test.YtmgjpjjglghbaaaGreatDoorOJ
namespace Go.Proofs.YtmgjpjjglghbaaaGreatDoor
section
section
open Go.ChangeShapes Go.WideShapes Go.ChangeAt Go.RowKit

theorem own : ownKnob Tryz.prog.godebug = none := by kernel_rfl
theorem gErr : Tryz.prog.globalNamed "errors.errorType" = some 0 := by kernel_rfl
theorem gRng : Tryz.prog.globalNamed "strconv.ErrRange" = some 2 := by kernel_rfl
theorem gRngType : (Tryz.prog.globals[2]?).map (·.type) = some 29 := by kernel_rfl
theorem rtypeNum : (Tryz.prog.cutTypes.find? (·.1 == "internal/reflectlite.rtype")).map (·.2) = some 163 := by kernel_rfl
theorem typesSize : Tryz.prog.types.size = 287 := by kernel_rfl
theorem oneRow : ((List.range 287).filter fun t => Tryz.prog.rowNamed t [101, 114, 114, 111, 114]) = [29] := by kernel_rfl
theorem cellsErr : Tryz.prog.cellsOf 247 = 1 := by kernel_rfl
theorem cellsStr : Tryz.prog.cellsOf 9 = 1 := by kernel_rfl
/-- The list that every row of this seat bears. -/
def LaidL : List (String × DataW Unit) := Rows.lassoStepsRow.laid
def ifName : DataW Unit → String
  | .iface n _ => n
  | _ => "none"
def errNm : String := ifName Rows.laid_strconv_ErrRange
theorem star : "*" ++ "errors.errorString" = errNm := by decide
theorem rowErr (u : TypeId) (h : Tryz.prog.typeName? 3 u = some errNm) : u = 245 :=
  typeName_ptr_named (nm := "errors.errorString") (by rw [star]; kernel_rfl) (by kernel_rfl) (by decide) u (by rw [star]; exact h)
theorem glob_of_laid {W : World} (h : laidMetH Tryz.prog LaidL W) : GlobS W := by
  have h' : laidMet Tryz.prog (LaidL.filter fun x => x.2.handleName?.isNone) W ∧ handlesMet Tryz.prog (LaidL.filter fun x => x.2.handleName?.isSome) W := h
  refine ⟨⟨?_⟩, ?_⟩
  · obtain ⟨name, u, ty, e1, e2, e3, e4, e5⟩ := h'.2 ("errors.errorType", Rows.laid_errors_errorType) (List.mem_singleton.2 rfl)
    have en : name = [101, 114, 114, 111, 114] := (Option.some.inj e1).symm
    subst en
    obtain rfl := Option.some.inj (rtypeNum.symm.trans e2)
    have hm : ty ∈ (List.range 287).filter fun t => Tryz.prog.rowNamed t [101, 114, 114, 111, 114] := List.mem_filter.2 ⟨List.mem_range.2 (by rw [← typesSize]; exact e3), e4⟩
    rw [oneRow] at hm
    obtain rfl := List.mem_singleton.1 hm
    have hh : typeHandle Tryz.prog 29 = .pointer (some ⟨6, 29, none⟩) := by kernel_rfl
    rw [hh] at e5
    simpa using World.var?_cell gErr e5 0
  · have h3 : laidMet Tryz.prog [("strconv.ErrRange", Rows.laid_strconv_ErrRange), ("strconv.ErrSyntax", Rows.laid_strconv_ErrSyntax)] W := h'.1.tail.tail.tail
    obtain ⟨a0, s0, hv0, _, _, _⟩ := laid_sentinel (nm := errNm) h3 gRng gRngType Tryz.underlying29 rowErr Tryz.underlying245 Tryz.underlying247 rfl rfl Tryz.underlying9 cellsErr cellsStr
    exact ⟨_, _, by simpa using World.var?_cell gRng hv0 0⟩

theorem gPow : Tryz.prog.globalNamed "internal/strconv.uint64pow10" = some 3 := by kernel_rfl
theorem gPowType : (Tryz.prog.globals[3]?).map (·.type) = some 255 := by kernel_rfl
theorem cellsU : Tryz.prog.cellsOf 139 = 1 := by kernel_rfl
theorem cellsPow : Tryz.prog.cellsOf 255 = 20 := by kernel_rfl

def litV : DataW Unit → Value
  | .lit (.int k n) => .int k n
  | _ => .nilIface
def tabV : DataW Unit → Array Value
  | .agg l => (l.map litV).toArray
  | _ => #[]
def txtV : DataW Unit → Value
  | .iface _ (.ptr (.agg [.lit (.string l)])) => .string ⟨l.toArray⟩
  | _ => .nilIface
/-- So many blocks has the settled world. -/
noncomputable def low : Nat := (World.holding Tryz.prog default ⟨#[], #[], []⟩).heap.size
def put (v : Array Value) : Obj → Obj
  | .cells _ t frozen => .cells v t frozen
  | o => o
/-- A world in which the list holds. -/
noncomputable def laidWorld (os : Os) : World :=
  let w0 := World.holding Tryz.prog os ⟨#[.cells #[txtV Rows.laid_strconv_ErrRange] 247, .cells #[txtV Rows.laid_strconv_ErrSyntax] 247], #[], []⟩
  { w0 with heap := (((((w0.heap.modify 0 (put #[.iface 163 (.agg #[.pointer (some ⟨6, 29, none⟩)])])).modify 2 (put #[.iface 245 (.pointer (some ⟨low, 0, none⟩))])).modify 1 (put #[.iface 245 (.pointer (some ⟨low + 1, 0, none⟩))])).modify 3 (put (tabV Rows.laid_internal_strconv_uint64pow10))).modify 4 (put (tabV Rows.laid_math_bits_deBruijn32tab))).modify 5 (put (tabV Rows.laid_math_bits_deBruijn64tab)) }
theorem laid_met (os : Os) (args : Array Value) : laidMetH Tryz.prog LaidL ((laidWorld os).forCall (fun _ _ => 0) ⟨#[], args, []⟩).memory :=
  laidMetH_of_parts (laidMet_of_run' 8 (by kernel_rfl) (by kernel_rfl)) (by kernel_rfl)
end
section
open Go.ChangeShapes Go.WideShapes Go.ChangeAt Go.RowKit

theorem laidOut : laidOutB Tryz.prog = true := by kernel_rfl

theorem trodAll_below {H : Type} {enc : TypeId × Value → H} {W W' : World} (hb : Below W.heap.size W W') : ∀ {ts : List TypeId} {vs : List Value} {ds : List (DataW H)} {p : List MemPlace},
    DataW.TrodAll enc Tryz.prog W 0 (fun _ => true) true ts vs ds p → (∀ x ∈ p, x.block < W.heap.size) → (∀ t ∈ ts, Tryz.prog.readableRec t = true ∧ t < Tryz.prog.types.size) →
    DataW.TrodAll enc Tryz.prog W' 0 (fun b => decide (b < W.heap.size)) true ts vs ds p
  | [], vs, ds, p, h, _, _ => by
    cases vs <;> cases ds <;> simp_all [DataW.TrodAll]
  | t :: ts, vs, ds, p, h, hlt, hts => by
    obtain ⟨v, vs', d, ds', p1, q1, rfl, rfl, rfl, h1, h2⟩ := trodAll_cons h
    have ht := hts t List.mem_cons_self
    exact trodAll_cons_mk (Below.trod laidOut ht.1 ht.2 h1 hb (fun x hx => hlt x (List.mem_append_left _ hx)))
      (trodAll_below hb h2 (fun x hx => hlt x (List.mem_append_right _ hx)) (fun t' ht' => hts t' (List.mem_cons_of_mem _ ht')))

/-- The law's post, for whatever arguments. -/
theorem law_post {H : Type} {enc : TypeId × Value → H} {f : Func} {s : ChangeSpec} {W W' : World} {args : Array Value} {ds : List (DataW H)} {p : List MemPlace}
    (hW : DataW.Whole enc Tryz.prog f.params.toList s.vars false W args.toList ds [] p) (hA : DataW.TrodAll enc Tryz.prog W 0 (fun _ => true) true f.params.toList args.toList ds p)
    (hts : ∀ t ∈ f.params.toList, Tryz.prog.readableRec t = true ∧ t < Tryz.prog.types.size) (hr : f.resultTypes = #[4]) (hv : s.vars = [])
    (hfn : s.fn H (ds ++ []) = { results := [.lit (.bool true)], args := ds }) (hb : Below W.heap.size W W') : s.post enc Tryz.prog f false true false false W args (.bool true) W' := by
  have hlt : ∀ x ∈ p, x.block < W.heap.size := fun x hx => hW.lt x hx
  refine ⟨ds, [], p, [], p, [], hW, ?_, ?_, ?_, hb.frame _, fun h => by cases h⟩
  · rw [hfn, hr]; exact trodAll_mk1 (shut_bool Tryz.underlying4 true)
  · rw [hfn]; exact trodAll_below hb hA hlt hts
  · rw [hfn, hv]; rfl

theorem spot_none {W : World} {a : Addr} {v : Value} (h : W.cell? a = some v) : a.spot = none := by
  unfold World.cell? at h
  split at h
  · split at h
    · cases h
    · rename_i hs; simpa using hs
  · cases h

theorem add_eq (a : Addr) (hs : a.spot = none) (k : Nat) : a.add k = ⟨a.block, a.off + k, none⟩ := by
  obtain ⟨ab, ao, sp⟩ := a
  simp only at hs
  subst hs
  by_cases h0 : k = 0 <;> simp [Addr.add, h0]

theorem i64_wf {n : Int} (h : (Lit.int .i64 n).wf = true) : -9223372036854775808 ≤ n ∧ n ≤ 9223372036854775807 := by
  have e1 : IntKind.min .i64 = -9223372036854775808 := by decide
  have e2 : IntKind.max .i64 = 9223372036854775807 := by decide
  simp only [Lit.wf, Bool.and_eq_true, decide_eq_true_eq] at h
  omega
theorem i32_wf {n : Int} (h : (Lit.int .i32 n).wf = true) : -2147483648 ≤ n ∧ n ≤ 2147483647 := by
  have e1 : IntKind.min .i32 = -2147483648 := by decide
  have e2 : IntKind.max .i32 = 2147483647 := by decide
  simp only [Lit.wf, Bool.and_eq_true, decide_eq_true_eq] at h
  omega
theorem u8_wf {n : Int} (h : (Lit.int .u8 n).wf = true) : 0 ≤ n ∧ n ≤ 255 := by
  have e1 : IntKind.min .u8 = 0 := by decide
  have e2 : IntKind.max .u8 = 255 := by decide
  simp only [Lit.wf, Bool.and_eq_true, decide_eq_true_eq] at h
  omega
end
section
open Go.ChangeShapes Go.WideShapes Go.ChangeAt Go.RowKit
theorem maxLen_eq : maxLen = 9223372036854775807 := rfl
theorem reach_le {s : ByteArray} (h : s.data.toList.length ≤ reachBytes) : s.size ≤ 140737488355328 := by
  have e : s.data.toList.length = s.size := by simp
  have e2 : reachBytes ≤ 140737488355328 := by decide
  omega
end
section
open Go.ChangeShapes Go.WideShapes Go.ChangeAt Go.RowKit Go.Deep
theorem pick_list {α : Type} {P : Nat → α → Prop} : ∀ (n : Nat), (∀ i, i < n → ∃ x, P i x) → ∃ l : List α, l.length = n ∧ ∀ i (hi : i < l.length), P i l[i]
  | 0, _ => ⟨[], rfl, fun i hi => absurd hi (by simp)⟩
  | n + 1, h => by
    obtain ⟨l, hl, hp⟩ := pick_list n (fun i hi => h i (by omega))
    obtain ⟨x, hx⟩ := h n (by omega)
    refine ⟨l ++ [x], by simp [hl], fun i hi => ?_⟩
    by_cases hin : i < l.length
    · rw [List.getElem_append_left hin]
      exact hp i hin
    · have : i = n := by simp at hi; omega
      subst this
      have e : (l ++ [x])[i] = x := by rw [List.getElem_append_right (by omega)]; simp [hl]
      rw [e]
      exact hx

section
variable {H : Type} {enc : TypeId × Value → H} {W : World}
/-- A slice that came in, part by part. -/
theorem open_sl {t e : TypeId} {fuel : Nat} {c : Value} {x : DataW H × List MemPlace} (k : Nat) (ht : Tryz.prog.underlying t = some (.slice e)) (hk : Tryz.prog.cellsOf e = k) (h0 : 0 < k)
    (h : DataW.trod enc Tryz.prog W 0 (fun _ => true) true fuel t [c] = some x) :
    ∃ a0 len cap, c = .slice a0 len cap ∧ CapOk a0 len cap ∧ len ≤ maxLen ∧ ∀ i, i < len → ∃ g o cs' fuel' y, a0 = some ⟨g, o, none⟩ ∧ cs'.length = k ∧ (∀ j (hj : j < cs'.length), W.cell? ⟨g, o + (i * k + j), none⟩ = some cs'[j]) ∧ DataW.trod enc Tryz.prog W 0 (fun _ => true) true fuel' e cs' = some y := by
  rcases Go.Deep.open_slice ht h with ⟨hcs, _⟩ | ⟨a, len, cap, m, nf, D, Pl, hcs, _, hl, hm, hmm, _, hel⟩
  · injection hcs with h1 _
    subst h1
    exact ⟨none, 0, 0, rfl, ⟨Nat.le_refl _, fun _ => rfl⟩, by simp, fun i hi => absurd hi (by omega)⟩
  · injection hcs with h1 _
    subst h1
    simp only [if_true] at hmm
    refine ⟨some a, len, cap, rfl, ⟨hl, fun h => by cases h⟩, by omega, fun i hi => ?_⟩
    have hs : a.spot = none := by
      obtain ⟨cs0, hcs0, _⟩ := hel 0 (by omega)
      rw [hk] at hcs0
      obtain ⟨_, hlen0, hcell0⟩ := World.cells?_some hcs0
      have hc := hcell0 0 h0
      have hb : 0 < cs0.length := by omega
      rw [List.getElem?_eq_getElem hb] at hc
      have := spot_none hc
      simpa [Addr.add] using this
    obtain ⟨cs', hcs', htr⟩ := hel i (by omega)
    rw [hk] at hcs'
    obtain ⟨_, hlen, hcell⟩ := World.cells?_some hcs'
    refine ⟨a.block, a.off, cs', nf, _, ?_, hlen, fun j hj => ?_, htr⟩
    · obtain ⟨ab, ao, sp⟩ := a
      simp only at hs
      subst hs
      rfl
    · have := hcell j (by omega)
      rw [add_add, add_eq a hs, List.getElem?_eq_getElem hj] at this
      exact this
theorem cellsI1 : Tryz.prog.cellsOf 3 = 1 := by kernel_rfl
theorem bytesI1 : Tryz.prog.bytesOf 3 = 8 := by kernel_rfl
theorem ints_of {a0 : Option Addr} {len cap : Nat} {d : DataW H} {p : List MemPlace} (h : DataW.Trod enc Tryz.prog W 0 (fun _ => true) true 23 (.slice a0 len cap) d p) :
    ∃ l : List Int, len = l.length ∧ CapOk a0 len cap ∧ ISl W a0 l ∧ (l = [] ∨ ∃ el sp, d = .slice el sp ∧ el.length = l.length) := by
  obtain ⟨fuel, hf⟩ := h
  obtain ⟨b0, len2, cap2, hc, hcap, hlm, hel⟩ := open_sl 1 Tryz.underlying23 cellsI1 (by decide) (c := .slice a0 len cap) hf
  injection hc with q1 q2 q3
  subst q1 q2 q3
  obtain ⟨l, rfl, hl⟩ := pick_list (P := fun i (z : Int) => ∃ g o, a0 = some ⟨g, o, none⟩ ∧ W.cell? ⟨g, o + i, none⟩ = some (.int .i64 z)) len (fun i hi => by
    obtain ⟨g, o, cs', f', y, rfl, h1, h2, h3⟩ := hel i hi
    match cs', h1 with
    | [u], _ =>
      obtain ⟨z, hz, _, _⟩ := DataW.trod_int Tryz.underlying3 h3
      injection hz with hz
      subst hz
      exact ⟨z, g, o, rfl, by simpa using h2 0 (by simp)⟩)
  refine ⟨l, rfl, hcap, hl, ?_⟩
  rcases Go.Deep.open_slice Tryz.underlying23 hf with ⟨hcs, _⟩ | ⟨a, len, cap, m, nf, D, Pl, hcs, _, _, _, _, hx, _⟩
  · injection hcs with h1 _
    injection h1 with _ h2 _
    exact .inl (List.length_eq_zero_iff.1 h2)
  · injection hcs with h1 _
    injection h1 with _ h2 _
    injection hx with hx _
    exact .inr ⟨_, _, hx, by simp [h2]⟩
theorem ints_small {ts : List TypeId} {ds : List (DataW H)} (hsz : (DataW.weightsEach Tryz.prog ts ds).all (· ≤ reachBytes) = true) {j : Nat} {d : DataW H} {l : List Int} (ht : ts[j]? = some 23) (hd : ds[j]? = some d) (h : l = [] ∨ ∃ el sp, d = .slice el sp ∧ el.length = l.length) : l.length ≤ 17592186044416 := by
  rcases h with rfl | ⟨el, sp, rfl, he⟩
  · simp
  · have := sized_slice hsz ht hd Tryz.underlying23
    have e2 : reachBytes ≤ 140737488355328 := by decide
    rw [bytesI1] at this
    omega
end
end
end
section
open Go.ChangeShapes Go.WideShapes Go.ChangeAt Go.RowKit Go.Deep
theorem cellsY1 : Tryz.prog.cellsOf 5 = 1 := by kernel_rfl
theorem u8s_of {H : Type} {enc : TypeId × Value → H} {W : World} {a0 : Option Addr} {len cap : Nat} {d : DataW H} {p : List MemPlace} (h : DataW.Trod enc Tryz.prog W 0 (fun _ => true) true 50 (.slice a0 len cap) d p) :
    ∃ l : List Int, len = l.length ∧ USl W a0 l := by
  obtain ⟨fuel, hf⟩ := h
  obtain ⟨b0, len2, cap2, hc, hcap, hlm, hel⟩ := open_sl 1 Tryz.underlying50 cellsY1 (by decide) (c := .slice a0 len cap) hf
  injection hc with q1 q2 q3
  subst q1 q2 q3
  obtain ⟨l, rfl, hl⟩ := pick_list (P := fun i (z : Int) => ∃ g o, a0 = some ⟨g, o, none⟩ ∧ W.cell? ⟨g, o + i, none⟩ = some (.int .u8 z) ∧ 0 ≤ z ∧ z ≤ 255) len (fun i hi => by
    obtain ⟨g, o, cs', f', y, rfl, h1, h2, h3⟩ := hel i hi
    match cs', h1 with
    | [u], _ =>
      obtain ⟨z, hz, _, hw⟩ := DataW.trod_int Tryz.underlying5 h3
      injection hz with hz
      subst hz
      exact ⟨z, g, o, rfl, by simpa using h2 0 (by simp), u8_wf hw⟩)
  exact ⟨l, rfl, hl⟩
end
end Go.Proofs.YtmgjpjjglghbaaaGreatDoor
