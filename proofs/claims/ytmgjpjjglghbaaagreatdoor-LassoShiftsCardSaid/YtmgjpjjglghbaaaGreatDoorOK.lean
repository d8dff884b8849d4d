/-
  not, other; walked. What the regions of the laws of two formulas read: the formulas' boxes, the word's.
-/
import Derived.Test.YtmgjpjjglghbaaaGreatDoorOI
import Derived.Test.YtmgjpjjglghbaaaGreatDoorOJ
import Derived.Deep.RegionHeld3
import Derived.Test.YtmgjpjjglghbaaaGreatDoorOH
import Derived.Test.YtmgjpjjglghbaaaGreatDoorJC
namespace Go.Proofs.YtmgjpjjglghbaaaGreatDoor
section
open Go.RowKit Go.Sort Go.Maps

/-- A formula that a call has made, in blocks of which something holds. -/
def FMkS (S : Nat → Prop) (x : Fo) (w : World) (e : Ending) (w' : World) : Prop := ∃ v : FV, e = .returned (.agg #[.string v.o, .string v.nm, .slice v.A v.ll v.cap, .int .i64 v.p]) ∧ FS w' 27 S x v.c ∧ Below w.heap.size w w'
theorem one_anyS {op : ByteArray} {x : Fo} {v : FV} {S : Nat → Prop} (w : World) (hS : ∀ j, w.heap.size ≤ j → S j) (hx : FS w 27 S x v.c) : Calls Tryz.prog 27 #[.string op, .agg #[.string v.o, .string v.nm, .slice v.A v.ll v.cap, .int .i64 v.p]] w (FMkS S (fUn op.data.toList x) w) := by
  have HX := Lib.hid hx
  have HS := Lib.hid hS
  clear hx hS
  go_enter Tryz.func27, Tryz.ntmps27
  go_wp2
  have hz : ((w.alloc (.cells v.c.toArray 27)).alloc (.cells #[.string op, .string ⟨#[]⟩, .slice (some ⟨w.heap.size + 1 + 1, 0, none⟩) 1 1, .int .i64 0] 27)).heap.size = w.heap.size + 1 + 1 := by simp
  have hz1 : (w.alloc (.cells v.c.toArray 27)).heap.size = w.heap.size + 1 := by simp
  have hbx := Bx.new ((w.alloc (.cells v.c.toArray 27)).alloc (.cells #[.string op, .string ⟨#[]⟩, .slice (some ⟨w.heap.size + 1 + 1, 0, none⟩) 1 1, .int .i64 0] 27)) 27 (v.c)
  rw [hz] at hbx
  have hbr := (Bx.new (w.alloc (.cells v.c.toArray 27)) 27 [.string op, .string ⟨#[]⟩, .slice (some ⟨w.heap.size + 1 + 1, 0, none⟩) 1 1, .int .i64 0]).below (below_alloc _ (.cells (v.c).toArray 27))
  rw [hz1] at hbr
  have hbl : Below w.heap.size w (((w.alloc (.cells v.c.toArray 27)).alloc (.cells #[.string op, .string ⟨#[]⟩, .slice (some ⟨w.heap.size + 1 + 1, 0, none⟩) 1 1, .int .i64 0] 27)).alloc (.cells (v.c).toArray 27)) := below_t (below_t (below_alloc _ _) (below_alloc _ _)) (below_alloc _ _)
  have hfs : FS (((w.alloc (.cells v.c.toArray 27)).alloc (.cells #[.string op, .string ⟨#[]⟩, .slice (some ⟨w.heap.size + 1 + 1, 0, none⟩) 1 1, .int .i64 0] 27)).alloc (.cells (v.c).toArray 27)) 27 S (fUn op.data.toList x) [.string op, .string ⟨#[]⟩, .slice (some ⟨w.heap.size + 1 + 1, 0, none⟩) 1 1, .int .i64 0] :=
    ⟨_, 1, v.c, rfl, ⟨HS.out _ (by omega), _, hbx, fun j u hu => by simpa using hu⟩, HX.out.below hbl⟩
  obtain ⟨y0, y1, y2, y3⟩ := hbr.cells4
  clear hz hz1 hbx hbr
  refine bodyPost_ret (v := .agg #[.string op, .string ⟨#[]⟩, .slice (some ⟨w.heap.size + 1 + 1, 0, none⟩) 1 1, .int .i64 0]) (by simp [results, Tryz.results27, go_sem]) rfl ⟨⟨op, ⟨#[]⟩, some ⟨w.heap.size + 1 + 1, 0, none⟩, 1, 1, 0⟩, rfl, hfs, hbl⟩
theorem not_any {x : Fo} {v : FV} (w : World) (hx : FS w 27 TT x v.c) : Calls Tryz.prog 26 #[.agg #[.string v.o, .string v.nm, .slice v.A v.ll v.cap, .int .i64 v.p]] w (FMk (fUn [33] x) w) := by
  have hb0 : Below w.heap.size w ((w.alloc (.cells #[.string v.o, .string v.nm, .slice v.A v.ll v.cap, .int .i64 v.p] 27)).alloc (.cells #[.string ⟨#[]⟩, .string ⟨#[]⟩, .slice none 0 0, .int .i64 0] 27)) := below_t (below_alloc _ _) (below_alloc _ _)
  have hx1 : FS w 27 (fun j => j ≠ w.heap.size + 1) x v.c := FS.wide (fun k hk _ => by omega) hx
  have H1 := Lib.hid (one_anyS (op := ⟨#[33]⟩) (S := fun j => j ≠ w.heap.size + 1) ((w.alloc (.cells #[.string v.o, .string v.nm, .slice v.A v.ll v.cap, .int .i64 v.p] 27)).alloc (.cells #[.string ⟨#[]⟩, .string ⟨#[]⟩, .slice none 0 0, .int .i64 0] 27)) (fun j hj => by simp at hj; omega) (hx1.below hb0))
  have hz : (w.alloc (.cells #[.string v.o, .string v.nm, .slice v.A v.ll v.cap, .int .i64 v.p] 27)).heap.size = w.heap.size + 1 := by simp
  have HBX := Lib.hid (show Bx ((w.alloc (.cells #[.string v.o, .string v.nm, .slice v.A v.ll v.cap, .int .i64 v.p] 27)).alloc (.cells #[.string ⟨#[]⟩, .string ⟨#[]⟩, .slice none 0 0, .int .i64 0] 27)) (w.heap.size + 1) 27 [.string ⟨#[]⟩, .string ⟨#[]⟩, .slice none 0 0, .int .i64 0] by
    have h := Bx.new (w.alloc (.cells #[.string v.o, .string v.nm, .slice v.A v.ll v.cap, .int .i64 v.p] 27)) 27 [.string ⟨#[]⟩, .string ⟨#[]⟩, .slice none 0 0, .int .i64 0]
    rw [hz] at h
    exact h)
  have HB0 := Lib.hid hb0
  clear hb0 hx hx1 hz
  go_enter Tryz.func26, Tryz.ntmps26
  go_wp2_with fail
  refine (H1.out).mono ?_
  rintro e w1 ⟨⟨o, nm, A, ll, cap, p⟩, rfl, hfs, hb1⟩
  have hbx := HBX.out.below hb1
  obtain ⟨f0, f1, f2, f3⟩ := hbx.frozen4
  obtain ⟨z0, z1, z2, z3⟩ := hbx.cells4
  have hl := hbx.lt
  obtain ⟨y0, y1, y2, y3⟩ := (Bx.set4 (x0 := .string o) (x1 := .string nm) (x2 := .slice A ll cap) (x3 := .int .i64 p) hbx).cells4
  have HFS := Lib.hid (show FS ((((w1.setCell ⟨w.heap.size + 1, 0, none⟩ (.string o)).setCell ⟨w.heap.size + 1, 1, none⟩ (.string nm)).setCell ⟨w.heap.size + 1, 2, none⟩ (.slice A ll cap)).setCell ⟨w.heap.size + 1, 3, none⟩ (.int .i64 p)) 27 TT (fUn [33] x) (FV.c ⟨o, nm, A, ll, cap, p⟩) from
    FS.wide (fun _ _ _ => trivial) (FS.setL (q := w.heap.size + 1) (i := 0) (us := [.string o, .string nm, .slice A ll cap, .int .i64 p]) hfs (by simp)))
  have HBB := Lib.hid (below_set4 (x0 := .string o) (x1 := .string nm) (x2 := .slice A ll cap) (x3 := .int .i64 p) (below_t HB0.out hb1) (q := w.heap.size + 1) (Nat.le_succ _))
  clear hfs hb1 hbx
  go_wp2
  refine bodyPost_ret (v := .agg #[.string o, .string nm, .slice A ll cap, .int .i64 p]) (by simp [results, Tryz.results26, go_sem, y0, y1, y2, y3]) rfl ⟨⟨o, nm, A, ll, cap, p⟩, rfl, HFS.out, HBB.out⟩
def OthP (x : Fo) (w : World) (e : Ending) (w' : World) : Prop := e = .returned (.bool (!(hdO NMS x))) ∧ Below w.heap.size w w'
theorem wR_nms {s l : List Int} (h0 : l ≠ []) (h1 : s.length + l.length ≤ 64) (h2 : ∀ x ∈ s, 0 ≤ x ∧ x < 8) (h3 : ∀ x ∈ l, 0 ≤ x ∧ x < 8) : wR NMS s l := by
  refine ⟨by decide, by decide, h0, h1, fun c hc => ?_, fun c hc => ?_⟩
  · have := h2 c hc
    exact ⟨this.1, this.2⟩
  · have := h3 c hc
    exact ⟨this.1, this.2⟩
set_option maxHeartbeats 4000000 in
set_option maxRecDepth 100000 in
theorem other_any {x : Fo} {v : FV} (w : World) (hx : FS w 27 TT x v.c) (ho : OkF x) (hz : x.size ≤ 4096) : Calls Tryz.prog 28 #[.agg #[.string v.o, .string v.nm, .slice v.A v.ll v.cap, .int .i64 v.p]] w (OthP x w) := by
  have HX := Lib.hid hx
  have HO := Lib.hid ho
  have HZ := Lib.hid hz
  have hr : wR NMS [] [0] := by decide
  have HE := Lib.hid (show tuE NMS [] [0] x = if hdO NMS x = true then .nilIface else .iface 78 (.int .i64 30) by rw [tuE, if_pos hr])
  have HBX := Lib.hid (show ∀ W, Below (w.alloc (.cells #[.string v.o, .string v.nm, .slice v.A v.ll v.cap, .int .i64 v.p] 27)).heap.size (w.alloc (.cells #[.string v.o, .string v.nm, .slice v.A v.ll v.cap, .int .i64 v.p] 27)) W → (W.cell? ⟨w.heap.size, 0, none⟩ = some (.string v.o) ∧ W.cell? ⟨w.heap.size, 1, none⟩ = some (.string v.nm) ∧ W.cell? ⟨w.heap.size, 2, none⟩ = some (.slice v.A v.ll v.cap) ∧ W.cell? ⟨w.heap.size, 3, none⟩ = some (.int .i64 v.p)) ∧ FS W 27 TT x v.c ∧ Below w.heap.size w W from fun W hW => by
    have h := (Bx.new w 27 [.string v.o, .string v.nm, .slice v.A v.ll v.cap, .int .i64 v.p]).below hW
    have hb := below_t (below_alloc w (.cells #[.string v.o, .string v.nm, .slice v.A v.ll v.cap, .int .i64 v.p] 27)) hW
    exact ⟨h.cells4, hx.below hb, hb⟩)
  have HN0 := Lib.hid (show ∀ W : World, ISl (W.alloc (.cells #[.int .i64 0] 3)) (some ⟨W.heap.size, 0, none⟩) [0] from fun W => isl_bx (t := 3) (Bx.new W 3 (([0] : List Int).map iv)))
  have HN1A := Lib.hid (show ISl ((w.alloc (.cells #[.string v.o, .string v.nm, .slice v.A v.ll v.cap, .int .i64 v.p] 27)).alloc (.cells #[.int .i64 0] 3)) (some ⟨w.heap.size + 1, 0, none⟩) [0] by
    have h := HN0.out (w.alloc (.cells #[.string v.o, .string v.nm, .slice v.A v.ll v.cap, .int .i64 v.p] 27))
    rw [show (w.alloc (.cells #[.string v.o, .string v.nm, .slice v.A v.ll v.cap, .int .i64 v.p] 27)).heap.size = w.heap.size + 1 by simp] at h
    exact h)
  have HLB := Lib.hid (show ∀ W, Below (w.alloc (.cells #[.string v.o, .string v.nm, .slice v.A v.ll v.cap, .int .i64 v.p] 27)).heap.size (w.alloc (.cells #[.string v.o, .string v.nm, .slice v.A v.ll v.cap, .int .i64 v.p] 27)) W → ∀ (N B : Option Addr), SSl W N NMS → ISl W B [0] → Calls Tryz.prog 20 #[.agg #[.string v.o, .string v.nm, .slice v.A v.ll v.cap, .int .i64 v.p], .slice N 3 3, .agg #[.slice none 0 0, .slice B 1 1]] W (HoP NMS [] [0] x W) from fun W hW N B hN hB =>
    holds_any (nms := NMS) (s := []) (l := [0]) (nc := 3) (sc := 0) (lc := 1) (v := v) W hN ⟨isl_nil, hB⟩ ⟨Nat.le_refl _, fun _ => rfl⟩ ⟨Nat.le_refl _, fun h => by
      have := hB 0 (by simp)
      obtain ⟨g, o, e, _⟩ := this
      rw [e] at h; cases h⟩ (by decide) (by decide) (by decide) (HBX.out W hW).2.1 ho hz)
  have lk : Below (w.alloc (.cells #[.string v.o, .string v.nm, .slice v.A v.ll v.cap, .int .i64 v.p] 27)).heap.size (w.alloc (.cells #[.string v.o, .string v.nm, .slice v.A v.ll v.cap, .int .i64 v.p] 27)) (w.alloc (.cells #[.string v.o, .string v.nm, .slice v.A v.ll v.cap, .int .i64 v.p] 27)).drew := (Below.refl _ _).drew
  clear hx ho hz hr
  go_enter Tryz.func28, Tryz.ntmps28
  go_wp2_with fail
  go_region_held3 (fun w' : World => w'.cell? ⟨w.heap.size, 0, none⟩ = some (.string v.o) ∧ w'.cell? ⟨w.heap.size, 1, none⟩ = some (.string v.nm) ∧ w'.cell? ⟨w.heap.size, 2, none⟩ = some (.slice v.A v.ll v.cap) ∧ w'.cell? ⟨w.heap.size, 3, none⟩ = some (.int .i64 v.p)) (first | exact (HBX.out _ lk).1 | exact (HBX.out _ (below_t lk (below_alloc _ _))).1) ((first
    | (go_at_call 22
       with_reducible refine (names_any ((w.alloc (.cells #[.string v.o, .string v.nm, .slice v.A v.ll v.cap, .int .i64 v.p] 27)).drew)).mono ?_
       rintro e wA ⟨q, rfl, hN, hbA⟩
       replace lk := below_t lk hbA
       have HN1 := Lib.hid hN
       clear hN hbA)
    | (go_at_call 22
       with_reducible refine (names_any ((w.alloc (.cells #[.string v.o, .string v.nm, .slice v.A v.ll v.cap, .int .i64 v.p] 27)).alloc (.cells #[.int .i64 0] 3)).drew).mono ?_
       rintro e wA ⟨q, rfl, hN, hbA⟩
       have HI1 := Lib.hid (show ISl wA (some ⟨w.heap.size + 1, 0, none⟩) [0] from ISl.below (ISl.below (HN1A.out) (Below.refl _ _).drew) hbA)
       replace lk := below_t (below_alloc _ _).drew hbA
       have HN1 := Lib.hid hN
       clear hN hbA)
    | (go_at_call 20
       with_reducible refine (HLB.out _ lk _ _ HN1.out HI1.out).mono ?_
       rintro e wB ⟨rfl, hbB⟩
       replace lk := below_t lk hbB
       clear hbB)
    | (go_at_call 20
       with_reducible refine (HLB.out (wA.alloc (.cells #[.int .i64 0] 3)) (below_t lk (below_alloc _ _)) _ _ (HN1.out.below (below_alloc _ _)) (HN0.out _)).mono ?_
       rintro e wB ⟨rfl, hbB⟩
       replace lk := below_t (below_t lk (below_alloc _ _)) hbB
       clear hbB)))
  all_goals
    rw [HE.out]
    have HL := Lib.hid (HBX.out _ lk).2.2
    obtain ⟨b, hb⟩ : ∃ b, b = hdO NMS x := ⟨_, rfl⟩
    have HB := Lib.hid hb
    rw [← hb]
    clear hb
    cases b
    all_goals
      go_wp2
      go_ret
      exact ⟨by rw [← HB.out]; rfl, HL.out⟩
end
section
open Go.RowKit Go.Sort Go.Maps

theorem PFQ.low {res : FP} {w w' : World} {e : Ending} (h : PFQ res w e w') : ∃ (v : FV) (err : Value), e = .returned (.tuple #[.agg #[.string v.o, .string v.nm, .slice v.A v.ll v.cap, .int .i64 v.p], err]) ∧ Below w.heap.size w w' := by
  cases res with
  | ok f => obtain ⟨v, h1, _, h3⟩ := h; exact ⟨v, _, h1, h3⟩
  | er c p => obtain ⟨b, h1, _, h3⟩ := h; exact ⟨⟨⟨#[]⟩, ⟨#[]⟩, none, 0, 0, 0⟩, _, h1, h3⟩
theorem PFQ.yes {f : Fo} {w w' : World} {e : Ending} (h : PFQ (.ok f) w e w') : ∃ v : FV, e = .returned (.tuple #[.agg #[.string v.o, .string v.nm, .slice v.A v.ll v.cap, .int .i64 v.p], .nilIface]) ∧ FS w' 27 TT f v.c ∧ Below w.heap.size w w' := by
  obtain ⟨v, h1, h2, h3⟩ := h
  exact ⟨v, h1, FS.wide (fun _ _ _ => trivial) h2, h3⟩
theorem shL_mem {s l : List Int} {x : Int} (h : x ∈ shL s l) : x ∈ l := by
  unfold shL at h
  split at h
  · rcases List.mem_append.1 h with h | h
    · exact List.mem_of_mem_tail h
    · exact List.mem_of_mem_take h
  · exact h
theorem PFQ.no {c p : Nat} {w w' : World} {e : Ending} (h : PFQ (.er c p) w e w') : ∃ b, e = .returned (.tuple #[.agg #[.string ⟨#[]⟩, .string ⟨#[]⟩, .slice none 0 0, .int .i64 0], .iface 190 (.pointer (some ⟨b, 0, none⟩))]) ∧ Below w.heap.size w w' := by
  obtain ⟨b, h1, _, h3⟩ := h
  exact ⟨b, h1, h3⟩
structure FB (W : World) (q : Nat) (x : Fo) (v : FV) : Prop where
  bx : Bx W q 27 [.string v.o, .string v.nm, .slice v.A v.ll v.cap, .int .i64 v.p]
  fs : FS W 27 TT x v.c
theorem FB.below {w w' : World} {q : Nat} {x : Fo} {v : FV} (h : FB w q x v) (hb : Below w.heap.size w w') : FB w' q x v := ⟨h.bx.below hb, h.fs.below hb⟩
theorem FB.new {w : World} {x : Fo} {v : FV} (h : FS w 27 TT x v.c) : FB (w.alloc (.cells #[.string v.o, .string v.nm, .slice v.A v.ll v.cap, .int .i64 v.p] 27)) w.heap.size x v := ⟨Bx.new w 27 [.string v.o, .string v.nm, .slice v.A v.ll v.cap, .int .i64 v.p], h.alloc _⟩
structure WB (W : World) (q : Nat) (A : Option Addr) (n sc : Nat) (B : Option Addr) (m lc : Nat) (s l : List Int) : Prop where
  bx : Bx W q 42 [.slice A n sc, .slice B m lc]
  wm : WM W A B s l
  hn : s.length = n
  hm : l.length = m
  c1 : CapOk A n sc
  c2 : CapOk B m lc
  n6 : n ≤ 1000
  m6 : m ≤ 1000
theorem WB.below {w w' : World} {q : Nat} {A : Option Addr} {n sc : Nat} {B : Option Addr} {m lc : Nat} {s l : List Int} (h : WB w q A n sc B m lc s l) (hb : Below w.heap.size w w') : WB w' q A n sc B m lc s l := ⟨h.bx.below hb, h.wm.below hb, h.hn, h.hm, h.c1, h.c2, h.n6, h.m6⟩
/-- Two formulas and a word, behind a world. -/
structure LEV (w : World) (f g : Fo) (vf vg : FV) (qf qg q : Nat) (A : Option Addr) (n sc : Nat) (B : Option Addr) (m lc : Nat) (s l : List Int) (W : World) : Prop where
  f : FB W qf f vf
  g : FB W qg g vg
  k : WB W q A n sc B m lc s l
  low : Below w.heap.size w W
section
variable {w W W' : World} {f g : Fo} {vf vg : FV} {qf qg q : Nat} {A : Option Addr} {n sc : Nat} {B : Option Addr} {m lc : Nat} {s l : List Int}
theorem LEV.below (h : LEV w f g vf vg qf qg q A n sc B m lc s l W) (hb : Below W.heap.size W W') : LEV w f g vf vg qf qg q A n sc B m lc s l W' := ⟨h.f.below hb, h.g.below hb, h.k.below hb, below_t h.low hb⟩
theorem LEV.drew (h : LEV w f g vf vg qf qg q A n sc B m lc s l W) : LEV w f g vf vg qf qg q A n sc B m lc s l W.drew := h.below (Below.refl _ _).drew
theorem LEV.S (h : LEV w f g vf vg qf qg q A n sc B m lc s l W) : W.cell? ⟨qf, 0, none⟩ = some (.string vf.o) ∧ W.cell? ⟨qf, 1, none⟩ = some (.string vf.nm) ∧ W.cell? ⟨qf, 2, none⟩ = some (.slice vf.A vf.ll vf.cap) ∧ W.cell? ⟨qf, 3, none⟩ = some (.int .i64 vf.p) ∧
    W.cell? ⟨qg, 0, none⟩ = some (.string vg.o) ∧ W.cell? ⟨qg, 1, none⟩ = some (.string vg.nm) ∧ W.cell? ⟨qg, 2, none⟩ = some (.slice vg.A vg.ll vg.cap) ∧ W.cell? ⟨qg, 3, none⟩ = some (.int .i64 vg.p) ∧ W.cell? ⟨q, 0, none⟩ = some (.slice A n sc) ∧ W.cell? ⟨q, 1, none⟩ = some (.slice B m lc) :=
  ⟨h.f.bx.cell 0, h.f.bx.cell 1, h.f.bx.cell 2, h.f.bx.cell 3, h.g.bx.cell 0, h.g.bx.cell 1, h.g.bx.cell 2, h.g.bx.cell 3, h.k.bx.cell 0, h.k.bx.cell 1⟩
/-- What Holds tells, by a letter. -/
def HvP (u : Bool) (w : World) (e : Ending) (w' : World) : Prop := e = .returned (.tuple #[.bool u, .nilIface]) ∧ Below w.heap.size w w'
theorem WB.holds {x : Fo} {v : FV} {N : Option Addr} {nc : Nat} {u : Bool} {S : Nat → Prop} (h : WB W q A n sc B m lc s l) (hN : SSl W N NMS) (hx : FS W 27 S x v.c) (ho : OkF x) (hz : x.size ≤ 4096) (hr : wR NMS s l) (hd : hdO NMS x = true) (hu : u = hv NMS (wl s l) x) :
    Calls Tryz.prog 20 #[.agg #[.string v.o, .string v.nm, .slice v.A v.ll v.cap, .int .i64 v.p], .slice N 3 nc, .agg #[.slice A n sc, .slice B m lc]] W (HvP u W) := by
  obtain ⟨_, wm, rfl, rfl, c1, c2, n6, m6⟩ := h
  refine (holds_any (nms := NMS) (nc := nc) (v := v) W hN wm c1 c2 (by decide) (by omega) (by omega) hx ho hz).mono ?_
  rintro e w1 ⟨rfl, hb⟩
  refine ⟨?_, hb⟩
  rw [tu_nil hr hd, hu]
  have : hoV NMS s l x = hv NMS (wl s l) x := by
    rw [Bool.eq_iff_iff]
    unfold hoV
    rw [@decide_eq_true_iff _ (Classical.propDecidable _)]
    exact ⟨fun h => h.2, fun h => ⟨hr, h⟩⟩
  rw [this]
end
end
end Go.Proofs.YtmgjpjjglghbaaaGreatDoor
