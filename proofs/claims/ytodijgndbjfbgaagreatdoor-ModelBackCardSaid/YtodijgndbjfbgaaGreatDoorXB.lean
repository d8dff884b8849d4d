/-
  A kid, told in parentheses or not: walked.
-/
import Derived.Test.YtodijgndbjfbgaaGreatDoorXA
import Derived.Deep.RegionLaw
import Derived.RegionTactic
import Derived.BigRegion
namespace Go.Proofs.YtodijgndbjfbgaaGreatDoor
open Go.RowKit Go.Sort

theorem HS.keepT {w w' : World} {e : TypeId} {S : Nat → Prop} (hk : ∀ (k : Nat) (cs : Array Value), w.heap[k]? = some (.cells cs e (0, 0)) → w'.heap[k]? = some (.cells cs e (0, 0))) : ∀ {x : Ex} {c : List Value}, HS w e S x c → HS w' e S x c
  | .leaf _ _ _ _, _, h => h
  | .un _ _ _, _, ⟨g, cap, ca, h1, ⟨a1, cs, a2, a3⟩, h3⟩ => ⟨g, cap, ca, h1, ⟨a1, cs, hk _ _ a2, a3⟩, HS.keepT hk h3⟩
  | .bin _ _ _ _, _, ⟨g, cap, ca, cb, h1, ⟨a1, cs, a2, a3⟩, h3, h4⟩ => ⟨g, cap, ca, cb, h1, ⟨a1, cs, hk _ _ a2, a3⟩, HS.keepT hk h3, HS.keepT hk h4⟩
  | .cond _ _ _ _, _, ⟨g, cap, ca, cb, cd, h1, ⟨a1, cs, a2, a3⟩, h3, h4, h5⟩ => ⟨g, cap, ca, cb, cd, h1, ⟨a1, cs, hk _ _ a2, a3⟩, HS.keepT hk h3, HS.keepT hk h4, HS.keepT hk h5⟩
theorem HS.text {B : Nat} {w w1 : World} {v : Value} {l : List UInt8} {S : Nat → Prop} {x : Ex} {c : List Value} (h : HS w 57 S x c) (ht : Txt B w v l) (hg : w.grownBy w1 v.ownBlock) : HS w1 57 S x c :=
  h.keepT fun k cs hk => ht.keep hg hk (by decide)
theorem Box.text {B b : Nat} {w w1 : World} {v c0 c1 c2 c3 c4 : Value} {l : List UInt8} (h : Box w b c0 c1 c2 c3 c4) (ht : Txt B w v l) (hg : w.grownBy w1 v.ownBlock) : Box w1 b c0 c1 c2 c3 c4 := ht.keep hg h (by decide)
theorem tabs_text {B : Nat} {w w1 : World} {v : Value} {l : List UInt8} (hT : Lib.TabBelow Tryz.prog B w "internal/strconv.uint64pow10" .u64 Lib.pow10Tab) (ht : Txt B w v l) (hg : w.grownBy w1 v.ownBlock) : Lib.TabBelow Tryz.prog B w1 "internal/strconv.uint64pow10" .u64 Lib.pow10Tab := hT.on (ht.bel hg)
/-- The table of powers, which no text touches. -/
def Tab (B : Nat) (w : World) : Prop := Lib.TabBelow Tryz.prog B w "internal/strconv.uint64pow10" .u64 Lib.pow10Tab
theorem Tab.now {B : Nat} {w : World} (h : Tab B w) : Tabs w := h.here
theorem Tab.text {B : Nat} {w w1 : World} {v : Value} {l : List UInt8} (h : Tab B w) (ht : Txt B w v l) (hg : w.grownBy w1 v.ownBlock) : Tab B w1 := tabs_text h ht hg
theorem Tab.below {B : Nat} {w w1 : World} (h : Tab B w) (hB : B ≤ w.heap.size) (hb : Below w.heap.size w w1) : Tab B w1 := Lib.TabBelow.on h (hb.mono hB)
theorem HS.opn {w : World} {e : TypeId} {S : Nat → Prop} {x : Ex} {o nm : ByteArray} {n : Int} {A : Option Addr} {l cap : Nat} {p : Int} (h : HS w e S x (exC o nm n A l cap p)) : o = ⟨x.op.toArray⟩ := by
  obtain ⟨_, _, _, _, _, h1⟩ := h.form
  simp only [exC, List.cons.injEq, Value.string.injEq] at h1
  exact h1.1
theorem Txt.alloc {B : Nat} {w : World} {v : Value} {l : List UInt8} (h : Txt B w v l) (o : Obj) : Txt B (w.alloc o) v l := h.below ((Below.refl _ _).alloc (Nat.le_refl _) _)
/-- What tell tells of an expression. -/
def TC (x : Ex) : Prop := ∀ (B : Nat) (w : World) (v : Value) (l : List UInt8) (S : Nat → Prop) (c : List Value), Txt B w v l → HS w 57 S x c → Tab B w → l.length + (shw x).length ≤ 1000000 → Calls Tryz.prog 117 #[v, .agg c.toArray] w (TellP B l (shw x) w v)

set_option maxHeartbeats 1000000 in
theorem kid_plain {x : Ex} (ih : TC x) {B : Nat} {w : World} {v : Value} {l : List UInt8} {S : Nat → Prop} {o nm : ByteArray} {n p : Int} {A : Option Addr} {ll cap : Nat} (ht : Txt B w v l) (hH : HS w 57 S x (exC o nm n A ll cap p)) (hT : Tab B w) (hl : l.length + (shw x).length ≤ 1000000) (r : Nat) (hr : r ≤ rk x.op) :
    Calls Tryz.prog 137 #[v, .agg #[.string o, .string nm, .int .i64 n, .slice A ll cap, .int .i64 p], .int .i64 (r : Int)] w (TellP B l (shw x) w v) := by
  have ho : o.data.toList = x.op := by rw [hH.opn]
  have H1 := Lib.hid (rankof_any o)
  unfold RkP at H1
  rw [ho] at H1
  have hba : Below w.heap.size w (w.alloc (.cells #[.string o, .string nm, .int .i64 n, .slice A ll cap, .int .i64 p] 57)) := (Below.refl _ _).alloc (Nat.le_refl _) _
  have H2 := Lib.hid (ih B _ v l S _ (ht.below hba) (hH.below hba) (hT.below ht.low hba) hl)
  have HBA := Lib.hid hba
  have g1 : decide ((r : Int) ≤ (rk x.op : Int)) = true := by simp; omega
  have g2 : decide (r ≤ rk x.op) = true := by simpa using hr
  clear ih ht hH hT hl hr ho hba
  go_enter Tryz.func137, Tryz.ntmps137
  go_wp2_with fail
  with_reducible refine (H1.out _).mono ?_
  rintro e w' ⟨rfl, rfl⟩
  go_wp2_with fail
  refine (H2.out).mono ?_
  rintro e w1 ⟨v', rfl, h1, h2, h3⟩
  have H3 := Lib.hid h1
  have H4 := Lib.hid h2
  have H5 := Lib.hid h3
  clear h1 h2 h3
  go_wp2
  go_ret
  exact ⟨v', rfl, H3.out, grow_trans (v1 := v) (grow_below HBA.out _) (Lies.refl _ _) H4.out, (Lies.refl w v).trans HBA.out.size H5.out⟩
theorem one_new {W : World} {g : Nat} {u : Value} {e : TypeId} (h : W.heap[g]? = some (.cells #[u] e (0, 0))) : ∀ (j : Nat) (x : Value), [u][j]? = some x → W.cell? ((⟨g, 0, none⟩ : Addr).add j) = some x := by
  intro j x hj
  match j, hj with
  | 0, hj => simp at hj; subst hj; simpa [Addr.add] using (rd_cell h 0).trans rfl
/-- A byte appended, at a step of a region that draws its order. -/
theorem step_byte {ops : Array Oper} {o : Oper} {a : Act} {K : Act → World → Prop} {Q : Exit → Act → World → Prop} {E : Prop} (W : World) (hgd : o.guard = none) (s x : Operand)
    (ho : o.op = .call { callee := .builtin .append, args := #[s, x], argTypes := #[150, 150] }) {B : Nat} {v : Value} {l : List UInt8} (hs : a.eval s = v) (ht : Txt B W v l) (g : Nat) (hx : a.eval x = .slice (some ⟨g, 0, none⟩) 1 1) (c : UInt8)
    (hg : W.heap[g]? = some (.cells #[.int .u8 (c.toNat : Int)] 5 (0, 0))) (hl : l.length + 1 ≤ 1000000000)
    (k : ∀ g1 cap1 w', Txt B w' (.slice (some ⟨g1, 0, none⟩) (l.length + 1) cap1) (l ++ [c]) → W.grownBy w' v.ownBlock → (v.ownBlock = some g1 ∨ g1 = W.heap.size) → K (a.put o.dst (.slice (some ⟨g1, 0, none⟩) (l.length + 1) cap1)) w') :
    if Region.wanted o (yielded ops a.tmps) = true then Oper.wp Tryz.prog o a W K Q else E := by
  obtain ⟨i0, hi0, hz⟩ := Option.map_eq_some_iff.1 infoB
  simp only [Prod.mk.injEq] at hz
  obtain ⟨hz0, hz1, hz2⟩ := hz
  refine step_append_lies W hgd s x 150 ho B 5 i0 (.int .u8 0) 1 1 Tryz.underlying150 hi0 hz0 hz1 hz2 rfl (by decide) v l.length (Lib.byteCells l) hs ht.own ⟨g, 0, none⟩ 1 1 [.int .u8 (c.toNat : Int)] hx rfl (one_new hg) (by intro u hu; simp at hu; subst hu; rfl) (by omega) (by unfold maxLen; omega) (by omega) ht.low W.heap.size rfl ?_
  intro g1 cap1 w1 ho1 hg1 hat hlt
  refine k g1 cap1 w1 ⟨?_, Nat.le_trans ht.low hg1.size⟩ hg1 hat
  have e2 : Lib.byteCells (l ++ [c]) = Lib.byteCells l ++ [.int .u8 (c.toNat : Int)] := by simp [Lib.byteCells]
  rw [e2, List.length_append]
  exact ho1
theorem heapN {w : World} {k : Nat} (hk : k = w.heap.size) (o : Obj) : (w.alloc o).heap[k]? = some o := by subst hk; exact heap_alloc_new w o
theorem slice_ne {k g n c : Nat} (h : k ≠ g) : some k ≠ (Value.slice (some ⟨g, 0, none⟩) n c).ownBlock := fun e => h (by simpa [Value.ownBlock] using e)
theorem heapA {w : World} {k : Nat} (hk : k = w.heap.size) (o : Obj) : (w.alloc o).drew.heap[k]? = some o := by subst hk; exact heap_alloc_new w o
theorem heapB {w : World} {k : Nat} (hk : k = w.heap.size) (o o2 : Obj) : ((w.alloc o).alloc o2).drew.heap[k]? = some o := by
  subst hk
  exact (Below.heap_alloc (w.alloc o) o2 _ (by simp)).trans (heap_alloc_new w o)
theorem Txt.drew {B : Nat} {w : World} {v : Value} {l : List UInt8} (h : Txt B w v l) : Txt B w.drew v l := h.below (Below.refl _ _).drew
theorem Box.drew {w : World} {b : Nat} {c0 c1 c2 c3 c4 : Value} (h : Box w b c0 c1 c2 c3 c4) : Box w.drew b c0 c1 c2 c3 c4 := h.below (Below.refl _ _).drew
theorem HS.drew {w : World} {e : TypeId} {S : Nat → Prop} {x : Ex} {c : List Value} (h : HS w e S x c) : HS w.drew e S x c := h.below (Below.refl _ _).drew
theorem Tab.allocT {B : Nat} {w : World} (h : Tab B w) (hB : B ≤ w.heap.size) (o : Obj) : Tab B (w.alloc o) := h.below hB ((Below.refl _ _).alloc (Nat.le_refl _) _)
theorem Tab.drew {B : Nat} {w : World} (h : Tab B w) : Tab B w.drew := Lib.TabBelow.on h (Below.refl _ _).drew
theorem lies_of {w W : World} {v : Value} {g n cap : Nat} (hz : w.heap.size ≤ W.heap.size) (h : v.ownBlock = some g ∨ g = W.heap.size) : Lies w v (.slice (some ⟨g, 0, none⟩) n cap) := by
  rcases h with h | h
  · exact .inl h.symm
  · exact .inr ⟨g, rfl, by omega⟩
theorem txt_lt {B : Nat} {w : World} {g n cap : Nat} {l : List UInt8} (h : Txt B w (.slice (some ⟨g, 0, none⟩) n cap) l) : g < w.heap.size := (h.own.lt g rfl).2
theorem own_ne {B : Nat} {w : World} {v : Value} {l : List UInt8} (h : Txt B w v l) {k : Nat} (hk : w.heap.size ≤ k) : some k ≠ v.ownBlock := by
  intro e
  have := (h.own.lt k e.symm).2
  omega
theorem kne {B : Nat} {w W : World} {v : Value} {l : List UInt8} (h : Txt B w v l) {k g : Nat} (hat : v.ownBlock = some g ∨ g = W.heap.size) (h1 : k < W.heap.size) (h2 : w.heap.size ≤ k) : k ≠ g := by
  rcases hat with hat | hat
  · have := (h.own.lt g hat).2
    omega
  · omega
theorem txt_len {B n : Nat} {w : World} {g cap : Nat} {l : List UInt8} (h : Txt B w (.slice (some ⟨g, 0, none⟩) n cap) l) {m : Nat} (hm : n = m) : Txt B w (.slice (some ⟨g, 0, none⟩) m cap) l := by subst hm; exact h
set_option maxHeartbeats 4000000 in
set_option maxRecDepth 100000 in
theorem kid_par {x : Ex} (ih : TC x) {B : Nat} {w : World} {v : Value} {l : List UInt8} {S : Nat → Prop} {o nm : ByteArray} {n p : Int} {A : Option Addr} {ll cap : Nat} (ht : Txt B w v l) (hH : HS w 57 S x (exC o nm n A ll cap p)) (hT : Tab B w) (hl : l.length + 1 + (shw x).length + 1 ≤ 1000000) (r : Nat) (hr : rk x.op < r) :
    Calls Tryz.prog 137 #[v, .agg #[.string o, .string nm, .int .i64 n, .slice A ll cap, .int .i64 p], .int .i64 (r : Int)] w (TellP B l (40 :: shw x ++ [41]) w v) := by
  obtain ⟨i0, hi0, hz⟩ := Option.map_eq_some_iff.1 infoB
  simp only [Prod.mk.injEq] at hz
  obtain ⟨hz0, hz1, hz2⟩ := hz
  have HI := Lib.hid hi0
  have HZ0 := Lib.hid hz0
  have HZ1 := Lib.hid hz1
  have HZ2 := Lib.hid hz2
  have ho : o.data.toList = x.op := by rw [hH.opn]
  have H1 := Lib.hid (rankof_any o)
  unfold RkP at H1
  rw [ho] at H1
  have hba : Below w.heap.size w (w.alloc (.cells #[.string o, .string nm, .int .i64 n, .slice A ll cap, .int .i64 p] 57)) := (Below.refl _ _).alloc (Nat.le_refl _) _
  have hB0 := Box.new w (.string o) (.string nm) (.int .i64 n) (.slice A ll cap) (.int .i64 p)
  have ht0 := ht.below hba
  have hH0 := hH.below hba
  have hT0 := hT.below ht.low hba
  have HBA := Lib.hid hba
  have HIH := Lib.hid ih
  have g1 : decide ((r : Int) ≤ (rk x.op : Int)) = false := by simp; omega
  have g2 : decide (r ≤ rk x.op) = false := by simp; omega
  clear ih ht hH hT hr ho hba hi0 hz0 hz1 hz2
  go_enter Tryz.func137, Tryz.ntmps137
  go_wp2_with fail
  with_reducible refine (H1.out _).mono ?_
  rintro e w' ⟨rfl, rfl⟩
  go_wp2_with fail
  generalize w.alloc (.cells #[.string o, .string nm, .int .i64 n, .slice A ll cap, .int .i64 p] 57) = W at *
  obtain ⟨b0, b1, b2, b3, b4⟩ := hB0.cells
  have hbz := hB0.lt
  have HB0 := Lib.hid hB0
  have HT0 := Lib.hid ht0
  have HH0 := Lib.hid hH0
  have HTB0 := Lib.hid hT0
  clear hB0 ht0 hH0 hT0
  go_region_law (first
    | (refine step_byte (B := B) (l := l) (v := v) _ rfl (.tmp 15) (.tmp 16) rfl ?_ ?_ (W.heap.size) ?_ 40 ?_ ?_ ?_
       · simp [Act.eval]
       · exact ((HT0.out).alloc _).drew
       · simp [Act.eval]
       · exact heapA rfl _
       · omega
       intro g1 cap1 w1 ht1 hg1 hat1
       obtain ⟨b0, b1, b2, b3, b4⟩ := (Box.text (((HB0.out).alloc _).drew) (((HT0.out).alloc _).drew) hg1).cells
       have HH1 := Lib.hid (HS.text (((HH0.out).alloc _).drew) (((HT0.out).alloc _).drew) hg1)
       have HTB1 := Lib.hid (Tab.text (((HTB0.out).allocT HT0.out.low _).drew) (((HT0.out).alloc _).drew) hg1)
       have HGA := Lib.hid (grow_trans (v1 := v) (grow_below ((HBA.out.alloc (Nat.le_of_lt hbz) _).drew) _) (Lies.refl _ _) hg1)
       have HLA := Lib.hid (show Lies w v (.slice (some ⟨g1, 0, none⟩) (l.length + 1) cap1) from lies_of ((HBA.out.alloc (Nat.le_of_lt hbz) _).drew).size hat1)
       have hz1 : w.heap.size < w1.heap.size := (Box.text (((HB0.out).alloc _).drew) (((HT0.out).alloc _).drew) hg1).lt
       have hg1l : g1 < w1.heap.size := txt_lt ht1
       have HT1 := Lib.hid ht1
       clear ht1 hg1 hat1)
    | (refine step_byte (B := B) (l := l) (v := v) _ rfl (.tmp 15) (.tmp 16) rfl ?_ ?_ (W.heap.size) ?_ 40 ?_ ?_ ?_
       · simp [Act.eval]
       · exact (((HT0.out).alloc _).alloc _).drew
       · simp [Act.eval]
       · exact heapB rfl (.cells #[.int .u8 40] 5) (.cells #[.int .u8 41] 5)
       · omega
       intro g1 cap1 w1 ht1 hg1 hat1
       obtain ⟨b0, b1, b2, b3, b4⟩ := (Box.text ((((HB0.out).alloc _).alloc _).drew) ((((HT0.out).alloc _).alloc _).drew) hg1).cells
       have HH1 := Lib.hid (HS.text ((((HH0.out).alloc _).alloc _).drew) ((((HT0.out).alloc _).alloc _).drew) hg1)
       have HTB1 := Lib.hid (Tab.text (((HTB0.out.allocT HT0.out.low _).allocT (by have := HT0.out.low; simp; omega) _).drew) ((((HT0.out).alloc _).alloc _).drew) hg1)
       have HGA := Lib.hid (grow_trans (v1 := v) (grow_below (((HBA.out.alloc (Nat.le_of_lt hbz) _).alloc (by simp; omega) _).drew) _) (Lies.refl _ _) hg1)
       have HLA := Lib.hid (show Lies w v (.slice (some ⟨g1, 0, none⟩) (l.length + 1) cap1) from lies_of (((HBA.out.alloc (Nat.le_of_lt hbz) _).alloc (by simp; omega) _).drew).size hat1)
       have hz1 : w.heap.size < w1.heap.size := (Box.text ((((HB0.out).alloc _).alloc _).drew) ((((HT0.out).alloc _).alloc _).drew) hg1).lt
       have hg1l : g1 < w1.heap.size := txt_lt ht1
       have H41 := Lib.hid (show w1.heap[W.heap.size + 1]? = some (.cells #[.int .u8 41] 5) from (hg1.block (W.heap.size + 1) (by first | (simp; done) | (simp; omega)) (own_ne HT0.out (by omega))).trans (heapA (by simp) _))
       have HNE := Lib.hid (show W.heap.size + 1 ≠ g1 from kne HT0.out hat1 (by first | (simp; done) | (simp; omega)) (by omega))
       have HT1 := Lib.hid ht1
       clear ht1 hg1 hat1)
    | (refine step_byte (B := B) (l := l) (v := v) _ rfl (.tmp 15) (.tmp 16) rfl ?_ ?_ (W.heap.size + 1) ?_ 40 ?_ ?_ ?_
       · simp [Act.eval]
       · exact (((HT0.out).alloc _).alloc _).drew
       · simp [Act.eval]
       · exact heapA (by simp) _
       · omega
       intro g1 cap1 w1 ht1 hg1 hat1
       obtain ⟨b0, b1, b2, b3, b4⟩ := (Box.text ((((HB0.out).alloc _).alloc _).drew) ((((HT0.out).alloc _).alloc _).drew) hg1).cells
       have HH1 := Lib.hid (HS.text ((((HH0.out).alloc _).alloc _).drew) ((((HT0.out).alloc _).alloc _).drew) hg1)
       have HTB1 := Lib.hid (Tab.text (((HTB0.out.allocT HT0.out.low _).allocT (by have := HT0.out.low; simp; omega) _).drew) ((((HT0.out).alloc _).alloc _).drew) hg1)
       have HGA := Lib.hid (grow_trans (v1 := v) (grow_below (((HBA.out.alloc (Nat.le_of_lt hbz) _).alloc (by simp; omega) _).drew) _) (Lies.refl _ _) hg1)
       have HLA := Lib.hid (show Lies w v (.slice (some ⟨g1, 0, none⟩) (l.length + 1) cap1) from lies_of (((HBA.out.alloc (Nat.le_of_lt hbz) _).alloc (by simp; omega) _).drew).size hat1)
       have hz1 : w.heap.size < w1.heap.size := (Box.text ((((HB0.out).alloc _).alloc _).drew) ((((HT0.out).alloc _).alloc _).drew) hg1).lt
       have hg1l : g1 < w1.heap.size := txt_lt ht1
       have H41 := Lib.hid (show w1.heap[W.heap.size]? = some (.cells #[.int .u8 41] 5) from (hg1.block (W.heap.size) (by first | (simp; done) | (simp; omega)) (own_ne HT0.out (by omega))).trans (heapB rfl (.cells #[.int .u8 41] 5) (.cells #[.int .u8 40] 5)))
       have HNE := Lib.hid (show W.heap.size ≠ g1 from kne HT0.out hat1 (by first | (simp; done) | (simp; omega)) (by omega))
       have HT1 := Lib.hid ht1
       clear ht1 hg1 hat1)
    | (go_simp
       go_at_call 117
       refine (HIH.out B w1 _ _ _ (exC o nm n A ll cap p) HT1.out HH1.out HTB1.out (by simp; omega)).mono ?_
       rintro e w2 ⟨v2, rfl, ht2, hg2, hl2⟩
       have HT2 := Lib.hid ht2
       have HGB := Lib.hid (grow_trans HGA.out HLA.out hg2)
       have HLB := Lib.hid (Lies.trans HLA.out HGA.out.size hl2)
       have hz2 : w.heap.size < w2.heap.size := by have := hg2.size; omega
       (try have H42 := Lib.hid ((hg2.block _ (blk_lt H41.out) (slice_ne HNE.out)).trans H41.out))
       clear ht2 hg2 hl2)
    | (go_simp
       go_at_call 117
       refine (HIH.out B (w1.alloc (.cells #[.int .u8 41] 5)) _ _ _ (exC o nm n A ll cap p) (HT1.out.alloc _) (HH1.out.alloc _) (HTB1.out.allocT HT1.out.low _) (by simp; omega)).mono ?_
       rintro e w2 ⟨v2, rfl, ht2, hg2, hl2⟩
       have HT2 := Lib.hid ht2
       have HG1' := Lib.hid (grow_trans HGA.out HLA.out (grow_below ((Below.refl _ _).alloc (Nat.le_refl _) (.cells #[.int .u8 41] 5)) _))
       have HGB := Lib.hid (grow_trans HG1'.out HLA.out hg2)
       have HLB := Lib.hid (Lies.trans HLA.out HG1'.out.size hl2)
       have hz2 : w.heap.size < w2.heap.size := by have := hg2.size; simp at this; omega
       have H42 := Lib.hid (show w2.heap[w1.heap.size]? = some (.cells #[.int .u8 41] 5) from (hg2.block w1.heap.size (by simp) (slice_ne (by omega))).trans (heapN rfl _))
       clear ht2 hg2 hl2)
    | (refine step_byte (B := B) (l := l ++ [40] ++ shw x) (v := v2) _ rfl (.tmp 19) (.tmp 20) rfl ?_ ?_ (W.heap.size) ?_ 41 ?_ ?_ ?_
       · simp [Act.eval]
       · exact HT2.out
       · simp [Act.eval]
       · exact H42.out
       · (simp; omega)
       intro g3 cap3 w3 ht3 hg3 hat3
       have HT3 := Lib.hid ht3
       have HGC := Lib.hid (grow_trans HGB.out HLB.out hg3)
       have HLC := Lib.hid (show Lies w v (.slice (some ⟨g3, 0, none⟩) ((l ++ [40] ++ shw x).length + 1) cap3) from Lies.trans HLB.out HGB.out.size (lies_of (Nat.le_refl _) hat3))
       clear ht3 hg3 hat3)
    | (refine step_byte (B := B) (l := l ++ [40] ++ shw x) (v := v2) _ rfl (.tmp 19) (.tmp 20) rfl ?_ ?_ (W.heap.size + 1) ?_ 41 ?_ ?_ ?_
       · simp [Act.eval]
       · exact HT2.out
       · simp [Act.eval]
       · exact H42.out
       · (simp; omega)
       intro g3 cap3 w3 ht3 hg3 hat3
       have HT3 := Lib.hid ht3
       have HGC := Lib.hid (grow_trans HGB.out HLB.out hg3)
       have HLC := Lib.hid (show Lies w v (.slice (some ⟨g3, 0, none⟩) ((l ++ [40] ++ shw x).length + 1) cap3) from Lies.trans HLB.out HGB.out.size (lies_of (Nat.le_refl _) hat3))
       clear ht3 hg3 hat3)
    | (refine step_byte (B := B) (l := l ++ [40] ++ shw x) (v := v2) _ rfl (.tmp 19) (.tmp 20) rfl ?_ ?_ (w1.heap.size) ?_ 41 ?_ ?_ ?_
       · simp [Act.eval]
       · exact HT2.out
       · simp [Act.eval]
       · exact H42.out
       · (simp; omega)
       intro g3 cap3 w3 ht3 hg3 hat3
       have HT3 := Lib.hid ht3
       have HGC := Lib.hid (grow_trans HGB.out HLB.out hg3)
       have HLC := Lib.hid (show Lies w v (.slice (some ⟨g3, 0, none⟩) ((l ++ [40] ++ shw x).length + 1) cap3) from Lies.trans HLB.out HGB.out.size (lies_of (Nat.le_refl _) hat3))
       clear ht3 hg3 hat3)
    | (refine step_byte (B := B) (l := l ++ [40] ++ shw x) (v := v2) _ rfl (.tmp 19) (.tmp 20) rfl ?_ ?_ (w2.heap.size) ?_ 41 ?_ ?_ ?_
       · simp [Act.eval]
       · exact HT2.out.alloc _
       · simp [Act.eval]
       · exact heapN rfl _
       · (simp; omega)
       intro g3 cap3 w3 ht3 hg3 hat3
       have HT3 := Lib.hid ht3
       have HGC := Lib.hid (grow_trans (grow_trans HGB.out HLB.out (grow_below ((Below.refl _ _).alloc (Nat.le_refl _) (.cells #[.int .u8 41] 5)) _)) HLB.out hg3)
       have HLC := Lib.hid (show Lies w v (.slice (some ⟨g3, 0, none⟩) ((l ++ [40] ++ shw x).length + 1) cap3) from Lies.trans HLB.out HGB.out.size (lies_of (by simp) hat3))
       clear ht3 hg3 hat3))
  all_goals
    go_wp2
    go_ret
    refine ⟨_, rfl, ?_, HGC.out, HLC.out⟩
    have e1 : l ++ (40 :: (shw x ++ [41])) = l ++ [40] ++ shw x ++ [41] := by simp
    rw [e1]
    exact txt_len HT3.out (by simp)
end Go.Proofs.YtodijgndbjfbgaaGreatDoor
